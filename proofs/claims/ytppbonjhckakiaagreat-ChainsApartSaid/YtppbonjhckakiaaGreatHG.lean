/-
  WALKS: canReplace, writeList, storeList, storeDouble, on a deal with a crown. Condition: a deal on a calm slab.
-/
import Derived.Test.YtppbonjhckakiaaGreatHF
import Derived.Test.YtppbonjhckakiaaGreatHS
import Derived.Test.YtppbonjhckakiaaGreatHA
set_option linter.unusedVariables false
set_option linter.unusedSimpArgs false
set_option maxRecDepth 100000
set_option maxHeartbeats 4000000
namespace Go.Proofs.YtppbonjhckakiaaGreat.Dl
open Go.RowKit
open Mk
open Sl (Turns)
open Kr (crv rightK kf kb kc KBox cells3 I64 inB)
open La (OwnLst nilS NewLst DblSt)

/-! ### blocks that a deal doesn't touch -/
section
variable {w0 w w' : World} {B d q p pd pm k c : Nat} {E F : Bxs} {N : Nat} {D V V' : List ByteArray}
theorem Bxs.fit.app (h : Bxs.fit E w) (h2 : Bxs.fit F w) : Bxs.fit (E ++ F) w := fun x hx => by
  rcases List.mem_append.1 hx with hx | hx
  · exact h x hx
  · exact h2 x hx
theorem Bxs.fit.sub (h : Bxs.fit F w) (hs : ∀ x ∈ E, x ∈ F) : Bxs.fit E w := fun x hx => h x (hs x hx)
theorem Bxs.fit.lt (h : Bxs.fit F w) {x : Nat × Array Value × TypeId} (hx : x ∈ F) : x.1 < w.heap.size := (Array.getElem?_eq_some_iff.1 (h x hx).1).1
theorem Bxs.fit.below (h : Bxs.fit F w) (hb : Below w.heap.size w w') : Bxs.fit F w' := h.turns (Turns.of_below [] hb) (by simp)
theorem Bxs.one {j : Nat} {cs : Array Value} {ty : TypeId} (hx : w.heap[j]? = some (.cells cs ty (0, 0))) (ht : ty ≠ 101 ∧ ty ≠ 68) : Bxs.fit [(j, cs, ty)] w := fun x hm => by
  rcases List.mem_singleton.1 hm with rfl
  exact ⟨hx, ht⟩
theorem Dk.with (h : Dk w0 w B d q p pd pm k c F N D V) (hE : Bxs.fit E w) : Dk w0 w B d q p pd pm k c E N D V := ⟨h.ex, h.hN, hE, h.hb, h.hd, h.hB⟩
theorem Dk.turns {L : List Nat} (h : Dk w0 w B d q p pd pm k c F N D V) (t : Turns L w w') (hL : ∀ j ∈ L, B ≤ j ∧ (∃ cs ty, w.heap[j]? = some (.cells cs ty (0, 0)) ∧ ty ≠ 101 ∧ ty ≠ 68) ∧ ∀ x ∈ F, x.1 ≠ j) : Dk w0 w' B d q p pd pm k c F N D V := by
  obtain ⟨v, dv⟩ := h.ex
  refine ⟨⟨v, dv.turns t fun j hj => ⟨(hL j hj).1, fun e => ?_⟩⟩, h.hN, h.fx.turns t fun x hx hm => (hL _ hm).2.2 x hx rfl, h.hb.trans (t.below h.hb.size fun j hj => Nat.le_trans h.hB (hL j hj).1), h.hd, h.hB⟩
  obtain ⟨_, ⟨cs, ty, h1, h2, h3⟩, _⟩ := hL j hj
  obtain ⟨cs2, ht⟩ := dv.own_tag e
  exact tag_ne h1 ht h3 rfl
/-- a block's number beyond all of F and the deal's first block, in every world that has them. -/
def bsF (F : Bxs) (B : Nat) : Nat := F.foldr (fun x n => max (x.1 + 1) n) B
theorem bsF_B (F : Bxs) (B : Nat) : B ≤ bsF F B := by
  induction F with
  | nil => exact Nat.le_refl _
  | cons x F ih => show B ≤ max _ _; have : B ≤ bsF F B := ih; unfold bsF at this; omega
theorem bsF_lt (F : Bxs) (B : Nat) : ∀ x ∈ F, x.1 < bsF F B := by
  induction F with
  | nil => intro x hx; cases hx
  | cons y F ih =>
    intro x hx
    show x.1 < max (y.1 + 1) (bsF F B)
    rcases List.mem_cons.1 hx with rfl | hx
    · omega
    · have := ih x hx; omega
theorem bsF_le (F : Bxs) (B : Nat) {n : Nat} (hB : B ≤ n) : (∀ x ∈ F, x.1 < n) → bsF F B ≤ n := by
  induction F with
  | nil => intro _; exact hB
  | cons y F ih =>
    intro h
    show max (y.1 + 1) (bsF F B) ≤ n
    have h1 := h y (List.mem_cons_self ..)
    have h2 := ih fun x hx => h x (List.mem_cons_of_mem _ hx)
    omega
theorem Dk.bs (h : Dk w0 w B d q p pd pm k c F N D V) : bsF F B ≤ w.heap.size := bsF_le F B h.hBs fun x hx => h.fx.lt hx
theorem own_fr {base n : Nat} {v : Value} {xs : List Value} (h : w.ownsRow base 3 1 v n xs) : ∃ E : Bxs, Bxs.fit E w ∧ (∀ x ∈ E, base ≤ x.1) ∧ ∀ w', Bxs.fit E w' → w'.ownsRow base 3 1 v n xs := by
  rcases h.2 with ⟨rfl, h0⟩ | ⟨g, cap, cur, rfl, h1, h2, h3⟩
  · exact ⟨[], by simp [Bxs.fit], by simp, fun w' _ => ⟨h.1, .inl ⟨rfl, h0⟩⟩⟩
  · exact ⟨[(g, cur, 3)], Bxs.one h2 (by decide), by simp [h1], fun w' hf => ⟨h.1, .inr ⟨g, cap, cur, rfl, h1, (hf _ (List.mem_singleton.2 rfl)).1, h3⟩⟩⟩
theorem Dk.grown {base n : Nat} {v : Value} {xs : List Value} (h : Dk w0 w B d q p pd pm k c F N D V) (hown : w.ownsRow base 3 1 v n xs) (hg : w.grownBy w' v.ownBlock) (hb : B ≤ base) (hF : ∀ x ∈ F, x.1 < base) : Dk w0 w' B d q p pd pm k c F N D V := by
  have t : Turns (match v.ownBlock with | some g => [g] | none => []) w w' := Turns.of_grown hg (by intro j e; rw [e]; simp)
  refine h.turns t ?_
  rcases hown.2 with ⟨rfl, h0⟩ | ⟨g, cap, cur, rfl, h1, h2, h3⟩
  · intro j hj; simp [Value.ownBlock] at hj
  · intro j hj
    have : j = g := by simpa [Value.ownBlock] using hj
    subst this
    exact ⟨Nat.le_trans hb h1, ⟨cur, 3, h2, by decide, by decide⟩, fun x hx e => by have := hF x hx; omega⟩
end
/-- 'append(s, x)' of an int, for the walk to take; the world grows at the row alone. -/
theorem pushT_law {ops : Array Oper} {rest : List Oper} {o : Oper} {a : Act} {Q : Exit → Act → World → Prop} (hgd : o.guard = none) (s x : Operand)
    (ho : o.op = .call { callee := .builtin .append, args := #[s, x], argTypes := #[27, 27] })
    (base : Nat) (W : World) (v : Value) (l : List Int) (z : Int) (hs : a.eval s = v) (hx : a.eval x = .slice (some ⟨W.heap.size, 0, none⟩) 1 1)
    (hown : W.ownsRow base 3 1 v l.length (La.ints l)) (hl : l.length ≤ 1000000) (hbase : base ≤ W.heap.size)
    (h : ∀ v' w', w'.ownsRow base 3 1 v' (l ++ [z]).length (La.ints (l ++ [z])) → (W.alloc (.cells #[.int .i64 z] 3)).ownsRow base 3 1 v l.length (La.ints l) → (W.alloc (.cells #[.int .i64 z] 3)).grownBy w' v.ownBlock → wpList Tryz.prog ops Q rest (a.put o.dst v') w') :
    wpList Tryz.prog ops Q (o :: rest) a (W.alloc (.cells #[.int .i64 z] 3)) := by
  obtain ⟨i0, hi, hz0, hz1, hz2⟩ := info_parts Tryz.info3
  refine wpList_append_own _ hgd s x 27 ho base 3 i0 _ 1 8 Tryz.underlying27 hi hz0 hz1 hz2 rfl (by decide) v l.length (La.ints l) hs (hown.alloc _) ⟨W.heap.size, 0, none⟩ 1 1 [.int .i64 z] hx rfl
    (World.news_of_block (heap_alloc_new W _)) (La.one_cellI z) (by unfold maxLen; omega) (by omega) (by simp; omega) ?_
  intro v' w' hown' hg _
  refine h v' w' ?_ (hown.alloc _) hg
  rw [La.ints_snoc, List.length_append]; exact hown'

/-! ### lists among them -/
def InF (F : Bxs) (v : Value) : Option (List Int) → Prop
  | none => v = nilS
  | some l => ∃ g, v = .slice (some ⟨g, 0, none⟩) l.length l.length ∧ (g, (La.ints l).toArray, 3) ∈ F
theorem InF.mono {E F : Bxs} {v : Value} {o : Option (List Int)} (h : InF E v o) (hs : ∀ x ∈ E, x ∈ F) : InF F v o := by
  cases o with
  | none => exact h
  | some l => obtain ⟨g, h1, h2⟩ := h; exact ⟨g, h1, hs _ h2⟩
theorem InF.form {F : Bxs} {v : Value} {o : Option (List Int)} (h : InF F v o) : ∃ A cp, v = .slice A (o.getD []).length cp := by
  cases o with
  | none => exact ⟨none, 0, h⟩
  | some l => obtain ⟨g, h1, h2⟩ := h; exact ⟨_, _, h1⟩
theorem InF.ints {F : Bxs} {w : World} {A : Option Addr} {n cp : Nat} {o : Option (List Int)} (h : InF F (.slice A n cp) o) (hf : Bxs.fit F w) (hz : ∀ l, o = some l → ∀ z ∈ l, La.Fit z) : IntsAt w w.heap.size A (o.getD []).length (o.getD []) := by
  cases o with
  | none =>
    have h : Value.slice A n cp = nilS := h
    injection h with h1
    subst h1
    exact La.IntsAt.nil _ _ _
  | some l =>
    obtain ⟨g, e, h2⟩ := h
    injection e with e1
    subst e1
    have hr : La.IntRow w g l := (hf _ h2).1
    exact hr.ints (hz l rfl) hr.lt
theorem InF.of_new {w : World} {base : Nat} {v : Value} {o : Option (List Int)} (h : NewLst base w v o) : ∃ G : Bxs, Bxs.fit G w ∧ InF G v o ∧ ∀ x ∈ G, base ≤ x.1 := by
  cases o with
  | none => exact ⟨[], by simp [Bxs.fit], h, by simp⟩
  | some l =>
    obtain ⟨b, hb, e, hr⟩ := h
    exact ⟨[(b, (La.ints l).toArray, 3)], Bxs.one hr (by decide), ⟨b, e, List.mem_singleton.2 rfl⟩, by simp [hb]⟩
def DblF (F : Bxs) (v : Value) (st : Nat → Option (List Int)) : Prop :=
  (v = nilS ∧ ∀ j, j < 8 → st j = none) ∨ ∃ (g : Nat) (us : List Value), v = .slice (some ⟨g, 0, none⟩) 8 8 ∧ us.length = 8 ∧ (g, us.toArray, 27) ∈ F ∧ (∀ j, j < 8 → InF F (us.getD j nilS) (st j)) ∧ ∃ j, j < 8 ∧ st j ≠ none
theorem DblF.mono {E F : Bxs} {v : Value} {st : Nat → Option (List Int)} (h : DblF E v st) (hs : ∀ x ∈ E, x ∈ F) : DblF F v st := by
  rcases h with h | ⟨g, us, h1, h2, h3, h4, h5⟩
  · exact .inl h
  · exact .inr ⟨g, us, h1, h2, hs _ h3, fun j hj => (h4 j hj).mono hs, h5⟩
theorem DblF.of_new {w : World} {base : Nat} {v : Value} {st : Nat → Option (List Int)} (h : DblSt base w v st) : ∃ G : Bxs, Bxs.fit G w ∧ DblF G v st ∧ ∀ x ∈ G, base ≤ x.1 := by
  rcases h with ⟨h1, h2⟩ | ⟨g, us, h1, h2, h3, h4, h5, h6⟩
  · exact ⟨[], by simp [Bxs.fit], .inl ⟨h1, h2⟩, by simp⟩
  · have hk : ∀ n, n ≤ 8 → ∃ G : Bxs, Bxs.fit G w ∧ (∀ j, j < n → InF G (us.getD j nilS) (st j)) ∧ ∀ x ∈ G, base ≤ x.1 := by
      intro n
      induction n with
      | zero => intro _; exact ⟨[], by simp [Bxs.fit], fun j hj => absurd hj (Nat.not_lt_zero _), by simp⟩
      | succ n ih =>
        intro hn
        obtain ⟨G, g1, g2, g3⟩ := ih (by omega)
        obtain ⟨G2, k1, k2, k3⟩ := InF.of_new (h5 n (by omega))
        refine ⟨G ++ G2, g1.app k1, fun j hj => ?_, fun x hx => ?_⟩
        · by_cases e : j = n
          · subst e; exact k2.mono fun x hx => List.mem_append_right _ hx
          · exact (g2 j (by omega)).mono fun x hx => List.mem_append_left _ hx
        · rcases List.mem_append.1 hx with hx | hx
          · exact g3 x hx
          · exact k3 x hx
    obtain ⟨G, g1, g2, g3⟩ := hk 8 (Nat.le_refl _)
    refine ⟨(g, us.toArray, 27) :: G, (Bxs.one h4 (by decide)).app g1, .inr ⟨g, us, h2, h3, List.mem_cons_self .., fun j hj => (g2 j hj).mono fun x hx => List.mem_cons_of_mem _ hx, h6⟩, fun x hx => ?_⟩
    rcases List.mem_cons.1 hx with rfl | hx
    · exact h1
    · exact g3 x hx

/-! ### the walks -/
section
variable {w0 w : World} {B d q p pd pm k c : Nat} {F : Bxs} {N : Nat} {D V : List ByteArray} {b : Nat} {m : ByteArray}
theorem canrep_any (h : Dk w0 w B d q p pd pm k c F N D V) (hc : Crd V b m) (A : Option Addr) (n cp Bl : Nat) (L : List Int) (nd : Nat) (hA : IntsAt w Bl A n L) (hBl : Bl ≤ w.heap.size) (hn : n ≤ 1000) (hnd : nd ≤ 1000) (hu : ∀ x ∈ L, 51 ≤ x ∧ x < b ∧ bitN m x.toNat = true) :
    Calls Tryz.prog 38 #[.pointer (some ⟨d, 0, none⟩), .slice A n cp, .int .i64 (nd : Int)] w fun e w' => e = .returned (.int .i64 (if fcn m b + n < nd then 10 else 0)) ∧ Below w.heap.size w w' := by
  have HL := Lib.hid hA.len
  have HA := Lib.hid hA
  have HBL := Lib.hid hBl
  have hb2 := hc.b2
  have HU : Hid (∀ W, Below w.heap.size w W → ∀ t, t < n → Calls Tryz.prog 19 #[.pointer (some ⟨d, 0, none⟩), .int .i64 (L.getD t 0)] W fun e w' => e = .returned (.tuple #[.bool true, .int .i64 0]) ∧ Below W.heap.size W w') := fun W hW t ht => by
    have hm : L.getD t 0 ∈ L := by
      rw [show L.getD t 0 = L[t]'(by rw [hA.len]; exact ht) by simp [List.getD, List.getElem?_eq_getElem (show t < L.length by rw [hA.len]; exact ht)]]
      exact List.getElem_mem _
    obtain ⟨u1, u2, u3⟩ := hu _ hm
    have := used_dk (L.getD t 0) (h.below hW) (by unfold I64; omega)
    obtain ⟨i, hi⟩ := Int.eq_ofNat_of_zero_le (show 0 ≤ L.getD t 0 by omega)
    rw [hi] at this u1 u2 u3 ⊢
    obtain ⟨c1, c2⟩ := hc.used (i := i) (by omega) (by omega)
    rw [c1, c2] at this
    rw [Int.toNat_natCast] at u3
    rw [u3] at this
    exact this
  have HFR : Hid (∀ W, Below w.heap.size w W → Calls Tryz.prog 12 #[.pointer (some ⟨d, 0, none⟩)] W fun e w' => e = .returned (.tuple #[.int .i64 (fcn m b : Nat), .int .i64 0]) ∧ Below W.heap.size W w') := fun W hW => by
    have := free_dk (h.below hW)
    obtain ⟨c1, c2⟩ := hc.free
    rwa [c1, c2] at this
  have hfl := fcn_le m b
  clear h hc hA hBl hu
  generalize fcn m b = fr at *
  obtain ⟨z, hz⟩ : ∃ z, (if fr + n < nd then (10 : Int) else 0) = z := ⟨_, rfl⟩
  simp only [hz]
  have HZ := Lib.hid hz
  clear hz
  go_enter Tryz.func38, Tryz.ntmps38
  go_wp2
  go_loopw [8, 9, 10, 15] (fun _ _ _ i wr => ∃ t : Nat, t ≤ n ∧ i = .int .i64 (t : Int) ∧ Hid (Below w.heap.size w wr)) (fun _ _ _ i _ => n - (intOf i).toNat)
  case atStart => exact ⟨0, by omega, rfl, Below.refl _ _⟩
  case round =>
    obtain ⟨t, ht, rfl, hb⟩ := hrel
    by_cases hlt : t < n
    · have hlt2 : (t : Int) < (n : Int) := by omega
      obtain ⟨bb, o, rfl, hbB, h1⟩ := (HA.out.below hb.out HBL.out).at_ hlt
      have HUT := Lib.hid (HU.out wr hb.out t hlt)
      generalize L.getD t 0 = z at *
      go_wp2_with (go_at_call 19; refine HUT.out.mono ?_; rintro e w2 ⟨rfl, b2⟩; have HB2 := Lib.hid (hb.out.trans (b2.mono hb.out.size)); clear b2)
      go_roundw
      case rel => exact ⟨t + 1, by omega, by go_num, HB2.out⟩
      case measure => simp [intOf]; omega
    · have hlt2 : ¬ (t : Int) < (n : Int) := by omega
      have HFT := Lib.hid (HFR.out wr hb.out)
      by_cases hs : fr + n < nd
      · have hs2 : (fr : Int) + (n : Int) < (nd : Int) := by omega
        have HS := Lib.hid hs
        clear hs
        go_wp2_with (go_at_call 12; refine HFT.out.mono ?_; rintro e w2 ⟨rfl, b2⟩; have HB2 := Lib.hid (hb.out.trans (b2.mono hb.out.size)); clear b2)
        go_ret
        exact ⟨by rw [← HZ.out, if_pos HS.out]; rfl, HB2.out⟩
      · have hs2 : ¬ (fr : Int) + (n : Int) < (nd : Int) := by omega
        have HS := Lib.hid hs
        clear hs
        go_wp2_with (go_at_call 12; refine HFT.out.mono ?_; rintro e w2 ⟨rfl, b2⟩; have HB2 := Lib.hid (hb.out.trans (b2.mono hb.out.size)); clear b2)
        go_ret
        exact ⟨by rw [← HZ.out, if_neg HS.out]; rfl, HB2.out⟩
theorem writelist_any (h : Dk w0 w B d q p pd pm k c F N D V) (i : Int) (A : Option Addr) (n cp Bl : Nat) (l : List Int) (hA : IntsAt w Bl A n l) (hBl : Bl ≤ w.heap.size) (hn : n ≤ 1000) :
    Calls Tryz.prog 76 #[.pointer (some ⟨d, 0, none⟩), .int .i64 i, .slice A n cp] w fun e w' => e = .returned (.tuple #[]) ∧ Dk w0 w' B d q p pd pm k c F N D (wrV V i (La.writeL l).1) := by
  have HW := Lib.hid (La.lwrite_any A n cp Bl l w hA hBl (by omega))
  have HD := Lib.hid (fun W (hW : Below w.heap.size w W) => dk_write (h.below hW) i (La.writeL l).1 (by have := La.writeL_size l; omega))
  clear h hA
  generalize La.writeL l = wl at *
  obtain ⟨s, er⟩ := wl
  simp only at HW HD ⊢
  go_enter Tryz.func76, Tryz.ntmps76
  go_wp2_with (first
    | (go_at_call 116; refine HW.out.mono ?_; rintro e w2 ⟨rfl, b2⟩; have HB2 := Lib.hid b2; clear b2)
    | (go_at_call 22; refine (HD.out _ HB2.out).mono ?_; rintro e w3 ⟨rfl, d3⟩))
  go_end0
  exact ⟨rfl, d3⟩
theorem storelist_any (h : Dk w0 w B d q p pd pm k c F N D V) (v : Value) (o : Option (List Int)) (hv : InF F v o) (hz : ∀ l, o = some l → (∀ z ∈ l, La.Fit z) ∧ l.length ≤ 1000) :
    Calls Tryz.prog 41 #[.pointer (some ⟨d, 0, none⟩), v] w fun e w' => e = .returned (.int .i64 (stL V (o.getD [])).2) ∧ Dk w0 w' B d q p pd pm k c F N D (stL V (o.getD [])).1 := by
  obtain ⟨A, cp, rfl⟩ := hv.form
  have hlen : (o.getD []).length ≤ 1000 := by cases o with | none => exact Nat.zero_le _ | some l => exact (hz l rfl).2
  have HI := Lib.hid (fun W (hW : Bxs.fit F W) => hv.ints hW (fun l e => (hz l e).1))
  clear hv hz
  generalize o.getD [] = l at *
  unfold stL
  by_cases h0 : l.length = 0
  · rw [if_pos h0]
    simp only
    have HD := Lib.hid h
    have hl0 : ((l.length : Int) == 0) = true := by simp [h0]
    clear h h0
    go_enter Tryz.func41, Tryz.ntmps41
    go_wp2
    go_ret
    exact ⟨rfl, HD.out⟩
  · rw [if_neg h0]
    simp only
    have hl0 : ((l.length : Int) == 0) = false := by rw [beq_eq_false_iff_ne]; omega
    have HT := Lib.hid (take_dk h)
    clear h h0
    generalize rnV V 1 = V1 at *
    generalize rnA V 1 = a at *
    generalize rnE V 1 = z at *
    go_enter Tryz.func41, Tryz.ntmps41
    go_wp2_with (first
      | (go_at_call 75; refine HT.out.mono ?_; rintro e w2 ⟨rfl, d2⟩
         have HW := Lib.hid (writelist_any d2 a A l.length cp w2.heap.size l (HI.out w2 d2.fx) (Nat.le_refl _) hlen)
         clear d2)
      | (go_at_call 76; refine HW.out.mono ?_; rintro e w3 ⟨rfl, d3⟩))
    go_ret
    exact ⟨rfl, d3⟩
end
end Go.Proofs.YtppbonjhckakiaaGreat.Dl
