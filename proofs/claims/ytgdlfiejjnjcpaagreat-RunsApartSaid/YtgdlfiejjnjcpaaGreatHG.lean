/-
  WALKS: Load, Lists; canReplace; store, on a deal with a crown. Condition: a deal on a calm slab.
-/
import Derived.Test.YtgdlfiejjnjcpaaGreatHF
import Derived.Test.YtgdlfiejjnjcpaaGreatSMap
import Derived.Test.YtgdlfiejjnjcpaaGreatHX
set_option linter.unusedVariables false
set_option linter.unusedSimpArgs false
set_option maxRecDepth 100000
set_option maxHeartbeats 4000000
namespace Go.Proofs.YtgdlfiejjnjcpaaGreat.Dl
open Go.RowKit
open Mk
open Sl (Turns)
open Kr (crv rightK kf kb kc KBox cells3 I64 inB)

/-! ### Load, Lists -/
/-- a row of ints that is there to be read. -/
def MRow (W : World) (g : Nat) (l : List Int) : Prop := g < W.heap.size ∧ (∀ z ∈ l, Fit z) ∧ ∀ k, k < l.length → W.cell? ⟨g, k, none⟩ = some (.int .i64 (l.getD k 0))
theorem MRow.lt {W : World} {g : Nat} {l : List Int} (h : MRow W g l) : g < W.heap.size := h.1
theorem MRow.cell {W : World} {g : Nat} {l : List Int} (h : MRow W g l) (k : Nat) (hk : k < l.length) : W.cell? ⟨g, k, none⟩ = some (.int .i64 (l.getD k 0)) := h.2.2 k hk
theorem MRow.below {W W' : World} {g C : Nat} {l : List Int} (h : MRow W g l) (hb : Below C W W') (hs : W.heap.size ≤ C) : MRow W' g l := ⟨Nat.lt_of_lt_of_le h.1 hb.size, h.2.1, fun k hk => (hb.cell (p := ⟨g, k, none⟩) (Nat.lt_of_lt_of_le h.1 hs)).trans (h.2.2 k hk)⟩
theorem MRow.ints {W : World} {g : Nat} {l : List Int} (h : MRow W g l) : IntsAt W W.heap.size (some ⟨g, 0, none⟩) l.length l := ⟨rfl, h.2.1, fun k hk => ⟨g, 0, rfl, h.1, by rw [Nat.zero_add]; exact h.2.2 k hk⟩⟩
theorem spU_mid {s : Sp} (h : spU s) : s.mid := small_mid (spU_small h)
/-- the answer of Load. -/
def RetLoad (w : World) (r : Option (List Sp × List Int)) (t : Bool) (e : Ending) (w' : World) : Prop :=
  match t, r with
  | false, _ => e = .returned (.tuple #[.slice none 0 0, .int .i64 1]) ∧ Below w.heap.size w w'
  | true, none => e = .returned (.tuple #[.slice none 0 0, .int .i64 15]) ∧ Below w.heap.size w w'
  | true, some (l, _) => ∃ g, w.heap.size ≤ g ∧ e = .returned (.tuple #[.slice (some ⟨g, 0, none⟩) 120 120, .int .i64 0]) ∧ MRow w' g (mapR l 120) ∧ Below w.heap.size w w'
/-- the answer of Lists. -/
def RetLists (w : World) (r : Option (List Sp × List Int)) (t : Bool) (e : Ending) (w' : World) : Prop :=
  match t, r with
  | false, _ => e = .returned (.tuple #[.slice none 0 0, .int .i64 1]) ∧ Below w.heap.size w w'
  | true, none => e = .returned (.tuple #[.slice none 0 0, .int .i64 15]) ∧ Below w.heap.size w w'
  | true, some (_, bl) => ∃ v, e = .returned (.tuple #[v, .int .i64 0]) ∧ w'.ownsRow w.heap.size 3 1 v bl.length (Lg.ints bl) ∧ Below w.heap.size w w'
section
variable {w0 w : World} {B d q p pd pm k c : Nat} {F : Bxs} {N : Nat} {D V : List ByteArray} {b : Nat} {m : ByteArray}
theorem loadf_any (h : Dk w0 w B d q p pd pm k c F N D V) (hc : Crd V b m) (x : Cd) (A : Option Addr) (n kp : Nat) (A' : Option Addr) (n' k' Bc : Nat) (hx : CdAt w Bc (cdv x A n kp A' n' k') x) (hBc : Bc ≤ w.heap.size) :
    Calls Tryz.prog 16 #[.pointer (some ⟨d, 0, none⟩), cdv x A n kp A' n' k'] w (RetLoad w (ldR V b x.rs x.ov) (isTwo x)) := by
  have HB1 : Hid (Below w.heap.size w (w.alloc (.cells (cells9 x A n kp A' n' k') 30))) := (Below.refl _ _).alloc (Nat.le_refl _) _
  have HC1 : Hid (CdRow (w.alloc (.cells (cells9 x A n kp A' n' k') 30)) w.heap.size x A n kp A' n' k') := CdRow.new _ _ _ _ _ _ _ _
  cases ho : isTwo x with
  | false =>
    have HL := Lib.hid (load_bad (h.below HB1.out) hc x A n kp A' n' k' Bc (hx.below HB1.out hBc) (Nat.le_trans hBc HB1.out.size) ho)
    clear hx h hc ho
    unfold cells9 at *
    obtain ⟨e0, e1, e2, e3, e4, e5, e6, e7, e8⟩ := HC1.out.cells
    go_enter Tryz.func16, Tryz.ntmps16
    go_wp2_with (go_at_call 44; refine HL.out.mono ?_; rintro e w2 ⟨rfl, b2⟩)
    go_ret2
    exact ⟨rfl, HB1.out.trans (b2.mono HB1.out.size)⟩
  | true =>
    have HL := Lib.hid (load_two (h.below HB1.out) hc x A n kp A' n' k' Bc (hx.below HB1.out hBc) (Nat.le_trans hBc HB1.out.size) ho)
    unfold RetLd at HL
    clear hx h hc
    unfold cells9 at *
    obtain ⟨e0, e1, e2, e3, e4, e5, e6, e7, e8⟩ := HC1.out.cells
    cases hr : ldR V b x.rs x.ov with
    | none =>
      rw [hr] at HL
      simp only at HL
      clear ho hr
      go_enter Tryz.func16, Tryz.ntmps16
      go_wp2_with (go_at_call 44; refine HL.out.mono ?_; rintro e w2 ⟨rfl, b2⟩)
      go_ret2
      exact ⟨rfl, HB1.out.trans (b2.mono HB1.out.size)⟩
    | some r =>
      obtain ⟨l, bl⟩ := r
      rw [hr] at HL
      simp only at HL
      have HSU := Lib.hid (fun s hs => spU_mid (rightS_u (ld_right hr) s hs))
      have hll := rightS_len (ld_right hr)
      clear ho hr
      go_enter Tryz.func16, Tryz.ntmps16
      go_wp2_with (first
        | (go_at_call 44; refine HL.out.mono ?_; rintro e w2 ⟨v1, v2, rfl, o1, o2, b2⟩
           have HB2 := Lib.hid (HB1.out.trans (b2.mono HB1.out.size))
           obtain ⟨A1, c1, rfl, -⟩ := own_sps o1
           obtain ⟨A2, c2, rfl, -⟩ := Lg.own_slice o2
           have HMP := Lib.hid (map_nat A1 l.length c1 w2.heap.size l 120 w2 (SpsAt.of_own o1 rfl (fun s hs => mid_fit (HSU.out s hs))) (Nat.le_refl _) (by omega) HSU.out (by omega))
           unfold RetMapR at HMP
           rw [mapR_len, show ((120 : Nat) : Int) = 120 from rfl] at HMP
           clear b2 o1 o2)
        | (go_at_call 45; refine HMP.out.mono ?_; rintro e w3 ⟨rfl, r3, f3, l3, b3⟩))
      go_ret2
      exact ⟨w2.heap.size, HB2.out.size, rfl, ⟨l3, f3, fun k hk => (r3 k (by rw [mapR_len] at hk; exact hk)).1⟩, HB2.out.trans (b3.mono HB2.out.size)⟩
theorem lists_any (h : Dk w0 w B d q p pd pm k c F N D V) (hc : Crd V b m) (x : Cd) (A : Option Addr) (n kp : Nat) (A' : Option Addr) (n' k' Bc : Nat) (hx : CdAt w Bc (cdv x A n kp A' n' k') x) (hBc : Bc ≤ w.heap.size) :
    Calls Tryz.prog 17 #[.pointer (some ⟨d, 0, none⟩), cdv x A n kp A' n' k'] w (RetLists w (ldR V b x.rs x.ov) (isTwo x)) := by
  have HB1 : Hid (Below w.heap.size w (w.alloc (.cells (cells9 x A n kp A' n' k') 30))) := (Below.refl _ _).alloc (Nat.le_refl _) _
  have HC1 : Hid (CdRow (w.alloc (.cells (cells9 x A n kp A' n' k') 30)) w.heap.size x A n kp A' n' k') := CdRow.new _ _ _ _ _ _ _ _
  cases ho : isTwo x with
  | false =>
    have HL := Lib.hid (load_bad (h.below HB1.out) hc x A n kp A' n' k' Bc (hx.below HB1.out hBc) (Nat.le_trans hBc HB1.out.size) ho)
    clear hx h hc ho
    unfold cells9 at *
    obtain ⟨e0, e1, e2, e3, e4, e5, e6, e7, e8⟩ := HC1.out.cells
    go_enter Tryz.func17, Tryz.ntmps17
    go_wp2_with (go_at_call 44; refine HL.out.mono ?_; rintro e w2 ⟨rfl, b2⟩)
    go_ret2
    exact ⟨rfl, HB1.out.trans (b2.mono HB1.out.size)⟩
  | true =>
    have HL := Lib.hid (load_two (h.below HB1.out) hc x A n kp A' n' k' Bc (hx.below HB1.out hBc) (Nat.le_trans hBc HB1.out.size) ho)
    unfold RetLd at HL
    clear hx h hc
    unfold cells9 at *
    obtain ⟨e0, e1, e2, e3, e4, e5, e6, e7, e8⟩ := HC1.out.cells
    cases hr : ldR V b x.rs x.ov with
    | none =>
      rw [hr] at HL
      simp only at HL
      clear ho hr
      go_enter Tryz.func17, Tryz.ntmps17
      go_wp2_with (go_at_call 44; refine HL.out.mono ?_; rintro e w2 ⟨rfl, b2⟩)
      go_ret2
      exact ⟨rfl, HB1.out.trans (b2.mono HB1.out.size)⟩
    | some r =>
      obtain ⟨l, bl⟩ := r
      rw [hr] at HL
      simp only at HL
      clear ho hr
      go_enter Tryz.func17, Tryz.ntmps17
      go_wp2_with (go_at_call 44; refine HL.out.mono ?_; rintro e w2 ⟨v1, v2, rfl, o1, o2, b2⟩
                   have HO2 := Lib.hid o2
                   have HB2 := Lib.hid b2
                   obtain ⟨A1, c1, rfl, -⟩ := own_sps o1
                   obtain ⟨A2, c2, rfl, -⟩ := Lg.own_slice o2
                   clear o1 o2 b2
                   generalize hnb : bl.length = nb at *
                   have HNB := Lib.hid hnb
                   clear hnb)
      go_ret2
      exact ⟨_, rfl, by rw [HNB.out]; exact own_base HO2.out HB1.out.size, HB1.out.trans (HB2.out.mono HB1.out.size)⟩
end

/-! ### blocks that a deal doesn't touch -/
section
variable {w0 w w' : World} {B d q p pd pm k c : Nat} {E F : Bxs} {N : Nat} {D V V' : List ByteArray}
theorem Bxs.fit.app (h : Bxs.fit E w) (h2 : Bxs.fit F w) : Bxs.fit (E ++ F) w := fun x hx => by
  rcases List.mem_append.1 hx with hx | hx
  · exact h x hx
  · exact h2 x hx
theorem Bxs.fit.sub (h : Bxs.fit F w) (hs : ∀ x ∈ E, x ∈ F) : Bxs.fit E w := fun x hx => h x (hs x hx)
theorem Bxs.fit.lt (h : Bxs.fit F w) {x : Nat × Array Value × TypeId} (hx : x ∈ F) : x.1 < w.heap.size := (Array.getElem?_eq_some_iff.1 (h x hx).1).1
theorem Bxs.fit.below (h : Bxs.fit F w) (hb : Below w.heap.size w w') : Bxs.fit F w' := h.turns (Turns.of_below [] hb) (by simp)
theorem Bxs.one {j : Nat} {cs : Array Value} {ty : TypeId} (hx : w.heap[j]? = some (.cells cs ty (0, 0))) (ht : ty ≠ 102 ∧ ty ≠ 68) : Bxs.fit [(j, cs, ty)] w := fun x hm => by
  rcases List.mem_singleton.1 hm with rfl
  exact ⟨hx, ht⟩
theorem Dk.with (h : Dk w0 w B d q p pd pm k c F N D V) (hE : Bxs.fit E w) : Dk w0 w B d q p pd pm k c E N D V := ⟨h.ex, h.hN, hE, h.hb, h.hd, h.hB⟩
theorem Dk.turns {L : List Nat} (h : Dk w0 w B d q p pd pm k c F N D V) (t : Turns L w w') (hL : ∀ j ∈ L, B ≤ j ∧ (∃ cs ty, w.heap[j]? = some (.cells cs ty (0, 0)) ∧ ty ≠ 102 ∧ ty ≠ 68) ∧ ∀ x ∈ F, x.1 ≠ j) : Dk w0 w' B d q p pd pm k c F N D V := by
  obtain ⟨v, dv⟩ := h.ex
  refine ⟨⟨v, dv.turns t fun j hj => ⟨(hL j hj).1, fun e => ?_⟩⟩, h.hN, h.fx.turns t fun x hx hm => (hL _ hm).2.2 x hx rfl, h.hb.trans (t.below h.hb.size fun j hj => Nat.le_trans h.hB (hL j hj).1), h.hd, h.hB⟩
  obtain ⟨_, ⟨cs, ty, h1, h2, h3⟩, _⟩ := hL j hj
  obtain ⟨cs2, ht⟩ := dv.own_tag e
  exact tag_ne h1 ht h3 rfl
/-- a block's number beyond all of F and the deal's first block, in every world that has them. -/
def bsF (F : Bxs) (B : Nat) : Nat := F.foldr (fun x n => max (x.1 + 1) n) B
theorem bsF_B (F : Bxs) (B : Nat) : B ≤ bsF F B := by
  induction F with
  | nil => exact Nat.le_refl _
  | cons x F ih => show B ≤ max _ _; have : B ≤ bsF F B := ih; unfold bsF at this; omega
theorem bsF_lt (F : Bxs) (B : Nat) : ∀ x ∈ F, x.1 < bsF F B := by
  induction F with
  | nil => intro x hx; cases hx
  | cons y F ih =>
    intro x hx
    show x.1 < max (y.1 + 1) (bsF F B)
    rcases List.mem_cons.1 hx with rfl | hx
    · omega
    · have := ih x hx; omega
theorem bsF_le (F : Bxs) (B : Nat) {n : Nat} (hB : B ≤ n) : (∀ x ∈ F, x.1 < n) → bsF F B ≤ n := by
  induction F with
  | nil => intro _; exact hB
  | cons y F ih =>
    intro h
    show max (y.1 + 1) (bsF F B) ≤ n
    have h1 := h y (List.mem_cons_self ..)
    have h2 := ih fun x hx => h x (List.mem_cons_of_mem _ hx)
    omega
theorem Dk.bs (h : Dk w0 w B d q p pd pm k c F N D V) : bsF F B ≤ w.heap.size := bsF_le F B h.hBs fun x hx => h.fx.lt hx
theorem own_fr {base n : Nat} {v : Value} {xs : List Value} (h : w.ownsRow base 3 1 v n xs) : ∃ E : Bxs, Bxs.fit E w ∧ (∀ x ∈ E, base ≤ x.1) ∧ ∀ w', Bxs.fit E w' → w'.ownsRow base 3 1 v n xs := by
  rcases h.2 with ⟨rfl, h0⟩ | ⟨g, cap, cur, rfl, h1, h2, h3⟩
  · exact ⟨[], by simp [Bxs.fit], by simp, fun w' _ => ⟨h.1, .inl ⟨rfl, h0⟩⟩⟩
  · exact ⟨[(g, cur, 3)], Bxs.one h2 (by decide), by simp [h1], fun w' hf => ⟨h.1, .inr ⟨g, cap, cur, rfl, h1, (hf _ (List.mem_singleton.2 rfl)).1, h3⟩⟩⟩
theorem Dk.grown {base n : Nat} {v : Value} {xs : List Value} (h : Dk w0 w B d q p pd pm k c F N D V) (hown : w.ownsRow base 3 1 v n xs) (hg : w.grownBy w' v.ownBlock) (hb : B ≤ base) (hF : ∀ x ∈ F, x.1 < base) : Dk w0 w' B d q p pd pm k c F N D V := by
  have t : Turns (match v.ownBlock with | some g => [g] | none => []) w w' := Turns.of_grown hg (by intro j e; rw [e]; simp)
  refine h.turns t ?_
  rcases hown.2 with ⟨rfl, h0⟩ | ⟨g, cap, cur, rfl, h1, h2, h3⟩
  · intro j hj; simp [Value.ownBlock] at hj
  · intro j hj
    have : j = g := by simpa [Value.ownBlock] using hj
    subst this
    exact ⟨Nat.le_trans hb h1, ⟨cur, 3, h2, by decide, by decide⟩, fun x hx e => by have := hF x hx; omega⟩
end
section
variable {w0 w : World} {B d q p pd pm k c : Nat} {F : Bxs} {N : Nat} {D V : List ByteArray} {b : Nat} {m : ByteArray}
theorem canrep_any (h : Dk w0 w B d q p pd pm k c F N D V) (hc : Crd V b m) (A : Option Addr) (n cp Bl : Nat) (L : List Int) (nd : Nat) (hA : IntsAt w Bl A n L) (hBl : Bl ≤ w.heap.size) (hn : n ≤ 1000) (hnd : nd ≤ 1000) (hu : ∀ x ∈ L, 51 ≤ x ∧ x < b ∧ bitN m x.toNat = true) :
    Calls Tryz.prog 40 #[.pointer (some ⟨d, 0, none⟩), .slice A n cp, .int .i64 (nd : Int)] w fun e w' => e = .returned (.int .i64 (if fcn m b + n < nd then 10 else 0)) ∧ Below w.heap.size w w' := by
  have HL := Lib.hid hA.len
  have HA := Lib.hid hA
  have HBL := Lib.hid hBl
  have hb2 := hc.b2
  have HU : Hid (∀ W, Below w.heap.size w W → ∀ t, t < n → Calls Tryz.prog 19 #[.pointer (some ⟨d, 0, none⟩), .int .i64 (L.getD t 0)] W fun e w' => e = .returned (.tuple #[.bool true, .int .i64 0]) ∧ Below W.heap.size W w') := fun W hW t ht => by
    have hm : L.getD t 0 ∈ L := by
      rw [show L.getD t 0 = L[t]'(by rw [hA.len]; exact ht) by simp [List.getD, List.getElem?_eq_getElem (show t < L.length by rw [hA.len]; exact ht)]]
      exact List.getElem_mem _
    obtain ⟨u1, u2, u3⟩ := hu _ hm
    have := used_dk (L.getD t 0) (h.below hW) (by unfold I64; omega)
    obtain ⟨i, hi⟩ := Int.eq_ofNat_of_zero_le (show 0 ≤ L.getD t 0 by omega)
    rw [hi] at this u1 u2 u3 ⊢
    obtain ⟨c1, c2⟩ := hc.used (i := i) (by omega) (by omega)
    rw [c1, c2] at this
    rw [Int.toNat_natCast] at u3
    rw [u3] at this
    exact this
  have HFR : Hid (∀ W, Below w.heap.size w W → Calls Tryz.prog 12 #[.pointer (some ⟨d, 0, none⟩)] W fun e w' => e = .returned (.tuple #[.int .i64 (fcn m b : Nat), .int .i64 0]) ∧ Below W.heap.size W w') := fun W hW => by
    have := free_dk (h.below hW)
    obtain ⟨c1, c2⟩ := hc.free
    rwa [c1, c2] at this
  have hfl := fcn_le m b
  clear h hc hA hBl hu
  generalize fcn m b = fr at *
  obtain ⟨z, hz⟩ : ∃ z, (if fr + n < nd then (10 : Int) else 0) = z := ⟨_, rfl⟩
  simp only [hz]
  have HZ := Lib.hid hz
  clear hz
  go_enter Tryz.func40, Tryz.ntmps40
  go_wp2
  go_loopw [8, 9, 10, 15] (fun _ _ _ i wr => ∃ t : Nat, t ≤ n ∧ i = .int .i64 (t : Int) ∧ Hid (Below w.heap.size w wr)) (fun _ _ _ i _ => n - (intOf i).toNat)
  case atStart => exact ⟨0, by omega, rfl, Below.refl _ _⟩
  case round =>
    obtain ⟨t, ht, rfl, hb⟩ := hrel
    by_cases hlt : t < n
    · have hlt2 : (t : Int) < (n : Int) := by omega
      obtain ⟨bb, o, rfl, hbB, h1⟩ := (HA.out.below hb.out HBL.out).at_ hlt
      have HUT := Lib.hid (HU.out wr hb.out t hlt)
      generalize L.getD t 0 = z at *
      go_wp2_with (go_at_call 19; refine HUT.out.mono ?_; rintro e w2 ⟨rfl, b2⟩; have HB2 := Lib.hid (hb.out.trans (b2.mono hb.out.size)); clear b2)
      go_roundw
      case rel => exact ⟨t + 1, by omega, by go_num, HB2.out⟩
      case measure => simp [intOf]; omega
    · have hlt2 : ¬ (t : Int) < (n : Int) := by omega
      have HFT := Lib.hid (HFR.out wr hb.out)
      by_cases hs : fr + n < nd
      · have hs2 : (fr : Int) + (n : Int) < (nd : Int) := by omega
        have HS := Lib.hid hs
        clear hs
        go_wp2_with (go_at_call 12; refine HFT.out.mono ?_; rintro e w2 ⟨rfl, b2⟩; have HB2 := Lib.hid (hb.out.trans (b2.mono hb.out.size)); clear b2)
        go_ret
        exact ⟨by rw [← HZ.out, if_pos HS.out]; rfl, HB2.out⟩
      · have hs2 : ¬ (fr : Int) + (n : Int) < (nd : Int) := by omega
        have HS := Lib.hid hs
        clear hs
        go_wp2_with (go_at_call 12; refine HFT.out.mono ?_; rintro e w2 ⟨rfl, b2⟩; have HB2 := Lib.hid (hb.out.trans (b2.mono hb.out.size)); clear b2)
        go_ret
        exact ⟨by rw [← HZ.out, if_neg HS.out]; rfl, HB2.out⟩
end

/-! ### store -/
section
variable {w0 w : World} {B d q p pd pm k c : Nat} {F : Bxs} {N : Nat} {D V : List ByteArray} {b : Nat} {m : ByteArray}
theorem Dk.setH {j : Nat} {cs : Array Value} {ty : TypeId} (h : Dk w0 w B d q p pd pm k c ((j, cs, ty) :: F) N D V) (hj : B ≤ j) (hne : ∀ x ∈ F, x.1 ≠ j) (i : Nat) (u : Value) : Dk w0 (w.setCell ⟨j, i, none⟩ u) B d q p pd pm k c ((j, cs.setIfInBounds i u, ty) :: F) N D V := by
  have hb := h.box
  have ht := (h.fx _ (List.mem_cons_self ..)).2
  have h1 := h.drop.turns (Turns.setCell w (L := [j]) (p := ⟨j, i, none⟩) (by simp) u) (fun j' hj' => by
    rw [List.mem_singleton] at hj'
    subst hj'
    exact ⟨hj, ⟨cs, ty, hb, ht⟩, hne⟩)
  exact h1.add (Sl.heap_setCell_same w j i u hb) ht
theorem ints_setA (l : List Int) (t : Nat) (z : Int) : (Lg.ints l).toArray.setIfInBounds t (.int .i64 z) = (Lg.ints (l.set t z)).toArray := by
  apply Array.ext'
  simp [Lg.ints, List.map_set]
/-- groups of spans that lie in boxes of F. -/
def GrpsF (F : Bxs) (v : Value) (n : Nat) (r : List Sp) : Prop := ∃ A cp, v = .slice A n cp ∧ ∀ W, Bxs.fit F W → ∀ t, t < n → ∃ g o Ak ck, A = some ⟨g, o, none⟩ ∧ W.cell? ⟨g, o + t, none⟩ = some (.slice Ak (chk r t).length ck) ∧ SpsAt W W.heap.size Ak (chk r t).length (chk r t)
def rowT (V : List ByteArray) (n t : Nat) : List Int := (tkT V t).2 ++ List.replicate (n + 1 - t) 0
theorem rowT_len (V : List ByteArray) (n t : Nat) (h : t ≤ n) : (rowT V n t).length = n + 1 := by unfold rowT; rw [List.length_append, tkT_len, List.length_replicate]; omega
theorem rowT_0 (V : List ByteArray) (n : Nat) : rowT V n 0 = List.replicate (n + 1) 0 := rfl
theorem rowT_step (V : List ByteArray) (n t : Nat) (h : t < n) : (rowT V n t).set t (rnA (tkT V t).1 1) = rowT V n (t + 1) := by
  unfold rowT
  rw [List.set_append_right _ _ (by rw [tkT_len]; exact Nat.le_refl _), tkT_len, Nat.sub_self, show n + 1 - t = (n - t) + 1 by omega, List.replicate_succ, List.set_cons_zero, show n + 1 - (t + 1) = n - t by omega]
  show _ = ((tkT V t).2 ++ [rnA (tkT V t).1 1]) ++ _
  rw [List.append_assoc]
  rfl
theorem rowT_get (V : List ByteArray) (n j : Nat) : (rowT V n n).getD j 0 = (tkT V n).2.getD j 0 := by
  unfold rowT
  rcases Nat.lt_or_ge j (tkT V n).2.length with h | h
  · rw [gd_app_l _ _ _ h]
  · rw [gd_app_r _ _ _ h, gd_out h, List.getD, List.getElem?_replicate]
    split <;> rfl
theorem store_any (h : Dk w0 w B d q p pd pm k c F N D V) (n : Nat) (r : List Sp) (v : Value) (hv : GrpsF F v n r) (hn : n ≤ 1000) (hT : ∀ z ∈ (tkT V n).2, Fit z) (hsz : ∀ t, t < n → (blockB (chk r t) ((tkT V n).2.getD (t + 1) 0)).size ≤ 9223372036854775807) :
    Calls Tryz.prog 42 #[.pointer (some ⟨d, 0, none⟩), v] w fun e w' => e = .returned (.int .i64 ((tkT V n).2.getD 0 0)) ∧ Dk w0 w' B d q p pd pm k c F N D (wtT (tkT V n).1 (tkT V n).2 r n) := by
  obtain ⟨A, cp, rfl, hG⟩ := hv
  have HG := Lib.hid hG
  have hmk := Lg.make_ints (n + 1) (by omega) w
  rw [show ((n + 1 : Nat) : Int) = (n : Int) + 1 by push_cast; rfl] at hmk
  have HBS : Hid (B ≤ w.heap.size) := h.hBs
  have HFN : Hid (∀ x ∈ F, x.1 ≠ w.heap.size) := fun x hx => by have := h.fx.lt hx; omega
  have HD0 : Hid (Dk w0 (w.alloc (.cells (Lg.ints (List.replicate (n + 1) 0)).toArray 3)) B d q p pd pm k c ((w.heap.size, (Lg.ints (rowT V n 0)).toArray, 3) :: F) N D (tkT V 0).1) := by
    show Dk _ _ _ _ _ _ _ _ _ _ _ _ _ _
    rw [rowT_0]
    exact (h.below ((Below.refl _ _).alloc (Nat.le_refl _) _)).add (heap_alloc_new w _) (by decide)
  have HGF : Hid (∀ j, Fit ((tkT V n).2.getD j 0)) := fun j => by
    rcases getD_or (tkT V n).2 j with e | e
    · rw [e]; decide
    · exact hT _ e
  have HST := Lib.hid (rowT_step V n)
  have HRL := Lib.hid (rowT_len V n)
  have HRG := Lib.hid (rowT_get V n)
  have HSZ := Lib.hid hsz
  have HTK : Hid (∀ t, (tkT V (t + 1)).1 = rnV (tkT V t).1 1) := fun t => rfl
  clear h hG hT hsz
  go_enter Tryz.func42, Tryz.ntmps42
  go_wp2
  go_loopw [6, 15] (fun _ i wr => ∃ t : Nat, t ≤ n ∧ i = .int .i64 (t : Int) ∧ Hid (Dk w0 wr B d q p pd pm k c ((w.heap.size, (Lg.ints (rowT V n t)).toArray, 3) :: F) N D (tkT V t).1)) (fun _ i _ => n - (intOf i).toNat)
  case atStart => exact ⟨0, by omega, rfl, HD0.out⟩
  case round =>
    obtain ⟨t, ht, rfl, hd⟩ := hrel
    by_cases hlt : t < n
    · have hlt2 : (t : Int) < (n : Int) := by omega
      have HT := Lib.hid (take_dk hd.out)
      have HS1 := Lib.hid (HST.out t hlt)
      have HTT := Lib.hid (HTK.out t)
      rw [← HTT.out] at HT
      generalize rnA (tkT V t).1 1 = a at *
      generalize rnE (tkT V t).1 1 = z at *
      go_wp2_with (go_at_call 70; refine HT.out.mono ?_; rintro e w2 ⟨rfl, d2⟩
                   have HR2 : Lg.IntRow w2 w.heap.size (rowT V n t) := d2.box
                   have hc2 := HR2.cell t (by rw [HRL.out t ht]; omega)
                   have hz2 := HR2.fz t
                   have d3 := d2.setH HBS.out HFN.out t (.int .i64 a)
                   rw [ints_setA, HS1.out] at d3
                   have HD3 := Lib.hid d3
                   clear d2 d3 HR2)
      go_roundw
      case rel => exact ⟨t + 1, by omega, by go_num, HD3.out⟩
      case measure => simp [intOf]; omega
    · obtain rfl : t = n := by omega
      have hlt2 : ¬ (t : Int) < (t : Int) := by omega
      have HD1 : Hid (Dk w0 wr B d q p pd pm k c ((w.heap.size, (Lg.ints (rowT V t t)).toArray, 3) :: F) N D (wtT (tkT V t).1 (tkT V t).2 r 0)) := hd.out
      have HWT : Hid (∀ j, wtT (tkT V t).1 (tkT V t).2 r (j + 1) = wrV (wtT (tkT V t).1 (tkT V t).2 r j) ((tkT V t).2.getD j 0) (blockB (chk r j) ((tkT V t).2.getD (j + 1) 0))) := fun j => rfl
      have HRN := Lib.hid (HRL.out t (Nat.le_refl _))
      clear hd HST HTK HD0 HRL
      generalize hbs : (tkT V t).2 = bs at *
      generalize hwt : wtT (tkT V t).1 bs r = WT at *
      have HBQ := Lib.hid hbs
      have HWQ := Lib.hid hwt
      clear hbs hwt
      generalize rowT V t t = rw_ at *
      go_wp2
      go_loopw [7, 8, 29] (fun _ _ i wr => ∃ j : Nat, j ≤ t ∧ i = .int .i64 (j : Int) ∧ Hid (Dk w0 wr B d q p pd pm k c ((w.heap.size, (Lg.ints rw_).toArray, 3) :: F) N D (WT j))) (fun _ _ i _ => t - (intOf i).toNat)
      case atStart => exact ⟨0, by omega, rfl, HD1.out⟩
      case round =>
        obtain ⟨j, hj, rfl, hd⟩ := hrel
        have HROW : Lg.IntRow wr w.heap.size rw_ := hd.out.box
        by_cases hlt : j < t
        · have hlt3 : (j : Int) < (t : Int) := by omega
          obtain ⟨g, o, Ak, ck, rfl, g1, g2⟩ := HG.out wr hd.out.drop.fx j hlt
          have y0 := HROW.cell j (by rw [HRN.out]; omega)
          have y1 := HROW.cell (j + 1) (by rw [HRN.out]; omega)
          rw [HRG.out] at y0 y1
          have hx1 := HGF.out (j + 1)
          have hs1 := HSZ.out j hlt
          have HWJ := Lib.hid (HWT.out j)
          have HBO := Lib.hid (fun W (hW : Below wr.heap.size wr W) => blockof_any Ak (chk r j).length ck wr.heap.size (chk r j) (bs.getD (j + 1) 0) W (g2.below hW (Nat.le_refl _)) hW.size (by rw [chk_len]; omega) hx1)
          generalize bs.getD j 0 = x0 at *
          generalize bs.getD (j + 1) 0 = x1 at *
          have HWR := Lib.hid (fun W (hW : Below wr.heap.size wr W) => dk_write (hd.out.below hW) x0 (blockB (chk r j) x1) hs1)
          rw [← HWJ.out] at HWR
          generalize wrE (WT j) x0 (blockB (chk r j) x1) = ze at *
          generalize blockB (chk r j) x1 = sb at *
          generalize (chk r j).length = cl at *
          have HDR : Hid (Below wr.heap.size wr wr.drew) := ⟨rfl, rfl, rfl, Nat.le_refl _, fun _ _ => rfl⟩
          have SD : Hid (wr.drew.cell? ⟨w.heap.size, j, none⟩ = some (.int .i64 x0) ∧ wr.drew.cell? ⟨w.heap.size, j + 1, none⟩ = some (.int .i64 x1)) := ⟨y0, y1⟩
          have HCB : Hid (∀ W, Below wr.heap.size wr W → W.cell? ⟨w.heap.size, j, none⟩ = some (.int .i64 x0) ∧ W.cell? ⟨w.heap.size, j + 1, none⟩ = some (.int .i64 x1)) := fun W hW => ⟨(hW.cell (p := ⟨w.heap.size, j, none⟩) HROW.lt).trans y0, (hW.cell (p := ⟨w.heap.size, j + 1, none⟩) HROW.lt).trans y1⟩
          have HCX : Hid (∀ W, Lg.IntRow W w.heap.size rw_ → W.cell? ⟨w.heap.size, j, none⟩ = some (.int .i64 x0) ∧ W.cell? ⟨w.heap.size, j + 1, none⟩ = some (.int .i64 x1)) := fun W hW => ⟨(by rw [World.cell?, hW, ← HROW]; exact y0), (by rw [World.cell?, hW, ← HROW]; exact y1)⟩
          clear HWJ g2 y0 y1 hx1 hs1
          have q1 : (0 : Int) ≤ (j : Int) := by omega
          have q2 : (j : Int) < (t : Int) + 1 := by omega
          have q3 : (0 : Int) ≤ (j : Int) + 1 := by omega
          have q4 : (j : Int) + 1 < (t : Int) + 1 := by omega
          have q5 : ((j : Int) + 1).toNat = j + 1 := by omega
          have q6 : IntKind.i64.wrap ((j : Int) + 1) = (j : Int) + 1 := IntWalk.i64_in _ (by omega)
          have q7 : decide ((0 : Int) ≤ (j : Int) + 1) = true := by simp; omega
          have q8 : decide ((j : Int) + 1 < (t : Int) + 1) = true := by simp; omega
          go_wp2
          go_region_held3 (fun W => W.cell? ⟨w.heap.size, j, none⟩ = some (.int .i64 x0) ∧ W.cell? ⟨w.heap.size, j + 1, none⟩ = some (.int .i64 x1))
            (first | with_reducible exact S6.out | with_reducible exact S5.out | with_reducible exact SD.out)
            (first
              | (go_at_call 22; refine (HWR.out w5 B5.out).mono ?_; rintro e w6 ⟨rfl, d6⟩; have HD6 := Lib.hid d6; have S6 := Lib.hid (HCX.out w6 d6.box); clear d6)
              | (go_at_call 71; refine (HBO.out _ HDR.out).mono ?_; rintro e w5 ⟨rfl, b5⟩; have B5 : Hid (Below wr.heap.size wr w5) := HDR.out.trans b5; have S5 := Lib.hid (HCB.out w5 B5.out); clear b5))
          go_wp2
          go_roundw
          case rel => exact ⟨j + 1, by omega, by go_num, HD6.out⟩
          case measure => simp [intOf]; omega
        · obtain rfl : j = t := by omega
          have hlt3 : ¬ (j : Int) < (j : Int) := by omega
          have y0 := HROW.cell 0 (by rw [HRN.out]; omega)
          rw [HRG.out] at y0
          have HDF := Lib.hid hd.out.drop
          clear hd HROW
          generalize hx0 : bs.getD 0 0 = x0 at *
          have HX0 := Lib.hid hx0
          clear hx0
          go_wp2
          go_ret
          refine ⟨?_, ?_⟩
          · show Ending.returned (.int .i64 x0) = Ending.returned (.int .i64 ((tkT V j).2.getD 0 0))
            rw [HBQ.out, HX0.out]
          · rw [HBQ.out, HWQ.out]
            exact HDF.out
end
end Go.Proofs.YtgdlfiejjnjcpaaGreat.Dl
