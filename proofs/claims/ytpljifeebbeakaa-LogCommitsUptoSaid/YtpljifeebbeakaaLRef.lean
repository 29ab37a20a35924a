/-
  WALKS: the reference's With, Calls and Same; slices of texts below a block. Conditions: at most 1000 blocks, at most 40 changes, changes of blocks that exist.
-/
import Derived.Test.YtpljifeebbeakaaLRight
namespace Go.Proofs.Ytpljifeebbeakaa
open Go.RowKit
open Sl (St SlabAt Turns RowAt)

/-- the slice at A with n elements reads as the texts ss, and lies below block B. -/
def SsAt (w : World) (B : Nat) (A : Option Addr) (n : Nat) (ss : List ByteArray) : Prop :=
  ss.length = n ∧ ∀ k, k < n → ∃ b o, A = some ⟨b, o, none⟩ ∧ b < B ∧ w.cell? ⟨b, o + k, none⟩ = some (.string (ss.getD k ⟨#[]⟩))
section
variable {w w' : World} {B B' : Nat} {A : Option Addr} {n : Nat} {ss : List ByteArray}
theorem SsAt.len (h : SsAt w B A n ss) : ss.length = n := h.1
theorem SsAt.at_ (h : SsAt w B A n ss) {k : Nat} (hk : k < n) : ∃ b o, A = some ⟨b, o, none⟩ ∧ b < B ∧ w.cell? ⟨b, o + k, none⟩ = some (.string (ss.getD k ⟨#[]⟩)) := h.2 k hk
theorem SsAt.keep (h : SsAt w B A n ss) (hk : ∀ p : Addr, p.block < B → w'.cell? p = w.cell? p) : SsAt w' B A n ss :=
  ⟨h.1, fun k hkn => by
    obtain ⟨b, o, e, hb, h1⟩ := h.2 k hkn
    exact ⟨b, o, e, hb, (hk _ hb).trans h1⟩⟩
theorem SsAt.more (h : SsAt w B A n ss) (hB : B ≤ B') : SsAt w B' A n ss :=
  ⟨h.1, fun k hkn => by
    obtain ⟨b, o, e, hb, hc⟩ := h.2 k hkn
    exact ⟨b, o, e, by omega, hc⟩⟩
theorem SsAt.below {C : Nat} (h : SsAt w B A n ss) (hb : Below C w w') (hBC : B ≤ C) : SsAt w' B A n ss := h.keep fun _ hp => hb.cell (by omega)
theorem SsAt.turns {L : List Nat} (h : SsAt w B A n ss) (ht : Turns L w w') (hA : Out A L) : SsAt w' B A n ss :=
  ⟨h.1, fun k hkn => by
    obtain ⟨b, o, e, hb, hc⟩ := h.2 k hkn
    exact ⟨b, o, e, hb, ht.cell hc (hA ⟨b, o, none⟩ e)⟩⟩
theorem SsAt.strs (h : SsAt w B A n ss) : Sl.StrsAt w A n ss := fun k hk => by
  obtain ⟨b, o, e, _, hc⟩ := h.2 k hk
  exact ⟨b, o, e, hc⟩
end
theorem rowSs {w : World} {g B : Nat} {ss : List ByteArray} (h : RowAt w g ss) (hB : g < B) : SsAt w B (some ⟨g, 0, none⟩) ss.length ss :=
  ⟨rfl, fun k hk => ⟨g, 0, rfl, hB, by rw [Nat.zero_add]; exact h.cell hk⟩⟩
def strs (ss : List ByteArray) : List Value := ss.map Value.string
theorem strs_len (ss : List ByteArray) : (strs ss).length = ss.length := by simp [strs]
theorem strs_get (ss : List ByteArray) (k : Nat) (h : k < ss.length) : (strs ss)[k]? = some (.string (ss.getD k ⟨#[]⟩)) := by simp [strs, List.getD, h]
theorem strs_one (ss : List ByteArray) : ∀ u ∈ strs ss, u.oneCell' = true := by
  intro u hu
  obtain ⟨x, _, rfl⟩ := List.mem_map.1 hu
  rfl
/-- an answer that is a new slice of texts, of the call's own. -/
def RetSs (w : World) (ss : List ByteArray) (e : Ending) (w' : World) : Prop := ∃ v, e = .returned v ∧ w'.ownsRow w.heap.size 9 1 v ss.length (strs ss) ∧ Below w.heap.size w w'
theorem own_sliceS {w : World} {base n : Nat} {v : Value} {xs : List Value} (h : w.ownsRow base 9 1 v n xs) : ∃ A c, v = .slice A n c ∧ n ≤ c ∧ ∀ a, A = some a → base ≤ a.block := by
  rcases h.2 with ⟨rfl, rfl⟩ | ⟨g, cap, cur, rfl, hb, _, hc, _⟩
  · exact ⟨none, 0, rfl, Nat.le_refl _, fun a ha => by cases ha⟩
  · exact ⟨_, cap, rfl, hc, fun a ha => by cases ha; exact hb⟩
theorem own_ss {w : World} {base : Nat} {A : Option Addr} {c : Nat} {ss : List ByteArray} (h : w.ownsRow base 9 1 (.slice A ss.length c) ss.length (strs ss)) : SsAt w w.heap.size A ss.length ss := by
  refine ⟨rfl, fun k hk => ?_⟩
  obtain ⟨g, cap, e, _, hlt⟩ := h.form (by omega)
  have hA : A = some ⟨g, 0, none⟩ := by injection e
  subst hA
  have hcell := h.cells (g := g) rfl _ _ (strs_get ss k hk)
  rw [Go.WideShapes.add_plain] at hcell
  exact ⟨g, 0, rfl, hlt, hcell⟩
theorem ownS_set {w : World} {base g cap : Nat} {ss : List ByteArray} (h : w.ownsRow base 9 1 (.slice (some ⟨g, 0, none⟩) ss.length cap) ss.length (strs ss)) (k : Nat) (s : ByteArray) :
    (w.setCell ⟨g, k, none⟩ (.string s)).ownsRow base 9 1 (.slice (some ⟨g, 0, none⟩) ss.length cap) ss.length (strs (ss.set k s)) := by
  have h1 := (h.stored k (.string s)).1
  have e : (strs ss).set k (.string s) = strs (ss.set k s) := by simp [strs, List.map_set]
  rw [e] at h1
  exact h1
theorem infoS9 : (Try.prog.info? 9).map (fun i => (i.zero, i.size, i.bytes)) = some (some (.string ⟨#[]⟩), 1, 16) := Sl.info9
set_option maxRecDepth 100000 in
/-- 'append(nil, image...)', at the list of a plain region's operations. -/
theorem copyS_law {ops : Array Oper} {rest : List Oper} {o : Oper} {a : Act} {Q : Exit → Act → World → Prop} (hgd : o.guard = none) (s x : Operand)
    (ho : o.op = .call { callee := .builtin .append, args := #[s, x], argTypes := #[32, 32] })
    (W : World) (hs : a.eval s = .slice none 0 0) (B : Nat) (A : Option Addr) (n c : Nat) (ss : List ByteArray) (hx : a.eval x = .slice A n c)
    (hA : SsAt W B A n ss) (hn : n ≤ 100000)
    (h : ∀ v' w', w'.ownsRow W.heap.size 9 1 v' ss.length (strs ss) → Below W.heap.size W w' → wpList Try.prog ops Q rest (a.put o.dst v') w') :
    wpList Try.prog ops Q (o :: rest) a W := by
  obtain ⟨i0, hi, hz0, hz1, hz2⟩ := info_parts infoS9
  cases A with
  | none =>
    have hm : n = 0 := by
      rcases Nat.eq_zero_or_pos n with h0 | h0
      · exact h0
      · obtain ⟨b, o, e, _⟩ := hA.at_ h0; cases e
    subst hm
    have hl2 : ss = [] := List.eq_nil_of_length_eq_zero hA.len
    subst hl2
    refine wpList_plain hgd fun K hK => ?_
    have hrun := run_append_of_nil (P := Try.prog) W W.heap.size 32 o.type 9 i0 1 Try.underlying32 hi (.slice none 0 0) 0 [] (World.ownsRow_nil _ _ _ _) c
    unfold Oper.wp
    simp [execOp, ho, resolve, invoke, builtin, hs, hx, hrun, Result.andThen]
    exact hK _ _ (h _ W (World.ownsRow_nil _ _ _ _) (Below.refl _ _))
  | some ad =>
    refine wpList_append_own _ hgd s x 32 ho W.heap.size 9 i0 _ 1 16 Try.underlying32 hi hz0 hz1 hz2 rfl (by decide) (.slice none 0 0) 0 [] hs (World.ownsRow_nil _ _ _ _) ad n c (strs ss) hx (by rw [strs_len, hA.len, Nat.mul_one])
      ?_ (strs_one ss) (by unfold maxLen; omega) (by omega) (Nat.le_refl _) ?_
    · intro j u hj
      have hlt : j < (strs ss).length := (List.getElem?_eq_some_iff.1 hj).1
      rw [strs_len] at hlt
      obtain ⟨b, o, e1, _, h1⟩ := hA.at_ (k := j) (by rw [← hA.len]; exact hlt)
      injection e1 with e1
      subst e1
      rw [Go.WideShapes.add_plain, h1, ← strs_get ss j hlt, hj]
    · intro v' w' hown' hg _
      refine h v' w' ?_ ?_
      · rw [Nat.zero_add, List.nil_append] at hown'
        rw [hA.len]; exact hown'
      · exact (Below.refl W.heap.size W).grown hg (Nat.le_refl _) (fun k hk => by cases hk)

theorem setL_take {D : List ByteArray} {l : List Ch} {k : Nat} (h : k < l.length) : setL D (l.take (k + 1)) = (setL D (l.take k)).set (l.getD k Ch.z).bk.toNat (l.getD k Ch.z).dt := by
  have e : l.take (k + 1) = l.take k ++ [l.getD k Ch.z] := by
    rw [List.take_succ_eq_append_getElem h]; simp [List.getD, h]
  rw [e, setL_snoc]
set_option maxRecDepth 100000 in
set_option maxHeartbeats 4000000 in
theorem with_any (A A' : Option Addr) (n c m c' B : Nat) (ss : List ByteArray) (l : List Ch) (w : World) (hA : SsAt w B A n ss) (hC : ChsAt w B A' m l) (hB : B ≤ w.heap.size) (hn : n ≤ 1000) (hn0 : 0 < n) (hI : InL n l) (hm : m ≤ 1000) :
    Calls Try.prog 16 #[.slice A n c, .slice A' m c'] w (RetSs w (setL ss l)) := by
  have HL := Lib.hid hA.len
  have HLC := Lib.hid hC.len
  have HA := Lib.hid hA
  have HC := Lib.hid hC
  have HIN : Hid (∀ k, k < m → 0 ≤ (l.getD k Ch.z).bk ∧ (l.getD k Ch.z).bk < (n : Int)) := fun k hk => by
    have hk' : k < l.length := by rw [hC.len]; exact hk
    have e : l.getD k Ch.z = l[k] := by simp [List.getD, hk']
    rw [e]; exact ⟨(hI _ (List.getElem_mem hk')).1, (hI _ (List.getElem_mem hk')).2.1⟩
  clear hA hC
  go_enter Try.func16, Try.ntmps16
  go_wp2_with (at_builtin; refine copyS_law rfl (.const (.slice none 0 0)) (.tmp 7) rfl w rfl B A n c ss rfl HA.out (by omega) ?_)
  intro v w1 ho hb
  obtain ⟨g, cap, rfl, hbg, hlt⟩ := ho.form (by rw [HL.out]; exact hn0)
  have HO := Lib.hid ho
  have HB1 := Lib.hid hb
  rw [HL.out]
  clear ho hb
  go_wp2
  go_loopw [6] (fun j wr => ∃ k : Nat, k ≤ m ∧ j = .int .i64 (k : Int) ∧ wr.ownsRow w.heap.size 9 1 (.slice (some ⟨g, 0, none⟩) n cap) n (strs (setL ss (l.take k))) ∧ Below w.heap.size w wr) (fun j _ => m - (intOf j).toNat)
  case atStart =>
    refine ⟨0, by omega, rfl, ?_, HB1.out⟩
    have h := HO.out
    rw [HL.out] at h
    exact h
  case round =>
    obtain ⟨k, hk, rfl, ho, hb⟩ := hrel
    by_cases h1 : k < m
    · have hlt : (k : Int) < (m : Int) := by omega
      have x0 : (0 : Int) ≤ (k : Int) := by omega
      obtain ⟨b, o, rfl, hbB, d0, d1⟩ := HC.out.at_ h1
      obtain ⟨i1, i2⟩ := HIN.out k h1
      have hlen : (setL ss (l.take k)).length = n := by rw [setL_len, HL.out]
      have HST := Lib.hid (setL_take (D := ss) (l := l) (k := k) (by rw [HLC.out]; exact h1))
      have e0 : wr.drew.cell? ⟨b, o + k * 2, none⟩ = _ := (bcell hb d0 (by show b < _; omega) : wr.cell? ⟨b, o + k * 2, none⟩ = _)
      have e1 : wr.drew.cell? ⟨b, o + k * 2 + 1, none⟩ = _ := (bcell hb d1 (by show b < _; omega) : wr.cell? ⟨b, o + k * 2 + 1, none⟩ = _)
      have ho2 : wr.drew.ownsRow w.heap.size 9 1 (.slice (some ⟨g, 0, none⟩) (setL ss (l.take k)).length cap) (setL ss (l.take k)).length (strs (setL ss (l.take k))) := by rw [hlen]; exact ho
      generalize (l.getD k Ch.z).bk = z at *
      generalize (l.getD k Ch.z).dt = s at *
      obtain ⟨q, rfl⟩ := Int.eq_ofNat_of_zero_le i1
      have hqn : q < n := by omega
      have hcell : wr.drew.cell? ⟨g, q, none⟩ = some (.string ((setL ss (l.take k)).getD q ⟨#[]⟩)) := by
        have h := ho2.cellAt q (by rw [hlen]; omega)
        rw [strs_get _ _ (by rw [hlen]; exact hqn)] at h
        exact h
      have hfz : wr.drew.frozen? ⟨g, q, none⟩ = false := ho2.frozenAt q
      have HO2 : Hid ((wr.drew.setCell ⟨g, q, none⟩ (.string s)).ownsRow w.heap.size 9 1 (.slice (some ⟨g, 0, none⟩) n cap) n (strs (setL ss (l.take (k + 1))))) := by
        have h := ownS_set ho2 q s
        rw [hlen] at h
        show World.ownsRow _ _ _ _ _ _ _
        rw [HST.out]
        exact h
      have HB2 : Hid (Below w.heap.size w (wr.drew.setCell ⟨g, q, none⟩ (.string s))) := (Below.drew hb).setCell hbg _
      generalize (setL ss (l.take k)).getD q ⟨#[]⟩ = z0 at *
      clear d0 d1 ho ho2 hb HST hlen
      go_wp2_with fail
      go_region
      all_goals
        go_wp2
        go_roundw
        case rel => exact ⟨k + 1, h1, by push_cast; rfl, HO2.out, HB2.out⟩
        case measure => simp only [intOf]; omega
    · have hnlt : ¬ (k : Int) < (m : Int) := by omega
      have e : k = m := by omega
      have ho2 : wr.ownsRow w.heap.size 9 1 (.slice (some ⟨g, 0, none⟩) n cap) (setL ss l).length (strs (setL ss l)) := by
        rw [e, ← HLC.out, List.take_length] at ho
        rw [setL_len, HL.out]; exact ho
      have HO2 := Lib.hid ho2
      have HB2 := Lib.hid hb
      clear ho ho2 hb e
      go_wp2
      go_ret
      exact ⟨_, rfl, HO2.out, HB2.out⟩
theorem calls_any (n : Nat) (w : World) (hn : n ≤ 100000000) : Calls Try.prog 17 #[.int .i64 n] w fun e w' => e = .returned (.int .i64 (if n = 0 then 0 else 2 * n + 6)) ∧ w = w' := by
  by_cases h : n = 0
  · subst h
    go_enter Try.func17, Try.ntmps17
    go_wp2
    go_ret
    exact ⟨rfl, rfl⟩
  · have HR : Hid ((if n = 0 then (0 : Int) else 2 * (n : Int) + 6) = 2 * (n : Int) + 6) := if_neg h
    have hg : ((n : Int) == 0) = false := by simp [h]
    generalize (if n = 0 then (0 : Int) else 2 * (n : Int) + 6) = r at *
    go_enter Try.func17, Try.ntmps17
    go_wp2
    go_ret
    exact ⟨by rw [HR.out]; rfl, rfl⟩
end Go.Proofs.Ytpljifeebbeakaa
