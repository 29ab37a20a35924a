/-
  WALKS: the reference's Parent, Under and Ahead. Conditions: texts of at most 2^47 bytes.
-/
import Derived.Test.YtcijpefddicmiaaDoorRefJoin
namespace Go.Proofs.YtcijpefddicmiaaDoor
open Go.RowKit

theorem names_right {p : List UInt8} {l : List (List UInt8)} (h : namesL p = some l) (k : Nat) : (l.getD k []).length ≤ 11 := by
  rcases Nat.lt_or_ge k l.length with hk | hk
  · have := List.all_eq_true.1 (namesL_right h) l[k] (List.getElem_mem hk)
    simp only [List.getD, List.getElem?_eq_getElem hk, Option.getD_some]
    exact (rightL_len this).2
  · simp [List.getD, List.getElem?_eq_none hk]
theorem take_getD_len {l : List (List UInt8)} (h : ∀ k, (l.getD k []).length ≤ 11) (m k : Nat) : ((l.take m).getD k []).length ≤ 9223372036854775807 := by
  rcases Nat.lt_or_ge k m with hk | hk
  · have := h k
    simp only [List.getD, List.getElem?_take_of_lt hk] at this ⊢
    omega
  · rw [show (l.take m).getD k [] = [] by simp only [List.getD]; rw [List.getElem?_take_eq_none hk]; rfl]; simp

set_option maxHeartbeats 4000000 in
theorem rparent_any (p : List UInt8) (w : World) (hp : p.length ≤ 140737488355328) : Calls Tryd.prog 15 #[.string (bs p)] w (RetParent w (parentL (namesL p))) := by
  have HS := Lib.hid (rsplit_any p w hp)
  cases ho : namesL p with
  | none =>
    rw [ho] at HS
    generalize bs p = P at *
    go_enter Tryd.func15, Tryd.ntmps15
    go_wp2_with fail
    refine HS.out.mono ?_
    rintro e w1 ⟨A, n, c, rfl, hb, hA, hnc⟩
    rw [show errI (none : Option (List (List UInt8))) = 4 from rfl]
    go_wp2
    go_ret3
    exact ⟨rfl, hb⟩
  | some l =>
    rw [ho] at HS
    have hlen := names_len ho
    have hr := names_right ho
    obtain ⟨J, hJ⟩ : ∃ J, joinL (l.take (l.length - 1)) = some J := joinL_take (namesL_join ho) _
    by_cases h0 : l.length = 0
    · generalize bs p = P at *
      clear hr hJ
      go_enter Tryd.func15, Tryd.ntmps15
      go_wp2_with fail
      refine HS.out.mono ?_
      rintro e w1 ⟨A, n, c, rfl, hb, hA, hnc⟩
      rw [show errI (some l) = 0 from rfl]
      have hn : n = 0 := by rw [← hA.len]; exact h0
      subst hn
      go_wp2
      go_ret3
      exact ⟨by simp [parentL, h0]; rfl, hb⟩
    · generalize bs p = P at *
      have hres : parentL (some l) = ((joinL (l.take (l.length - 1))).getD [], l.getD (l.length - 1) [], 0) := by simp [parentL, h0]
      have HR := Lib.hid hres
      have HRR := Lib.hid hr
      have HJ := Lib.hid hJ
      clear hres hr hJ
      generalize parentL (some l) = x at *
      go_enter Tryd.func15, Tryd.ntmps15
      go_wp2_with fail
      refine HS.out.mono ?_
      rintro e w1 ⟨A, n, c, rfl, hb, hA, hnc⟩
      rw [show errI (some l) = 0 from rfl]
      have hA' : StrsAt w1 w1.heap.size A n l := hA
      have hl : l.length = n := hA'.len
      obtain ⟨m, rfl⟩ : ∃ m, n = m + 1 := ⟨n - 1, by omega⟩
      rw [hl, show m + 1 - 1 = m from rfl] at HR HJ
      obtain ⟨a0, o0, rfl, ha0, -⟩ := hA'.at_ (k := 0) (by omega)
      have hne : (((m + 1 : Nat) : Int) == 0) = false := by rw [beq_eq_false_iff_ne]; omega
      have hm1 : ((m + 1 : Nat) : Int) - 1 = (m : Int) := by omega
      have hJ : Hid (Calls Tryd.prog 19 #[.slice (some ⟨a0, o0, none⟩) m c] w1 (RetJoin w1 (joinL (l.take m)))) := rjoin_any (l.take m) _ m c w1 (hA'.take m (by omega)) (by omega) (take_getD_len HRR.out m)
      have hcell : w1.cell? ⟨a0, o0 + m, none⟩ = some (.string (bs (l.getD m []))) := by
        obtain ⟨b, o, e, hB, hcc⟩ := hA'.at_ (k := m) (by omega)
        cases e
        exact hcc
      have hlt : a0 < w1.heap.size := ha0
      rw [HJ.out] at hJ HR
      go_wp2_with fail
      refine hJ.out.mono ?_
      rintro e w2 ⟨rfl, hb2⟩
      rw [show errI (some J) = 0 from rfl]
      have hcell2 : w2.cell? ⟨a0, o0 + m, none⟩ = some (.string (bs (l.getD m []))) := (hb2.cell hlt).trans hcell
      clear hcell hA hA' hJ
      generalize hX : bs (l.getD m []) = X at *
      have HXX := Lib.hid hX
      clear hX
      have hm0 : (0 : Int) ≤ (m : Int) := by omega
      go_wp2
      go_region
      go_wp2
      go_ret3
      rw [HR.out]
      exact ⟨by rw [← HXX.out]; rfl, (hb.trans (hb2.mono hb.size)).drew⟩

theorem under_all {x y : List (List UInt8)} (hl : x.length ≤ y.length) (h : ∀ k, k < x.length → x.getD k [] = y.getD k []) : underO (some x) (some y) = true := by
  show decide _ = true
  rw [decide_eq_true_eq]
  apply List.ext_getElem (by rw [List.length_take]; omega)
  intro k h1 h2
  have := h k h2
  rw [List.getElem_take]
  simp only [List.getD, List.getElem?_eq_getElem h2, List.getElem?_eq_getElem (show k < y.length by omega), Option.getD_some] at this
  exact this.symm
theorem under_odd {x y : List (List UInt8)} (k : Nat) (hk : k < x.length) (h : x.getD k [] ≠ y.getD k []) : underO (some x) (some y) = false := by
  show decide _ = false
  rw [decide_eq_false_iff_not]
  intro e
  apply h
  rw [← e]
  simp only [List.getD]
  rw [List.getElem?_take_of_lt hk]

set_option maxHeartbeats 4000000 in
theorem runder_any (p q : List UInt8) (w : World) (hp : p.length ≤ 140737488355328) (hq : q.length ≤ 140737488355328) :
    Calls Tryd.prog 17 #[.string (bs p), .string (bs q)] w fun e w' => e = .returned (.bool (underO (namesL p) (namesL q))) ∧ Below w.heap.size w w' := by
  have HS := Lib.hid (rsplit_any p w hp)
  have HQ : Hid (∀ W, Calls Tryd.prog 10 #[.string (bs q)] W (RetNames W (namesL q))) := fun W => rsplit_any q W hq
  have HLP : Hid (∀ l, namesL p = some l → l.length ≤ 256) := fun l h => names_len h
  have HLQ : Hid (∀ l, namesL q = some l → l.length ≤ 256) := fun l h => names_len h
  generalize bs p = P at *
  generalize bs q = Q at *
  generalize namesL p = a at *
  generalize namesL q = b at *
  cases a with
  | none =>
    go_enter Tryd.func17, Tryd.ntmps17
    go_wp2_with fail
    refine HS.out.mono ?_
    rintro e w1 ⟨A, n, c, rfl, hb, hA, hnc⟩
    rw [show errI (none : Option (List (List UInt8))) = 4 from rfl]
    go_wp2_with fail
    refine (HQ.out w1).mono ?_
    rintro e w2 ⟨A', n', c', rfl, hb2, hA', hnc'⟩
    generalize errI b = eb at *
    go_wp2
    go_ret
    exact ⟨rfl, hb.trans (hb2.mono hb.size)⟩
  | some x =>
    have hx := HLP.out x rfl
    cases b with
    | none =>
      go_enter Tryd.func17, Tryd.ntmps17
      go_wp2_with fail
      refine HS.out.mono ?_
      rintro e w1 ⟨A, n, c, rfl, hb, hA, hnc⟩
      rw [show errI (some x) = 0 from rfl]
      go_wp2_with fail
      refine (HQ.out w1).mono ?_
      rintro e w2 ⟨A', n', c', rfl, hb2, hA', hnc'⟩
      rw [show errI (none : Option (List (List UInt8))) = 4 from rfl]
      go_wp2
      go_ret
      exact ⟨rfl, hb.trans (hb2.mono hb.size)⟩
    | some y =>
      have hy := HLQ.out y rfl
      have HODD : Hid (∀ k, k < x.length → x.getD k [] ≠ y.getD k [] → underO (some x) (some y) = false) := fun k hk h => under_odd k hk h
      have HALL : Hid (x.length ≤ y.length → (∀ k, k < x.length → x.getD k [] = y.getD k []) → underO (some x) (some y) = true) := fun hl h => under_all hl h
      have HLONG : Hid (y.length < x.length → underO (some x) (some y) = false) := fun h => under_long h
      generalize underO (some x) (some y) = v at *
      go_enter Tryd.func17, Tryd.ntmps17
      go_wp2_with fail
      refine HS.out.mono ?_
      rintro e w1 ⟨A, n, c, rfl, hb, hA, hnc⟩
      rw [show errI (some x) = 0 from rfl]
      go_wp2_with fail
      refine (HQ.out w1).mono ?_
      rintro e w2 ⟨A', n', c', rfl, hb2, hA', hnc'⟩
      rw [show errI (some y) = 0 from rfl]
      have hA2 : StrsAt w2 w2.heap.size A n x := hA.to hb2
      have hY : StrsAt w2 w2.heap.size A' n' y := hA'
      have hB : Below w.heap.size w w2 := hb.trans (hb2.mono hb.size)
      have hxl := hA2.len
      have hyl := hY.len
      clear hA hA' HS HQ HLP HLQ hb hb2
      by_cases hle : n ≤ n'
      · have hle' : ¬ (n' : Int) < (n : Int) := by omega
        have hn : n ≤ 256 := by omega
        have hd : decide (n' < n) = false := by simp; omega
        rw [hxl] at HODD HALL
        rw [hyl] at HALL
        have HA := Lib.hid hA2
        have HA' := Lib.hid hY
        have HB := Lib.hid hB
        clear hA2 hY hxl hyl hB hx hy HLONG
        go_wp2
        go_loopw [9] (fun i wr => ∃ k : Nat, i = .int .i64 (k : Int) ∧ k ≤ n ∧ (∃ q, wr = w2.drewN q) ∧ Hid (∀ j, j < k → x.getD j [] = y.getD j [])) (fun i _ => n - (intOf i).toNat)
        case atStart => exact ⟨0, rfl, Nat.zero_le _, ⟨0, rfl⟩, fun j hj => absurd hj (Nat.not_lt_zero _)⟩
        case round =>
          obtain ⟨k, rfl, hk, ⟨q, rfl⟩, hok⟩ := hrel
          by_cases hlt : k < n
          · have hlt' : (k : Int) < (n : Int) := by omega
            have hlt2 : (k : Int) < (n' : Int) := by omega
            have hk0 : (0 : Int) ≤ (k : Int) := by omega
            obtain ⟨b, off, rfl, hB, hcc⟩ := HA.out.at_ hlt
            obtain ⟨b', off', rfl, hB', hcc'⟩ := HA'.out.at_ (show k < n' by omega)
            by_cases hq : x.getD k [] = y.getD k []
            · have HOK : Hid (∀ j, j < k + 1 → x.getD j [] = y.getD j []) := fun j hj => by
                rcases Nat.lt_or_ge j k with h | h
                · exact hok.out j h
                · obtain rfl : j = k := by omega
                  exact hq
              rw [← hq] at hcc'
              clear hq
              generalize bs (x.getD k []) = X at *
              go_wp2
              go_quiet (fail)
              go_wp2
              go_roundw
              case rel => exact ⟨k + 1, by go_num, hlt, ⟨_, rfl⟩, HOK⟩
              case measure => simp [intOf]; omega
            · have HN := Lib.hid (HODD.out k hlt hq)
              have hne : ((bs (x.getD k [])).toList == (bs (y.getD k [])).toList) = false := by rw [bs_beq, beq_eq_false_iff_ne]; exact hq
              clear hq
              generalize bs (x.getD k []) = X at *
              generalize bs (y.getD k []) = Y at *
              go_wp2
              go_quiet (fail)
              go_wp2
              go_ret
              exact ⟨ret_bool HN.out.symm, below_drewN (below_drewN HB.out q) nq⟩
          · have hlt' : ¬ (k : Int) < (n : Int) := by omega
            have HN := Lib.hid (HALL.out hle fun j hj => hok.out j (by omega))
            go_wp2
            go_ret
            exact ⟨ret_bool HN.out.symm, below_drewN HB.out q⟩
      · have hle' : (n' : Int) < (n : Int) := by omega
        have hd : decide (n' < n) = true := by simp; omega
        have HU := Lib.hid (HLONG.out (by omega))
        clear hxl hyl
        go_wp2
        go_ret
        exact ⟨ret_bool HU.out.symm, hB⟩

/-! ### Ahead -/
theorem cmp_drop : ∀ (k : Nat) (a b : List UInt8), k ≤ a.length → k ≤ b.length → (∀ j, j < k → a.getD j 0 = b.getD j 0) → Lib.compareBytes a b = Lib.compareBytes (a.drop k) (b.drop k)
  | 0, _, _, _, _, _ => rfl
  | k + 1, [], _, h, _, _ => by simp at h
  | k + 1, _ :: _, [], _, h, _ => by simp at h
  | k + 1, x :: a, y :: b, h1, h2, h => by
    have e : x = y := by simpa using h 0 (by omega)
    subst e
    rw [Lib.compareBytes, if_neg (UInt8.lt_irrefl x), if_neg (UInt8.lt_irrefl x), List.drop_succ_cons, List.drop_succ_cons]
    exact cmp_drop k a b (by simpa using h1) (by simpa using h2) (fun j hj => by simpa using h (j + 1) (by omega))
def aheadL (a b : List UInt8) : Bool := decide (Lib.compareBytes a b < 0)
theorem ahead_at (a b : List UInt8) (k : Nat) (h1 : k < a.length) (h2 : k < b.length) (h : ∀ j, j < k → a.getD j 0 = b.getD j 0) (hne : a[k] ≠ b[k]) : aheadL a b = decide (((a[k].toNat : Nat) : Int) < ((b[k].toNat : Nat) : Int)) := by
  unfold aheadL
  rw [cmp_drop k a b (by omega) (by omega) h, List.drop_eq_getElem_cons h1, List.drop_eq_getElem_cons h2, Lib.compareBytes]
  have hl : (a[k] < b[k]) ↔ (((a[k].toNat : Nat) : Int) < ((b[k].toNat : Nat) : Int)) := by rw [UInt8.lt_iff_toNat_lt]; omega
  have hn : a[k].toNat ≠ b[k].toNat := fun e => hne (UInt8.toNat_inj.1 e)
  by_cases hlt : a[k] < b[k]
  · rw [if_pos hlt]; simp [hl.1 hlt]
  · have hgt : b[k] < a[k] := by
      rw [UInt8.lt_iff_toNat_lt] at hlt ⊢; omega
    have : ¬ (((a[k].toNat : Nat) : Int) < ((b[k].toNat : Nat) : Int)) := fun x => hlt (hl.2 x)
    rw [if_neg hlt, if_pos hgt]; simp [this]
theorem ahead_end (a b : List UInt8) (k : Nat) (h1 : k ≤ a.length) (h2 : k ≤ b.length) (hk : k = a.length ∨ k = b.length) (h : ∀ j, j < k → a.getD j 0 = b.getD j 0) : aheadL a b = decide (((a.length : Nat) : Int) < ((b.length : Nat) : Int)) := by
  unfold aheadL
  rw [cmp_drop k a b h1 h2 h]
  rcases hk with e | e
  · rw [List.drop_of_length_le (l := a) (by omega)]
    rcases Nat.lt_or_ge k b.length with hl | hl
    · rw [List.drop_eq_getElem_cons hl, Lib.compareBytes]
      have : (((a.length : Nat) : Int) < ((b.length : Nat) : Int)) := by omega
      simp [this]
    · rw [List.drop_of_length_le (l := b) (by omega), Lib.compareBytes]
      have : ¬ (((a.length : Nat) : Int) < ((b.length : Nat) : Int)) := by omega
      simp [this]
  · rw [List.drop_of_length_le (l := b) (by omega)]
    have : ¬ (((a.length : Nat) : Int) < ((b.length : Nat) : Int)) := by omega
    rcases Nat.lt_or_ge k a.length with hl | hl
    · rw [List.drop_eq_getElem_cons hl, Lib.compareBytes]
      simp [this]
    · rw [List.drop_of_length_le (l := a) (by omega), Lib.compareBytes]
      simp [this]
end Go.Proofs.YtcijpefddicmiaaDoor
