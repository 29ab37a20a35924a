/-
  WALKS: joins, holds, place, inBounds, listed, the reference's block. Conditions: the fields of a span are of an int64 (joins, place: small enough that no sum wraps round).
-/
import Derived.Test.YtmimfnbcffcdfaaSWords
namespace Go.Proofs.Ytmimfnbcffcdfaa
open Go.RowKit

abbrev Sp.val (s : Sp) : Value := .agg #[.int .i64 s.at_, .int .i64 s.st, .int .i64 s.len]
/-- the fields are far from the ends of an int64. -/
def Sp.small (s : Sp) : Prop := (-1000000000 ≤ s.at_ ∧ s.at_ ≤ 1000000000) ∧ (-1000000000 ≤ s.st ∧ s.st ≤ 1000000000) ∧ (-1000000000 ≤ s.len ∧ s.len ≤ 1000000000)

set_option maxHeartbeats 1000000 in
theorem joins_any (a b : Sp) (w : World) (ha : a.small) :
    Calls Try.prog 57 #[a.val, b.val] w fun e w' => e = .returned (.bool (joinsB a b)) ∧ Below w.heap.size w w' := by
  obtain ⟨aa, ap, al⟩ := a
  obtain ⟨ba, bs, bl⟩ := b
  obtain ⟨h1, h2, h3⟩ := ha
  simp only at h1 h2 h3
  have hb : ∀ o : Obj, ∀ o' : Obj, Below w.heap.size w ((w.alloc o).alloc o') := fun o o' => ((Below.refl _ _).alloc (Nat.le_refl _) _).alloc (by simp) _
  have HB := Lib.hid hb
  clear hb
  by_cases e1 : ba = aa + al
  · have d1 : (ba == aa + al) = true := by simpa using e1
    by_cases e2 : bs = ap + al
    · have d2 : (bs == ap + al) = true := by simpa using e2
      have HJ : Hid (joinsB ⟨aa, ap, al⟩ ⟨ba, bs, bl⟩ = true) := joinsB_iff.2 ⟨e1, e2⟩
      clear e1 e2
      go_enter Try.func57, Try.ntmps57
      go_wp2
      go_ret
      rw [HJ.out]
      exact ⟨rfl, HB.out _ _⟩
    · have d2 : (bs == ap + al) = false := by simpa using e2
      have HJ : Hid (joinsB ⟨aa, ap, al⟩ ⟨ba, bs, bl⟩ = false) := by show _ = _; simp [joinsB, e2]
      clear e1 e2
      go_enter Try.func57, Try.ntmps57
      go_wp2
      go_ret
      rw [HJ.out]
      exact ⟨rfl, HB.out _ _⟩
  · have d1 : (ba == aa + al) = false := by simpa using e1
    have HJ : Hid (joinsB ⟨aa, ap, al⟩ ⟨ba, bs, bl⟩ = false) := by show _ = _; simp [joinsB, e1]
    clear e1
    go_enter Try.func57, Try.ntmps57
    go_wp2
    go_ret
    rw [HJ.out]
    exact ⟨rfl, HB.out _ _⟩

theorem joins_is (r : Bool) (a b : Sp) (w : World) (ha : a.small) (h : joinsB a b = r) :
    Calls Try.prog 57 #[a.val, b.val] w fun e w' => e = .returned (.bool r) ∧ Below w.heap.size w w' := by rw [← h]; exact joins_any a b w ha

set_option maxHeartbeats 2000000 in
theorem inBounds_any (s : Sp) (w : World) :
    Calls Try.prog 56 #[s.val] w fun e w' => e = .returned (.bool (inB s)) ∧ Below w.heap.size w w' := by
  obtain ⟨aa, ap, al⟩ := s
  have HB : Hid (∀ o : Obj, Below w.heap.size w (w.alloc o)) := fun o => (Below.refl _ _).alloc (Nat.le_refl _) _
  have HI : Hid (inB ⟨aa, ap, al⟩ = decide (0 ≤ aa ∧ aa < 65536 ∧ 1 ≤ ap ∧ ap < 65536 ∧ 1 ≤ al ∧ al < 65536 ∧ aa + al ≤ 65536 ∧ ap + al ≤ 65536)) := by show _ = _; rfl
  generalize inB ⟨aa, ap, al⟩ = r at *
  by_cases c0 : 0 ≤ aa
  · have d0 : decide (0 ≤ aa) = true := by simpa using c0
    by_cases c1 : aa < 65536
    · have d1 : decide (aa < 65536) = true := by simpa using c1
      by_cases c2 : 1 ≤ ap
      · have d2 : decide (1 ≤ ap) = true := by simpa using c2
        by_cases c3 : ap < 65536
        · have d3 : decide (ap < 65536) = true := by simpa using c3
          by_cases c4 : 1 ≤ al
          · have d4 : decide (1 ≤ al) = true := by simpa using c4
            by_cases c5 : al < 65536
            · have d5 : decide (al < 65536) = true := by simpa using c5
              by_cases c6 : aa + al ≤ 65536
              · have d6 : decide (aa + al ≤ 65536) = true := by simpa using c6
                by_cases c7 : ap + al ≤ 65536
                · have d7 : decide (ap + al ≤ 65536) = true := by simpa using c7
                  have HR : Hid (r = true) := by show _ = _; rw [HI.out]; simp only [decide_eq_true_eq]; omega
                  clear HI
                  go_enter Try.func56, Try.ntmps56
                  go_wp2
                  go_ret
                  exact ⟨ret_bool HR.out.symm, HB.out _⟩
                · have d7 : decide (ap + al ≤ 65536) = false := by simpa using c7
                  have HR : Hid (r = false) := by show _ = _; rw [HI.out]; simp only [decide_eq_false_iff_not]; omega
                  clear HI
                  go_enter Try.func56, Try.ntmps56
                  go_wp2
                  go_ret
                  exact ⟨ret_bool HR.out.symm, HB.out _⟩
              · have d6 : decide (aa + al ≤ 65536) = false := by simpa using c6
                have HR : Hid (r = false) := by show _ = _; rw [HI.out]; simp only [decide_eq_false_iff_not]; omega
                clear HI
                go_enter Try.func56, Try.ntmps56
                go_wp2
                go_ret
                exact ⟨ret_bool HR.out.symm, HB.out _⟩
            · have d5 : decide (al < 65536) = false := by simpa using c5
              have HR : Hid (r = false) := by show _ = _; rw [HI.out]; simp only [decide_eq_false_iff_not]; omega
              clear HI
              go_enter Try.func56, Try.ntmps56
              go_wp2
              go_ret
              exact ⟨ret_bool HR.out.symm, HB.out _⟩
          · have d4 : decide (1 ≤ al) = false := by simpa using c4
            have HR : Hid (r = false) := by show _ = _; rw [HI.out]; simp only [decide_eq_false_iff_not]; omega
            clear HI
            go_enter Try.func56, Try.ntmps56
            go_wp2
            go_ret
            exact ⟨ret_bool HR.out.symm, HB.out _⟩
        · have d3 : decide (ap < 65536) = false := by simpa using c3
          have HR : Hid (r = false) := by show _ = _; rw [HI.out]; simp only [decide_eq_false_iff_not]; omega
          clear HI
          go_enter Try.func56, Try.ntmps56
          go_wp2
          go_ret
          exact ⟨ret_bool HR.out.symm, HB.out _⟩
      · have d2 : decide (1 ≤ ap) = false := by simpa using c2
        have HR : Hid (r = false) := by show _ = _; rw [HI.out]; simp only [decide_eq_false_iff_not]; omega
        clear HI
        go_enter Try.func56, Try.ntmps56
        go_wp2
        go_ret
        exact ⟨ret_bool HR.out.symm, HB.out _⟩
    · have d1 : decide (aa < 65536) = false := by simpa using c1
      have HR : Hid (r = false) := by show _ = _; rw [HI.out]; simp only [decide_eq_false_iff_not]; omega
      clear HI
      go_enter Try.func56, Try.ntmps56
      go_wp2
      go_ret
      exact ⟨ret_bool HR.out.symm, HB.out _⟩
  · have d0 : decide (0 ≤ aa) = false := by simpa using c0
    have HR : Hid (r = false) := by show _ = _; rw [HI.out]; simp only [decide_eq_false_iff_not]; omega
    clear HI
    go_enter Try.func56, Try.ntmps56
    go_wp2
    go_ret
    exact ⟨ret_bool HR.out.symm, HB.out _⟩
end Go.Proofs.Ytmimfnbcffcdfaa
