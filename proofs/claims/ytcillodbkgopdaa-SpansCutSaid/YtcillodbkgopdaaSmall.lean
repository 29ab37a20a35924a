/-
  WALKS: joins, holds, place, inBounds, listed, the reference's block. Conditions: the fields of a span are of an int64 (joins, place: small enough that no sum wraps round).
-/
import Derived.Test.YtcillodbkgopdaaWords
namespace Go.Proofs.Ytcillodbkgopdaa
open Go.RowKit

abbrev Sp.val (s : Sp) : Value := .agg #[.int .i64 s.at_, .int .i64 s.st, .int .i64 s.len]
/-- the fields are far from the ends of an int64. -/
def Sp.small (s : Sp) : Prop := (-1000000000 ≤ s.at_ ∧ s.at_ ≤ 1000000000) ∧ (-1000000000 ≤ s.st ∧ s.st ≤ 1000000000) ∧ (-1000000000 ≤ s.len ∧ s.len ≤ 1000000000)

set_option maxHeartbeats 1000000 in
theorem joins_any (a b : Sp) (w : World) (ha : a.small) :
    Calls Try.prog 21 #[a.val, b.val] w fun e w' => e = .returned (.bool (joinsB a b)) ∧ Below w.heap.size w w' := by
  obtain ⟨aa, ap, al⟩ := a
  obtain ⟨ba, bs, bl⟩ := b
  obtain ⟨h1, h2, h3⟩ := ha
  simp only at h1 h2 h3
  have hb : ∀ o : Obj, ∀ o' : Obj, Below w.heap.size w ((w.alloc o).alloc o') := fun o o' => ((Below.refl _ _).alloc (Nat.le_refl _) _).alloc (by simp) _
  have HB := Lib.hid hb
  clear hb
  by_cases e1 : ba = aa + al
  · have d1 : (ba == aa + al) = true := by simpa using e1
    by_cases e2 : bs = ap + al
    · have d2 : (bs == ap + al) = true := by simpa using e2
      have HJ : Hid (joinsB ⟨aa, ap, al⟩ ⟨ba, bs, bl⟩ = true) := joinsB_iff.2 ⟨e1, e2⟩
      clear e1 e2
      go_enter Try.func21, Try.ntmps21
      go_wp2
      go_ret
      rw [HJ.out]
      exact ⟨rfl, HB.out _ _⟩
    · have d2 : (bs == ap + al) = false := by simpa using e2
      have HJ : Hid (joinsB ⟨aa, ap, al⟩ ⟨ba, bs, bl⟩ = false) := by show _ = _; simp [joinsB, e2]
      clear e1 e2
      go_enter Try.func21, Try.ntmps21
      go_wp2
      go_ret
      rw [HJ.out]
      exact ⟨rfl, HB.out _ _⟩
  · have d1 : (ba == aa + al) = false := by simpa using e1
    have HJ : Hid (joinsB ⟨aa, ap, al⟩ ⟨ba, bs, bl⟩ = false) := by show _ = _; simp [joinsB, e1]
    clear e1
    go_enter Try.func21, Try.ntmps21
    go_wp2
    go_ret
    rw [HJ.out]
    exact ⟨rfl, HB.out _ _⟩

theorem joins_is (r : Bool) (a b : Sp) (w : World) (ha : a.small) (h : joinsB a b = r) :
    Calls Try.prog 21 #[a.val, b.val] w fun e w' => e = .returned (.bool r) ∧ Below w.heap.size w w' := by rw [← h]; exact joins_any a b w ha

set_option maxHeartbeats 1000000 in
theorem place_any (s : Sp) (i : Int) (w : World) (hs : s.small) (hi : -1000000000 ≤ i ∧ i ≤ 1000000000) :
    Calls Try.prog 24 #[s.val, .int .i64 i] w fun e w' => e = .returned (.int .i64 (placeI s i)) ∧ Below w.heap.size w w' := by
  obtain ⟨aa, ap, al⟩ := s
  obtain ⟨h1, h2, h3⟩ := hs
  simp only at h1 h2 h3
  have HP : Hid (placeI ⟨aa, ap, al⟩ i = ap + (i - aa)) := by show _ = _; rfl
  go_enter Try.func24, Try.ntmps24
  go_wp2
  go_ret
  rw [HP.out]
  exact ⟨rfl, (Below.refl _ _).alloc (Nat.le_refl _) _⟩

set_option maxHeartbeats 1000000 in
theorem block_any (z : Int) (w : World) : Calls Try.prog 22 #[.int .i64 z] w fun e w' => e = .returned (.int .i64 (norm z)) ∧ w = w' := by
  by_cases h1 : z < 1
  · have HN : Hid (norm z = 0) := by show _ = _; unfold norm; rw [if_pos (Or.inl h1)]
    have d1 : decide (z < 1) = true := by simpa using h1
    clear h1
    go_enter Try.func22, Try.ntmps22
    go_wp2
    go_ret
    rw [HN.out]; exact ⟨rfl, rfl⟩
  · have d1 : decide (z < 1) = false := by simpa using h1
    by_cases h2 : 65536 ≤ z
    · have HN : Hid (norm z = 0) := by show _ = _; unfold norm; rw [if_pos (Or.inr h2)]
      have d2 : decide (65536 ≤ z) = true := by simpa using h2
      clear h1 h2
      go_enter Try.func22, Try.ntmps22
      go_wp2
      go_ret
      rw [HN.out]; exact ⟨rfl, rfl⟩
    · have HN : Hid (norm z = z) := by show _ = _; unfold norm; rw [if_neg (by omega)]
      have d2 : decide (65536 ≤ z) = false := by simpa using h2
      clear h1 h2
      go_enter Try.func22, Try.ntmps22
      go_wp2
      go_ret
      rw [HN.out]; exact ⟨rfl, rfl⟩

set_option maxHeartbeats 1000000 in
theorem listed_any (s : Sp) (w : World) : Calls Try.prog 26 #[s.val] w fun e w' => e = .returned (.int .i64 (min (max s.len 0) 65536)) ∧ Below w.heap.size w w' := by
  obtain ⟨aa, ap, al⟩ := s
  simp only
  obtain ⟨m, hm⟩ : ∃ m : Int, m = min (max al 0) 65536 := ⟨_, rfl⟩
  rw [← hm]
  have HM := Lib.hid hm
  clear hm
  go_enter Try.func26, Try.ntmps26
  go_wp2
  all_goals
    go_ret
    refine ⟨ret_int ?_, (Below.refl _ _).alloc (Nat.le_refl _) _⟩
    have := HM.out
    omega
theorem u64_wrap (x : Int) : IntKind.u64.wrap x = x % 18446744073709551616 := by
  simp [IntKind.wrap, IntKind.signed, IntKind.bits]
theorem u64_dist {i a : Int} (hi : Fit i) (ha : Fit a) (h : a ≤ i) : IntKind.u64.wrap (IntKind.u64.wrap i - IntKind.u64.wrap a) = i - a := by
  unfold Fit at hi ha
  rw [u64_wrap, u64_wrap, u64_wrap]; omega
theorem u64_pos {a : Int} (ha : Fit a) (h : 0 ≤ a) : IntKind.u64.wrap a = a := by
  unfold Fit at ha
  rw [u64_wrap]; omega

set_option maxHeartbeats 1000000 in
theorem holds_any (s : Sp) (i : Int) (w : World) (hs : s.fit) (hi : Fit i) :
    Calls Try.prog 23 #[s.val, .int .i64 i] w fun e w' => e = .returned (.bool (holdsB s i)) ∧ Below w.heap.size w w' := by
  obtain ⟨aa, ap, al⟩ := s
  obtain ⟨h1, h2, h3⟩ := hs
  simp only at h1 h2 h3
  have HB : Hid (∀ o : Obj, Below w.heap.size w (w.alloc o)) := fun o => (Below.refl _ _).alloc (Nat.le_refl _) _
  by_cases c1 : 1 ≤ al
  · by_cases c2 : aa ≤ i
    · have HD := Lib.hid (u64_dist hi h1 c2)
      have HL := Lib.hid (u64_pos h3 (by omega))
      have HJ : Hid (holdsB ⟨aa, ap, al⟩ i = decide (i - aa < al)) := by
        show _ = _
        rw [Bool.eq_iff_iff, holdsB_iff]; simp only [decide_eq_true_eq]; omega
      have d1 : decide (1 ≤ al) = true := by simpa using c1
      have d2 : decide (aa ≤ i) = true := by simpa using c2
      generalize holdsB ⟨aa, ap, al⟩ i = r at *
      clear c1 c2
      go_enter Try.func23, Try.ntmps23
      go_wp2
      go_ret
      exact ⟨ret_bool (by rw [HJ.out, ← HD.out, ← HL.out]; simp [u64_wrap]), HB.out _⟩
    · have HJ : Hid (holdsB ⟨aa, ap, al⟩ i = false) := holdsB_not (by simp only; omega)
      have d1 : decide (1 ≤ al) = true := by simpa using c1
      have d2 : decide (aa ≤ i) = false := by simpa using c2
      clear c1 c2
      go_enter Try.func23, Try.ntmps23
      go_wp2
      go_ret
      rw [HJ.out]
      exact ⟨rfl, HB.out _⟩
  · have HJ : Hid (holdsB ⟨aa, ap, al⟩ i = false) := holdsB_not (by simp only; omega)
    have d1 : decide (1 ≤ al) = false := by simpa using c1
    clear c1
    go_enter Try.func23, Try.ntmps23
    go_wp2
    go_ret
    rw [HJ.out]
    exact ⟨rfl, HB.out _⟩
theorem holds_is (r : Bool) (s : Sp) (i : Int) (w : World) (hs : s.fit) (hi : Fit i) (h : holdsB s i = r) :
    Calls Try.prog 23 #[s.val, .int .i64 i] w fun e w' => e = .returned (.bool r) ∧ Below w.heap.size w w' := by rw [← h]; exact holds_any s i w hs hi

set_option maxHeartbeats 2000000 in
theorem inBounds_any (s : Sp) (w : World) :
    Calls Try.prog 25 #[s.val] w fun e w' => e = .returned (.bool (inB s)) ∧ Below w.heap.size w w' := by
  obtain ⟨aa, ap, al⟩ := s
  have HB : Hid (∀ o : Obj, Below w.heap.size w (w.alloc o)) := fun o => (Below.refl _ _).alloc (Nat.le_refl _) _
  have HI : Hid (inB ⟨aa, ap, al⟩ = decide (0 ≤ aa ∧ aa < 65536 ∧ 1 ≤ ap ∧ ap < 65536 ∧ 1 ≤ al ∧ al < 65536 ∧ aa + al ≤ 65536 ∧ ap + al ≤ 65536)) := by show _ = _; rfl
  generalize inB ⟨aa, ap, al⟩ = r at *
  by_cases c0 : 0 ≤ aa
  · have d0 : decide (0 ≤ aa) = true := by simpa using c0
    by_cases c1 : aa < 65536
    · have d1 : decide (aa < 65536) = true := by simpa using c1
      by_cases c2 : 1 ≤ ap
      · have d2 : decide (1 ≤ ap) = true := by simpa using c2
        by_cases c3 : ap < 65536
        · have d3 : decide (ap < 65536) = true := by simpa using c3
          by_cases c4 : 1 ≤ al
          · have d4 : decide (1 ≤ al) = true := by simpa using c4
            by_cases c5 : al < 65536
            · have d5 : decide (al < 65536) = true := by simpa using c5
              by_cases c6 : aa + al ≤ 65536
              · have d6 : decide (aa + al ≤ 65536) = true := by simpa using c6
                by_cases c7 : ap + al ≤ 65536
                · have d7 : decide (ap + al ≤ 65536) = true := by simpa using c7
                  have HR : Hid (r = true) := by show _ = _; rw [HI.out]; simp only [decide_eq_true_eq]; omega
                  clear HI
                  go_enter Try.func25, Try.ntmps25
                  go_wp2
                  go_ret
                  exact ⟨ret_bool HR.out.symm, HB.out _⟩
                · have d7 : decide (ap + al ≤ 65536) = false := by simpa using c7
                  have HR : Hid (r = false) := by show _ = _; rw [HI.out]; simp only [decide_eq_false_iff_not]; omega
                  clear HI
                  go_enter Try.func25, Try.ntmps25
                  go_wp2
                  go_ret
                  exact ⟨ret_bool HR.out.symm, HB.out _⟩
              · have d6 : decide (aa + al ≤ 65536) = false := by simpa using c6
                have HR : Hid (r = false) := by show _ = _; rw [HI.out]; simp only [decide_eq_false_iff_not]; omega
                clear HI
                go_enter Try.func25, Try.ntmps25
                go_wp2
                go_ret
                exact ⟨ret_bool HR.out.symm, HB.out _⟩
            · have d5 : decide (al < 65536) = false := by simpa using c5
              have HR : Hid (r = false) := by show _ = _; rw [HI.out]; simp only [decide_eq_false_iff_not]; omega
              clear HI
              go_enter Try.func25, Try.ntmps25
              go_wp2
              go_ret
              exact ⟨ret_bool HR.out.symm, HB.out _⟩
          · have d4 : decide (1 ≤ al) = false := by simpa using c4
            have HR : Hid (r = false) := by show _ = _; rw [HI.out]; simp only [decide_eq_false_iff_not]; omega
            clear HI
            go_enter Try.func25, Try.ntmps25
            go_wp2
            go_ret
            exact ⟨ret_bool HR.out.symm, HB.out _⟩
        · have d3 : decide (ap < 65536) = false := by simpa using c3
          have HR : Hid (r = false) := by show _ = _; rw [HI.out]; simp only [decide_eq_false_iff_not]; omega
          clear HI
          go_enter Try.func25, Try.ntmps25
          go_wp2
          go_ret
          exact ⟨ret_bool HR.out.symm, HB.out _⟩
      · have d2 : decide (1 ≤ ap) = false := by simpa using c2
        have HR : Hid (r = false) := by show _ = _; rw [HI.out]; simp only [decide_eq_false_iff_not]; omega
        clear HI
        go_enter Try.func25, Try.ntmps25
        go_wp2
        go_ret
        exact ⟨ret_bool HR.out.symm, HB.out _⟩
    · have d1 : decide (aa < 65536) = false := by simpa using c1
      have HR : Hid (r = false) := by show _ = _; rw [HI.out]; simp only [decide_eq_false_iff_not]; omega
      clear HI
      go_enter Try.func25, Try.ntmps25
      go_wp2
      go_ret
      exact ⟨ret_bool HR.out.symm, HB.out _⟩
  · have d0 : decide (0 ≤ aa) = false := by simpa using c0
    have HR : Hid (r = false) := by show _ = _; rw [HI.out]; simp only [decide_eq_false_iff_not]; omega
    clear HI
    go_enter Try.func25, Try.ntmps25
    go_wp2
    go_ret
    exact ⟨ret_bool HR.out.symm, HB.out _⟩
end Go.Proofs.Ytcillodbkgopdaa
