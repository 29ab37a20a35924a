/-
  LadderPlace: each block is told in one place, and no two in one. No condition.
-/
import Derived.Test.YtiknbbkblldjiaaFrame
import Derived.BigGuardPart
import Derived.Deep.CutRange
namespace Go.Proofs.Ytiknbbkblldjiaa.ladderPlace
open Go.ChangeShapes Go.WideShapes Go.ChangeAt Go.RowKit
open Go.ChangeMaps (open_string shut_string)

theorem placeK_fit (i : Int) (h : Fit i) : Fit (placeK i).1 ∧ Fit (placeK i).2.1 ∧ Fit (placeK i).2.2 := by
  unfold placeK Fit at *
  split
  · exact ⟨by simp, by simp, by simp⟩
  · split
    · exact ⟨by simp, by simp; omega, by simp⟩
    · split
      · exact ⟨by simp, by simp; omega, by simp⟩
      · exact ⟨by simp, by simp; omega, by simp; omega⟩
theorem place_in (i : Int) (h : ¬ (i < 0 ∨ 76 ≤ i)) : (0 ≤ i ∧ i < 4 ∧ placeK i = (0, i, 0)) ∨ (∃ b : Int, 0 ≤ b ∧ b < 8 ∧ i = 4 + b ∧ placeK i = (1, b, 0)) ∨ (∃ b c : Int, 0 ≤ b ∧ b < 8 ∧ 0 ≤ c ∧ c < 8 ∧ i = 12 + 8 * b + c ∧ placeK i = (2, b, c)) := by
  unfold placeK
  rw [if_neg h]
  by_cases h4 : i < 4
  · exact .inl ⟨by omega, h4, by rw [if_pos h4]⟩
  · rw [if_neg h4]
    by_cases h12 : i < 12
    · exact .inr (.inl ⟨i - 4, by omega, by omega, by omega, by rw [if_pos h12]⟩)
    · exact .inr (.inr ⟨(i - 12) / 8, (i - 12) % 8, by omega, by omega, by omega, by omega, by omega, by rw [if_neg h12]⟩)
theorem place_inj (i j : Int) (h : ¬ (i < 0 ∨ 76 ≤ i)) (e : placeK i = placeK j) : i = j := by
  by_cases hj : j < 0 ∨ 76 ≤ j
  · have e1 : placeK j = (-1, 0, 0) := by unfold placeK; rw [if_pos hj]
    rw [e1] at e
    rcases place_in i h with ⟨_, _, e2⟩ | ⟨b, _, _, _, e2⟩ | ⟨b, c, _, _, _, _, _, e2⟩ <;> rw [e2] at e <;> simp at e
  · rcases place_in i h with ⟨_, _, e2⟩ | ⟨b, _, _, _, e2⟩ | ⟨b, c, _, _, _, _, _, e2⟩ <;> rcases place_in j hj with ⟨_, _, e3⟩ | ⟨b', _, _, _, e3⟩ | ⟨b', c', _, _, _, _, _, e3⟩ <;> rw [e2, e3] at e <;> simp at e <;> omega
theorem place_out (i : Int) (h : i < 0 ∨ 76 ≤ i) : placeK i = (-1, 0, 0) := by unfold placeK; rw [if_pos h]

set_option maxHeartbeats 4000000 in
theorem sameA (i : Int) (w : World) (h1 : 0 ≤ i) (h2 : i < 4) (HI : Hid (∀ w, Calls Try.prog 18 #[.int .i64 (i)] w fun e w' => e = .returned (.tuple #[.int .i64 (0), .int .i64 (i), .int .i64 (0)]) ∧ w = w')) (HJ : Hid (∀ w, Calls Try.prog 18 #[.int .i64 (i)] w fun e w' => e = .returned (.tuple #[.int .i64 (0), .int .i64 (i), .int .i64 (0)]) ∧ w = w')) :
    Calls Try.prog 6 #[.int .i64 (i), .int .i64 (i)] w fun e w' => e = .returned (.bool true) ∧ Below w.heap.size w w' := by
  have HV := Lib.hid lives_any
  have e1 : decide (i < 0) = false := decide_eq_false (by omega)
  have e2 : decide (76 ≤ i) = false := decide_eq_false (by omega)
  have e3 : ¬ i < 0 := by omega
  have e4 : ¬ 76 ≤ i := by omega
  go_enter Try.func6, Try.ntmps6
  go_wp2_with fail
  refine (HV.out _).mono ?_
  rintro e w1 ⟨rfl, hb⟩
  go_wp2_with fail
  refine (HI.out _).mono ?_
  rintro e w2 ⟨rfl, rfl⟩
  go_wp2_with fail
  refine (HJ.out _).mono ?_
  rintro e w3 ⟨rfl, rfl⟩
  go_upto_region 7 with fail
  simp only [List.append_eq, List.cons_append, List.nil_append]
  go_wp2
  go_ret
  exact ⟨rfl, hb⟩

set_option maxHeartbeats 4000000 in
theorem neA1 (i : Int) (j d f g : Int) (w : World) (h1 : 0 ≤ i) (h2 : i < 4) (hij : (i == j) = false) (q : ((0 : Int) == d) = false) (HI : Hid (∀ w, Calls Try.prog 18 #[.int .i64 (i)] w fun e w' => e = .returned (.tuple #[.int .i64 (0), .int .i64 (i), .int .i64 (0)]) ∧ w = w')) (HJ : Hid (∀ w, Calls Try.prog 18 #[.int .i64 (j)] w fun e w' => e = .returned (.tuple #[.int .i64 (d), .int .i64 (f), .int .i64 (g)]) ∧ w = w')) :
    Calls Try.prog 6 #[.int .i64 (i), .int .i64 (j)] w fun e w' => e = .returned (.bool true) ∧ Below w.heap.size w w' := by
  have HV := Lib.hid lives_any
  have e1 : decide (i < 0) = false := decide_eq_false (by omega)
  have e2 : decide (76 ≤ i) = false := decide_eq_false (by omega)
  have e3 : ¬ i < 0 := by omega
  have e4 : ¬ 76 ≤ i := by omega
  go_enter Try.func6, Try.ntmps6
  go_wp2_with fail
  refine (HV.out _).mono ?_
  rintro e w1 ⟨rfl, hb⟩
  go_wp2_with fail
  refine (HI.out _).mono ?_
  rintro e w2 ⟨rfl, rfl⟩
  go_wp2_with fail
  refine (HJ.out _).mono ?_
  rintro e w3 ⟨rfl, rfl⟩
  go_upto_region 7 with fail
  simp only [List.append_eq, List.cons_append, List.nil_append]
  go_wp2
  go_ret
  exact ⟨rfl, hb⟩

set_option maxHeartbeats 4000000 in
theorem neA2 (i : Int) (j f g : Int) (w : World) (h1 : 0 ≤ i) (h2 : i < 4) (hij : (i == j) = false) (q : ((i : Int) == f) = false) (HI : Hid (∀ w, Calls Try.prog 18 #[.int .i64 (i)] w fun e w' => e = .returned (.tuple #[.int .i64 (0), .int .i64 (i), .int .i64 (0)]) ∧ w = w')) (HJ : Hid (∀ w, Calls Try.prog 18 #[.int .i64 (j)] w fun e w' => e = .returned (.tuple #[.int .i64 (0), .int .i64 (f), .int .i64 (g)]) ∧ w = w')) :
    Calls Try.prog 6 #[.int .i64 (i), .int .i64 (j)] w fun e w' => e = .returned (.bool true) ∧ Below w.heap.size w w' := by
  have HV := Lib.hid lives_any
  have e1 : decide (i < 0) = false := decide_eq_false (by omega)
  have e2 : decide (76 ≤ i) = false := decide_eq_false (by omega)
  have e3 : ¬ i < 0 := by omega
  have e4 : ¬ 76 ≤ i := by omega
  go_enter Try.func6, Try.ntmps6
  go_wp2_with fail
  refine (HV.out _).mono ?_
  rintro e w1 ⟨rfl, hb⟩
  go_wp2_with fail
  refine (HI.out _).mono ?_
  rintro e w2 ⟨rfl, rfl⟩
  go_wp2_with fail
  refine (HJ.out _).mono ?_
  rintro e w3 ⟨rfl, rfl⟩
  go_upto_region 7 with fail
  simp only [List.append_eq, List.cons_append, List.nil_append]
  go_wp2
  go_ret
  exact ⟨rfl, hb⟩

set_option maxHeartbeats 4000000 in
theorem neA3 (i : Int) (j g : Int) (w : World) (h1 : 0 ≤ i) (h2 : i < 4) (hij : (i == j) = false) (q : ((0 : Int) == g) = false) (HI : Hid (∀ w, Calls Try.prog 18 #[.int .i64 (i)] w fun e w' => e = .returned (.tuple #[.int .i64 (0), .int .i64 (i), .int .i64 (0)]) ∧ w = w')) (HJ : Hid (∀ w, Calls Try.prog 18 #[.int .i64 (j)] w fun e w' => e = .returned (.tuple #[.int .i64 (0), .int .i64 (i), .int .i64 (g)]) ∧ w = w')) :
    Calls Try.prog 6 #[.int .i64 (i), .int .i64 (j)] w fun e w' => e = .returned (.bool true) ∧ Below w.heap.size w w' := by
  have HV := Lib.hid lives_any
  have e1 : decide (i < 0) = false := decide_eq_false (by omega)
  have e2 : decide (76 ≤ i) = false := decide_eq_false (by omega)
  have e3 : ¬ i < 0 := by omega
  have e4 : ¬ 76 ≤ i := by omega
  go_enter Try.func6, Try.ntmps6
  go_wp2_with fail
  refine (HV.out _).mono ?_
  rintro e w1 ⟨rfl, hb⟩
  go_wp2_with fail
  refine (HI.out _).mono ?_
  rintro e w2 ⟨rfl, rfl⟩
  go_wp2_with fail
  refine (HJ.out _).mono ?_
  rintro e w3 ⟨rfl, rfl⟩
  go_upto_region 7 with fail
  simp only [List.append_eq, List.cons_append, List.nil_append]
  go_wp2
  go_ret
  exact ⟨rfl, hb⟩

set_option maxHeartbeats 4000000 in
theorem sameB (b : Int) (w : World) (h1 : 0 ≤ b) (h2 : b < 8) (HI : Hid (∀ w, Calls Try.prog 18 #[.int .i64 (4 + b)] w fun e w' => e = .returned (.tuple #[.int .i64 (1), .int .i64 (b), .int .i64 (0)]) ∧ w = w')) (HJ : Hid (∀ w, Calls Try.prog 18 #[.int .i64 (4 + b)] w fun e w' => e = .returned (.tuple #[.int .i64 (1), .int .i64 (b), .int .i64 (0)]) ∧ w = w')) :
    Calls Try.prog 6 #[.int .i64 (4 + b), .int .i64 (4 + b)] w fun e w' => e = .returned (.bool true) ∧ Below w.heap.size w w' := by
  have HV := Lib.hid lives_any
  have e1 : decide (4 + b < 0) = false := decide_eq_false (by omega)
  have e2 : decide (76 ≤ 4 + b) = false := decide_eq_false (by omega)
  have e3 : ¬ 4 + b < 0 := by omega
  have e4 : ¬ 76 ≤ 4 + b := by omega
  go_enter Try.func6, Try.ntmps6
  go_wp2_with fail
  refine (HV.out _).mono ?_
  rintro e w1 ⟨rfl, hb⟩
  go_wp2_with fail
  refine (HI.out _).mono ?_
  rintro e w2 ⟨rfl, rfl⟩
  go_wp2_with fail
  refine (HJ.out _).mono ?_
  rintro e w3 ⟨rfl, rfl⟩
  go_upto_region 7 with fail
  simp only [List.append_eq, List.cons_append, List.nil_append]
  go_wp2
  go_ret
  exact ⟨rfl, hb⟩

set_option maxHeartbeats 4000000 in
theorem neB1 (b : Int) (j d f g : Int) (w : World) (h1 : 0 ≤ b) (h2 : b < 8) (hij : (4 + b == j) = false) (q : ((1 : Int) == d) = false) (HI : Hid (∀ w, Calls Try.prog 18 #[.int .i64 (4 + b)] w fun e w' => e = .returned (.tuple #[.int .i64 (1), .int .i64 (b), .int .i64 (0)]) ∧ w = w')) (HJ : Hid (∀ w, Calls Try.prog 18 #[.int .i64 (j)] w fun e w' => e = .returned (.tuple #[.int .i64 (d), .int .i64 (f), .int .i64 (g)]) ∧ w = w')) :
    Calls Try.prog 6 #[.int .i64 (4 + b), .int .i64 (j)] w fun e w' => e = .returned (.bool true) ∧ Below w.heap.size w w' := by
  have HV := Lib.hid lives_any
  have e1 : decide (4 + b < 0) = false := decide_eq_false (by omega)
  have e2 : decide (76 ≤ 4 + b) = false := decide_eq_false (by omega)
  have e3 : ¬ 4 + b < 0 := by omega
  have e4 : ¬ 76 ≤ 4 + b := by omega
  go_enter Try.func6, Try.ntmps6
  go_wp2_with fail
  refine (HV.out _).mono ?_
  rintro e w1 ⟨rfl, hb⟩
  go_wp2_with fail
  refine (HI.out _).mono ?_
  rintro e w2 ⟨rfl, rfl⟩
  go_wp2_with fail
  refine (HJ.out _).mono ?_
  rintro e w3 ⟨rfl, rfl⟩
  go_upto_region 7 with fail
  simp only [List.append_eq, List.cons_append, List.nil_append]
  go_wp2
  go_ret
  exact ⟨rfl, hb⟩

set_option maxHeartbeats 4000000 in
theorem neB2 (b : Int) (j f g : Int) (w : World) (h1 : 0 ≤ b) (h2 : b < 8) (hij : (4 + b == j) = false) (q : ((b : Int) == f) = false) (HI : Hid (∀ w, Calls Try.prog 18 #[.int .i64 (4 + b)] w fun e w' => e = .returned (.tuple #[.int .i64 (1), .int .i64 (b), .int .i64 (0)]) ∧ w = w')) (HJ : Hid (∀ w, Calls Try.prog 18 #[.int .i64 (j)] w fun e w' => e = .returned (.tuple #[.int .i64 (1), .int .i64 (f), .int .i64 (g)]) ∧ w = w')) :
    Calls Try.prog 6 #[.int .i64 (4 + b), .int .i64 (j)] w fun e w' => e = .returned (.bool true) ∧ Below w.heap.size w w' := by
  have HV := Lib.hid lives_any
  have e1 : decide (4 + b < 0) = false := decide_eq_false (by omega)
  have e2 : decide (76 ≤ 4 + b) = false := decide_eq_false (by omega)
  have e3 : ¬ 4 + b < 0 := by omega
  have e4 : ¬ 76 ≤ 4 + b := by omega
  go_enter Try.func6, Try.ntmps6
  go_wp2_with fail
  refine (HV.out _).mono ?_
  rintro e w1 ⟨rfl, hb⟩
  go_wp2_with fail
  refine (HI.out _).mono ?_
  rintro e w2 ⟨rfl, rfl⟩
  go_wp2_with fail
  refine (HJ.out _).mono ?_
  rintro e w3 ⟨rfl, rfl⟩
  go_upto_region 7 with fail
  simp only [List.append_eq, List.cons_append, List.nil_append]
  go_wp2
  go_ret
  exact ⟨rfl, hb⟩

set_option maxHeartbeats 4000000 in
theorem neB3 (b : Int) (j g : Int) (w : World) (h1 : 0 ≤ b) (h2 : b < 8) (hij : (4 + b == j) = false) (q : ((0 : Int) == g) = false) (HI : Hid (∀ w, Calls Try.prog 18 #[.int .i64 (4 + b)] w fun e w' => e = .returned (.tuple #[.int .i64 (1), .int .i64 (b), .int .i64 (0)]) ∧ w = w')) (HJ : Hid (∀ w, Calls Try.prog 18 #[.int .i64 (j)] w fun e w' => e = .returned (.tuple #[.int .i64 (1), .int .i64 (b), .int .i64 (g)]) ∧ w = w')) :
    Calls Try.prog 6 #[.int .i64 (4 + b), .int .i64 (j)] w fun e w' => e = .returned (.bool true) ∧ Below w.heap.size w w' := by
  have HV := Lib.hid lives_any
  have e1 : decide (4 + b < 0) = false := decide_eq_false (by omega)
  have e2 : decide (76 ≤ 4 + b) = false := decide_eq_false (by omega)
  have e3 : ¬ 4 + b < 0 := by omega
  have e4 : ¬ 76 ≤ 4 + b := by omega
  go_enter Try.func6, Try.ntmps6
  go_wp2_with fail
  refine (HV.out _).mono ?_
  rintro e w1 ⟨rfl, hb⟩
  go_wp2_with fail
  refine (HI.out _).mono ?_
  rintro e w2 ⟨rfl, rfl⟩
  go_wp2_with fail
  refine (HJ.out _).mono ?_
  rintro e w3 ⟨rfl, rfl⟩
  go_upto_region 7 with fail
  simp only [List.append_eq, List.cons_append, List.nil_append]
  go_wp2
  go_ret
  exact ⟨rfl, hb⟩

set_option maxHeartbeats 4000000 in
theorem sameC (b c : Int) (w : World) (h1 : 0 ≤ b) (h2 : b < 8) (h3 : 0 ≤ c) (h4 : c < 8) (HI : Hid (∀ w, Calls Try.prog 18 #[.int .i64 (12 + 8 * b + c)] w fun e w' => e = .returned (.tuple #[.int .i64 (2), .int .i64 (b), .int .i64 (c)]) ∧ w = w')) (HJ : Hid (∀ w, Calls Try.prog 18 #[.int .i64 (12 + 8 * b + c)] w fun e w' => e = .returned (.tuple #[.int .i64 (2), .int .i64 (b), .int .i64 (c)]) ∧ w = w')) :
    Calls Try.prog 6 #[.int .i64 (12 + 8 * b + c), .int .i64 (12 + 8 * b + c)] w fun e w' => e = .returned (.bool true) ∧ Below w.heap.size w w' := by
  have HV := Lib.hid lives_any
  have e1 : decide (12 + 8 * b + c < 0) = false := decide_eq_false (by omega)
  have e2 : decide (76 ≤ 12 + 8 * b + c) = false := decide_eq_false (by omega)
  have e3 : ¬ 12 + 8 * b + c < 0 := by omega
  have e4 : ¬ 76 ≤ 12 + 8 * b + c := by omega
  go_enter Try.func6, Try.ntmps6
  go_wp2_with fail
  refine (HV.out _).mono ?_
  rintro e w1 ⟨rfl, hb⟩
  go_wp2_with fail
  refine (HI.out _).mono ?_
  rintro e w2 ⟨rfl, rfl⟩
  go_wp2_with fail
  refine (HJ.out _).mono ?_
  rintro e w3 ⟨rfl, rfl⟩
  go_upto_region 7 with fail
  simp only [List.append_eq, List.cons_append, List.nil_append]
  go_wp2
  go_ret
  exact ⟨rfl, hb⟩

set_option maxHeartbeats 4000000 in
theorem neC1 (b c : Int) (j d f g : Int) (w : World) (h1 : 0 ≤ b) (h2 : b < 8) (h3 : 0 ≤ c) (h4 : c < 8) (hij : (12 + 8 * b + c == j) = false) (q : ((2 : Int) == d) = false) (HI : Hid (∀ w, Calls Try.prog 18 #[.int .i64 (12 + 8 * b + c)] w fun e w' => e = .returned (.tuple #[.int .i64 (2), .int .i64 (b), .int .i64 (c)]) ∧ w = w')) (HJ : Hid (∀ w, Calls Try.prog 18 #[.int .i64 (j)] w fun e w' => e = .returned (.tuple #[.int .i64 (d), .int .i64 (f), .int .i64 (g)]) ∧ w = w')) :
    Calls Try.prog 6 #[.int .i64 (12 + 8 * b + c), .int .i64 (j)] w fun e w' => e = .returned (.bool true) ∧ Below w.heap.size w w' := by
  have HV := Lib.hid lives_any
  have e1 : decide (12 + 8 * b + c < 0) = false := decide_eq_false (by omega)
  have e2 : decide (76 ≤ 12 + 8 * b + c) = false := decide_eq_false (by omega)
  have e3 : ¬ 12 + 8 * b + c < 0 := by omega
  have e4 : ¬ 76 ≤ 12 + 8 * b + c := by omega
  go_enter Try.func6, Try.ntmps6
  go_wp2_with fail
  refine (HV.out _).mono ?_
  rintro e w1 ⟨rfl, hb⟩
  go_wp2_with fail
  refine (HI.out _).mono ?_
  rintro e w2 ⟨rfl, rfl⟩
  go_wp2_with fail
  refine (HJ.out _).mono ?_
  rintro e w3 ⟨rfl, rfl⟩
  go_upto_region 7 with fail
  simp only [List.append_eq, List.cons_append, List.nil_append]
  go_wp2
  go_ret
  exact ⟨rfl, hb⟩

set_option maxHeartbeats 4000000 in
theorem neC2 (b c : Int) (j f g : Int) (w : World) (h1 : 0 ≤ b) (h2 : b < 8) (h3 : 0 ≤ c) (h4 : c < 8) (hij : (12 + 8 * b + c == j) = false) (q : ((b : Int) == f) = false) (HI : Hid (∀ w, Calls Try.prog 18 #[.int .i64 (12 + 8 * b + c)] w fun e w' => e = .returned (.tuple #[.int .i64 (2), .int .i64 (b), .int .i64 (c)]) ∧ w = w')) (HJ : Hid (∀ w, Calls Try.prog 18 #[.int .i64 (j)] w fun e w' => e = .returned (.tuple #[.int .i64 (2), .int .i64 (f), .int .i64 (g)]) ∧ w = w')) :
    Calls Try.prog 6 #[.int .i64 (12 + 8 * b + c), .int .i64 (j)] w fun e w' => e = .returned (.bool true) ∧ Below w.heap.size w w' := by
  have HV := Lib.hid lives_any
  have e1 : decide (12 + 8 * b + c < 0) = false := decide_eq_false (by omega)
  have e2 : decide (76 ≤ 12 + 8 * b + c) = false := decide_eq_false (by omega)
  have e3 : ¬ 12 + 8 * b + c < 0 := by omega
  have e4 : ¬ 76 ≤ 12 + 8 * b + c := by omega
  go_enter Try.func6, Try.ntmps6
  go_wp2_with fail
  refine (HV.out _).mono ?_
  rintro e w1 ⟨rfl, hb⟩
  go_wp2_with fail
  refine (HI.out _).mono ?_
  rintro e w2 ⟨rfl, rfl⟩
  go_wp2_with fail
  refine (HJ.out _).mono ?_
  rintro e w3 ⟨rfl, rfl⟩
  go_upto_region 7 with fail
  simp only [List.append_eq, List.cons_append, List.nil_append]
  go_wp2
  go_ret
  exact ⟨rfl, hb⟩

set_option maxHeartbeats 4000000 in
theorem neC3 (b c : Int) (j g : Int) (w : World) (h1 : 0 ≤ b) (h2 : b < 8) (h3 : 0 ≤ c) (h4 : c < 8) (hij : (12 + 8 * b + c == j) = false) (q : ((c : Int) == g) = false) (HI : Hid (∀ w, Calls Try.prog 18 #[.int .i64 (12 + 8 * b + c)] w fun e w' => e = .returned (.tuple #[.int .i64 (2), .int .i64 (b), .int .i64 (c)]) ∧ w = w')) (HJ : Hid (∀ w, Calls Try.prog 18 #[.int .i64 (j)] w fun e w' => e = .returned (.tuple #[.int .i64 (2), .int .i64 (b), .int .i64 (g)]) ∧ w = w')) :
    Calls Try.prog 6 #[.int .i64 (12 + 8 * b + c), .int .i64 (j)] w fun e w' => e = .returned (.bool true) ∧ Below w.heap.size w w' := by
  have HV := Lib.hid lives_any
  have e1 : decide (12 + 8 * b + c < 0) = false := decide_eq_false (by omega)
  have e2 : decide (76 ≤ 12 + 8 * b + c) = false := decide_eq_false (by omega)
  have e3 : ¬ 12 + 8 * b + c < 0 := by omega
  have e4 : ¬ 76 ≤ 12 + 8 * b + c := by omega
  go_enter Try.func6, Try.ntmps6
  go_wp2_with fail
  refine (HV.out _).mono ?_
  rintro e w1 ⟨rfl, hb⟩
  go_wp2_with fail
  refine (HI.out _).mono ?_
  rintro e w2 ⟨rfl, rfl⟩
  go_wp2_with fail
  refine (HJ.out _).mono ?_
  rintro e w3 ⟨rfl, rfl⟩
  go_upto_region 7 with fail
  simp only [List.append_eq, List.cons_append, List.nil_append]
  go_wp2
  go_ret
  exact ⟨rfl, hb⟩

set_option maxHeartbeats 4000000 in
theorem out (i j : Int) (w : World) (ho : i < 0 ∨ 76 ≤ i) (d f g : Int) (HI : Hid (∀ w, Calls Try.prog 18 #[.int .i64 i] w fun e w' => e = .returned (.tuple #[.int .i64 (-1), .int .i64 0, .int .i64 0]) ∧ w = w')) (HJ : Hid (∀ w, Calls Try.prog 18 #[.int .i64 j] w fun e w' => e = .returned (.tuple #[.int .i64 d, .int .i64 f, .int .i64 g]) ∧ w = w')) :
    Calls Try.prog 6 #[.int .i64 i, .int .i64 j] w fun e w' => e = .returned (.bool true) ∧ Below w.heap.size w w' := by
  have HV := Lib.hid lives_any
  rcases ho with ho | ho
  · go_enter Try.func6, Try.ntmps6
    go_wp2_with fail
    refine (HV.out _).mono ?_
    rintro e w1 ⟨rfl, hb⟩
    go_wp2_with fail
    refine (HI.out _).mono ?_
    rintro e w2 ⟨rfl, rfl⟩
    go_wp2_with fail
    refine (HJ.out _).mono ?_
    rintro e w3 ⟨rfl, rfl⟩
    go_wp2
    go_ret
    exact ⟨rfl, hb⟩
  · have ho2 : decide (i < 0) = false := decide_eq_false (by omega)
    have ho3 : decide (76 ≤ i) = true := decide_eq_true ho
    go_enter Try.func6, Try.ntmps6
    go_wp2_with fail
    refine (HV.out _).mono ?_
    rintro e w1 ⟨rfl, hb⟩
    go_wp2_with fail
    refine (HI.out _).mono ?_
    rintro e w2 ⟨rfl, rfl⟩
    go_wp2_with fail
    refine (HJ.out _).mono ?_
    rintro e w3 ⟨rfl, rfl⟩
    go_wp2
    go_ret
    exact ⟨rfl, hb⟩

theorem walk (i j : Int) (w : World) (hi : -9223372036854775808 ≤ i ∧ i ≤ 9223372036854775807) (hj : -9223372036854775808 ≤ j ∧ j ≤ 9223372036854775807) :
    Calls Try.prog 6 #[.int .i64 i, .int .i64 j] w fun e w' => e = .returned (.bool true) ∧ Below w.heap.size w w' := by
  have HI := Lib.hid (fun w => place_any i w hi)
  have HJ := Lib.hid (fun w => place_any j w hj)
  by_cases ho : i < 0 ∨ 76 ≤ i
  · rw [place_out i ho] at HI
    exact out i j w ho _ _ _ HI HJ
  · have hinj := place_inj i j ho
    rcases place_in i ho with ⟨h1, h2, e2⟩ | ⟨b, h1, h2, rfl, e2⟩ | ⟨b, c, h1, h2, h3, h4, rfl, e2⟩
    · rw [e2] at HI hinj
      by_cases e : i = j
      · subst e
        rw [e2] at HJ
        exact sameA i w h1 h2 HI HJ
      · have hij : (i == j) = false := beq_false_of_ne e
        generalize placeK j = pj at *
        obtain ⟨d, f, g⟩ := pj
        by_cases q1 : (0 : Int) = d
        · subst q1
          by_cases q2 : (i : Int) = f
          · subst q2
            exact neA3 i j g w h1 h2 hij (beq_false_of_ne (fun h => e (hinj (by rw [h])))) HI HJ
          · exact neA2 i j f g w h1 h2 hij (beq_false_of_ne q2) HI HJ
        · exact neA1 i j d f g w h1 h2 hij (beq_false_of_ne q1) HI HJ
    · rw [e2] at HI hinj
      by_cases e : 4 + b = j
      · subst e
        rw [e2] at HJ
        exact sameB b w h1 h2 HI HJ
      · have hij : (4 + b == j) = false := beq_false_of_ne e
        generalize placeK j = pj at *
        obtain ⟨d, f, g⟩ := pj
        by_cases q1 : (1 : Int) = d
        · subst q1
          by_cases q2 : (b : Int) = f
          · subst q2
            exact neB3 b j g w h1 h2 hij (beq_false_of_ne (fun h => e (hinj (by rw [h])))) HI HJ
          · exact neB2 b j f g w h1 h2 hij (beq_false_of_ne q2) HI HJ
        · exact neB1 b j d f g w h1 h2 hij (beq_false_of_ne q1) HI HJ
    · rw [e2] at HI hinj
      by_cases e : 12 + 8 * b + c = j
      · subst e
        rw [e2] at HJ
        exact sameC b c w h1 h2 h3 h4 HI HJ
      · have hij : (12 + 8 * b + c == j) = false := beq_false_of_ne e
        generalize placeK j = pj at *
        obtain ⟨d, f, g⟩ := pj
        by_cases q1 : (2 : Int) = d
        · subst q1
          by_cases q2 : (b : Int) = f
          · subst q2
            exact neC3 b c j g w h1 h2 h3 h4 hij (beq_false_of_ne (fun h => e (hinj (by rw [h])))) HI HJ
          · exact neC2 b c j f g w h1 h2 h3 h4 hij (beq_false_of_ne q2) HI HJ
        · exact neC1 b c j d f g w h1 h2 h3 h4 hij (beq_false_of_ne q1) HI HJ

set_option maxRecDepth 100000 in
theorem lifted (os : Os) (started : os.Started) (H : Type) (enc : TypeId × Value → H) :
    ReturnsInHanded {} Try.checked os 6 .any (Rows.ladderPlaceSpec.pre6 enc Try.prog Try.f6 Rows.ladderPlaceRow.domain false) (Rows.ladderPlaceSpec.post enc Try.prog Try.f6 false true false false) := by
  refine returnsInHanded_of_change_sized (C := Try.checked) own started (by kernel_rfl) Try.func6
    (ChangeSpec.witness6 (enc := enc) (C := Try.checked) false ⟨#[], #[.int .i64 0, .int .i64 0], []⟩ 8 (by kernel_rfl) (by kernel_rfl) (by kernel_rfl) (by kernel_rfl)) ?_
  intro W base args ds gs before hval0 hW hcnd hsz0 _
  have hval : ∀ (j : Nat) t v, Try.f6.params[j]? = some t → args[j]? = some v → Value.okWide Try.prog W .any base t v := hval0
  have hW' := hW
  obtain ⟨p, q, hA0, hV, rfl, hfz, hnd⟩ := hW
  have hA : DataW.TrodAll enc Try.prog W 0 (fun _ => true) true Try.f6.params.toList args.toList ds p := hA0
  rw [Try.params6] at hA hval
  obtain ⟨v0, vs0, d0, ds0, p0, q0, hargs, rfl, rfl, h0, r0⟩ := trodAll_cons hA
  obtain ⟨v1, vs1, d1, ds1, p1, q1, rfl, rfl, rfl, h1, r1⟩ := trodAll_cons r0
  obtain ⟨rfl, rfl, rfl⟩ := trodAll_nil r1
  obtain rfl : args = #[v0, v1] := by cases args; simp_all
  obtain ⟨rfl, rfl⟩ := trodVars_none hV
  obtain ⟨n0, rfl, rfl, rfl, wn0⟩ := open_int Try.underlying3 (hval 0 3 v0 rfl rfl) h0
  obtain ⟨n1, rfl, rfl, rfl, wn1⟩ := open_int Try.underlying3 (hval 1 3 v1 rfl rfl) h1
  clear hA0 hval0
  refine (walk n0 n1 W (i64_of_wf wn0) (i64_of_wf wn1)).mono fun e W' ⟨he, bel⟩ => ?_
  subst he
  exact ⟨_, rfl, _, _, _, [], _, [], hW', trodAll_mk1 (shut_bool Try.underlying4 _), (trodAll_cons_mk (shut_int Try.underlying3 wn0) (trodAll_cons_mk (shut_int Try.underlying3 wn1) trodAll_mk0)), rfl, bel.frame _, fun h => by cases h⟩

theorem over : Rows.ladderPlaceRow.holds Try.pinned (OpenSpec.ofChange Rows.ladderPlaceSpec) :=
  OpenClaim.holds_of_wide 6 Try.f6 rfl rfl rfl rfl rfl rfl rfl ⟨rfl, rfl, rfl, rfl, rfl⟩ rfl rfl rfl rfl rfl (by kernel_rfl) Try.func6 (by kernel_rfl)
    (of_decide_eq_true (by kernel_rfl)) (by unfold Func.isWrapper; first | (rw [if_pos (by decide +kernel)]; kernel_rfl) | (rw [if_neg (by decide +kernel)]; exact ⟨rfl, rfl⟩))
    (fun os started H enc _ => lifted os started H enc)

end Go.Proofs.Ytiknbbkblldjiaa.ladderPlace
namespace Go.Proofs.Ytiknbbkblldjiaa
theorem ladderPlace_proved : Rows.LadderPlaceSaid := ladderPlace.over
#print axioms ladderPlace_proved
end Go.Proofs.Ytiknbbkblldjiaa
