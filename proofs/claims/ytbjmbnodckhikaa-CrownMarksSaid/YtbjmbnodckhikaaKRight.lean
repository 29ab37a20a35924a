/-
  WALKS: within, isNode, Right and the reference's Right tell whether a crown is valid. Conditions: integers of an int64.
-/
import Derived.Test.YtbjmbnodckhikaaPlainB
import Derived.Test.YtbjmbnodckhikaaSize
namespace Go.Proofs.Ytbjmbnodckhikaa
open Go.RowKit

/-- An integer of an int64. -/
def I64 (n : Int) : Prop := -9223372036854775808 ≤ n ∧ n ≤ 9223372036854775807
/-- A crown's value, and the cells of its box. -/
def crv (f b c : Int) : Value := .agg #[.int .i64 f, .int .i64 b, .int .i64 c]
def cells3 (f b c : Int) : Array Value := #[.int .i64 f, .int .i64 b, .int .i64 c]
def inB (n a b : Int) : Bool := decide (a ≤ n) && decide (n ≤ b)
def rightK (f b c : Int) : Bool :=
  inB b 64 400 && (if f = 1 ∨ f = 2 then decide (c = 0) else if f = 3 ∨ f = 4 then inB c 0 32 else false)

theorem inB_t {n a b : Int} (h : inB n a b = true) : a ≤ n ∧ n ≤ b := by simpa [inB] using h
theorem inB_f {n a b : Int} (h : inB n a b = false) : n < a ∨ b < n := by
  simp only [inB, Bool.and_eq_false_iff, decide_eq_false_iff_not] at h
  omega
theorem rightK_b {f b c : Int} (h : inB b 64 400 = false) : rightK f b c = false := by simp [rightK, h]
theorem rightK_12 {f b c : Int} (h : inB b 64 400 = true) (hf : f = 1 ∨ f = 2) : rightK f b c = decide (c = 0) := by simp [rightK, h, hf]
theorem rightK_34 {f b c : Int} (h : inB b 64 400 = true) (hf : f = 3 ∨ f = 4) : rightK f b c = inB c 0 32 := by
  unfold rightK
  rw [h, if_neg (by omega), if_pos hf]; rfl
theorem rightK_no {f b c : Int} (hf : ¬ (f = 1 ∨ f = 2)) (hf' : ¬ (f = 3 ∨ f = 4)) : rightK f b c = false := by
  unfold rightK
  rw [if_neg hf, if_neg hf', Bool.and_false]
theorem rightK_t {f b c : Int} (h : rightK f b c = true) : 64 ≤ b ∧ b ≤ 400 ∧ ((f = 1 ∨ f = 2) ∧ c = 0 ∨ (f = 3 ∨ f = 4) ∧ 0 ≤ c ∧ c ≤ 32) := by
  unfold rightK at h
  rw [Bool.and_eq_true] at h
  have hb := inB_t h.1
  refine ⟨hb.1, hb.2, ?_⟩
  have h2 := h.2
  split at h2
  · rename_i h3; left; exact ⟨h3, by simpa using h2⟩
  · split at h2
    · rename_i h4; right; exact ⟨h4, inB_t h2⟩
    · cases h2

theorem within_is (R : Bool) (n a b : Int) (w : World) (h : inB n a b = R) :
    Calls Try.prog 28 #[.int .i64 n, .int .i64 a, .int .i64 b] w fun e w' => e = .returned (.bool R) ∧ w = w' := by
  cases R with
  | true =>
    have := inB_t h
    go_enter Try.func28, Try.ntmps28
    go_wp2
    go_ret
    exact ⟨ret_bool (by first | (simp; omega) | simp), rfl⟩
  | false =>
    have := inB_f h
    by_cases h1 : a ≤ n
    · go_enter Try.func28, Try.ntmps28
      go_wp2
      go_ret
      exact ⟨ret_bool (by simp; omega), rfl⟩
    · go_enter Try.func28, Try.ntmps28
      go_wp2
      go_ret
      exact ⟨rfl, rfl⟩

theorem isNode_is (R : Bool) (n : Int) (w : World) (h : inB n 0 31 = R) :
    Calls Try.prog 29 #[.int .i64 n] w fun e w' => e = .returned (.bool R) ∧ w = w' := by
  have H := Lib.hid (fun w => within_is R n 0 31 w h)
  clear h
  go_enter Try.func29, Try.ntmps29
  go_wp2_with fail
  refine (H.out _).mono ?_
  rintro e w' ⟨rfl, rfl⟩
  go_wp2
  go_ret
  exact ⟨rfl, rfl⟩

set_option maxHeartbeats 1000000 in
theorem right_any (f b c : Int) (R : Bool) (w : World) (hR : rightK f b c = R) :
    Calls Try.prog 11 #[crv f b c] w fun e w' => e = .returned (.bool R) ∧ w' = w.alloc (.cells (cells3 f b c) 23) := by
  unfold crv cells3
  cases hb : inB b 64 400 with
  | false =>
    have HW := Lib.hid (fun w => within_is _ b 64 400 w hb)
    have HR := Lib.hid (hR.symm.trans (rightK_b hb))
    clear hb hR
    go_enter Try.func11, Try.ntmps11
    go_wp2_with fail
    refine (HW.out _).mono ?_
    rintro e w' ⟨rfl, rfl⟩
    go_wp2
    go_ret
    exact ⟨ret_bool HR.out.symm, rfl⟩
  | true =>
    have HW := Lib.hid (fun w => within_is _ b 64 400 w hb)
    by_cases h12 : f = 1 ∨ f = 2
    · have HR := Lib.hid (hR.symm.trans (rightK_12 hb h12))
      clear hb hR
      rcases h12 with rfl | rfl
      all_goals
        go_enter Try.func11, Try.ntmps11
        go_wp2_with fail
        refine (HW.out _).mono ?_
        rintro e w' ⟨rfl, rfl⟩
        go_wp2
        go_ret
        exact ⟨ret_bool (by rw [HR.out]; rfl), rfl⟩
    · by_cases h34 : f = 3 ∨ f = 4
      · have HR := Lib.hid (hR.symm.trans (rightK_34 hb h34))
        have HC := Lib.hid (fun w => within_is _ c 0 32 w HR.out.symm)
        clear hb hR h12
        rcases h34 with rfl | rfl
        all_goals
          go_enter Try.func11, Try.ntmps11
          go_wp2_with fail
          refine (HW.out _).mono ?_
          rintro e w' ⟨rfl, rfl⟩
          go_wp2_with fail
          refine (HC.out _).mono ?_
          rintro e w' ⟨rfl, rfl⟩
          go_wp2
          go_ret
          exact ⟨rfl, rfl⟩
      · have HR := Lib.hid (hR.symm.trans (rightK_no h12 h34))
        have d1 : (f == 1) = false := by simp; omega
        have d2 : (f == 2) = false := by simp; omega
        have d3 : (f == 3) = false := by simp; omega
        have d4 : (f == 4) = false := by simp; omega
        clear hb hR h12 h34
        go_enter Try.func11, Try.ntmps11
        go_wp2_with fail
        refine (HW.out _).mono ?_
        rintro e w' ⟨rfl, rfl⟩
        go_wp2
        go_ret
        exact ⟨ret_bool HR.out.symm, rfl⟩

set_option maxHeartbeats 1000000 in
theorem rright_any (f b c : Int) (R : Bool) (w : World) (hR : rightK f b c = R) :
    Calls Try.prog 12 #[crv f b c] w fun e w' => e = .returned (.bool R) ∧ w' = w.alloc (.cells (cells3 f b c) 23) := by
  unfold crv cells3
  cases hb : inB b 64 400 with
  | false =>
    have HR := Lib.hid (hR.symm.trans (rightK_b hb))
    have h := inB_f hb
    clear hb hR
    by_cases h1 : b < 64
    · have d1 : decide (b < 64) = true := by simpa using h1
      clear h
      go_enter Try.func12, Try.ntmps12
      go_wp2
      go_ret
      exact ⟨ret_bool HR.out.symm, rfl⟩
    · have d1 : decide (b < 64) = false := by simpa using h1
      have d2 : decide (400 < b) = true := by simp; omega
      clear h
      go_enter Try.func12, Try.ntmps12
      go_wp2
      go_ret
      exact ⟨ret_bool HR.out.symm, rfl⟩
  | true =>
    have h := inB_t hb
    have d1 : decide (b < 64) = false := by simp; omega
    have d2 : decide (400 < b) = false := by simp; omega
    by_cases h12 : f = 1 ∨ f = 2
    · have HR := Lib.hid (hR.symm.trans (rightK_12 hb h12))
      clear hb hR
      rcases h12 with rfl | rfl
      all_goals
        go_enter Try.func12, Try.ntmps12
        go_wp2
        go_ret
        exact ⟨ret_bool (by rw [HR.out]; rfl), rfl⟩
    · by_cases h34 : f = 3 ∨ f = 4
      · have HR := Lib.hid (hR.symm.trans (rightK_34 hb h34))
        clear hb hR h12
        by_cases h0 : 0 ≤ c
        · have HR2 : Hid (R = decide (c ≤ 32)) := by show _ = _; rw [HR.out]; simp [inB, h0]
          rcases h34 with rfl | rfl
          all_goals
            go_enter Try.func12, Try.ntmps12
            go_wp2
            go_ret
            exact ⟨ret_bool (by rw [HR2.out]), rfl⟩
        · have HR2 : Hid (R = false) := by show _ = _; rw [HR.out]; simp [inB, h0]
          rcases h34 with rfl | rfl
          all_goals
            go_enter Try.func12, Try.ntmps12
            go_wp2
            go_ret
            exact ⟨ret_bool (by rw [HR2.out]), rfl⟩
      · have HR := Lib.hid (hR.symm.trans (rightK_no h12 h34))
        have d1 : (f == 1) = false := by simp; omega
        have d2 : (f == 2) = false := by simp; omega
        have d3 : (f == 3) = false := by simp; omega
        have d4 : (f == 4) = false := by simp; omega
        clear hb hR h12 h34
        go_enter Try.func12, Try.ntmps12
        go_wp2
        go_ret
        exact ⟨ret_bool HR.out.symm, rfl⟩
end Go.Proofs.Ytbjmbnodckhikaa
