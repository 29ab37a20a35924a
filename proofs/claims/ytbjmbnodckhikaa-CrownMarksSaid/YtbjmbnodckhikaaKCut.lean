/-
  WALKS: strings.CutPrefix and what it calls, where the word of a crown is cut. Condition: a string of at most 140737488355328 bytes.
-/
import Derived.Test.YtbjmbnodckhikaaKRefWrite
namespace Go.Proofs.Ytbjmbnodckhikaa
open Go.RowKit

/-- Does s begin with the word? -/
def wdB (s : ByteArray) : Bool := decide (10 ≤ s.size) && decide (s.extract 0 10 = wordB)
theorem wdB_t {s : ByteArray} (h : wdB s = true) : 10 ≤ s.size ∧ s.extract 0 10 = wordB := by simpa [wdB] using h
theorem lists_eq (a b : ByteArray) : (a.toList == b.toList) = decide (a = b) := by
  rw [Bool.eq_iff_iff, ByteArray.toList_eq, ByteArray.toList_eq]
  simp only [beq_iff_eq, decide_eq_true_eq]
  exact ⟨fun h => ByteArray.ext (Array.ext' h), fun h => by rw [h]⟩

theorem hasPrefix_any (s : ByteArray) (R : Bool) (w : World) (_hs : s.size ≤ 140737488355328) (hR : wdB s = R) :
    Calls Try.prog 46 #[.string s, .string wordB] w fun e w' => e = .returned (.bool R) ∧ w = w' := by
  subst hR
  have hw : wordB.size = 10 := rfl
  by_cases h : 10 ≤ s.size
  · have HR : Hid (wdB s = ((s.extract 0 wordB.size).toList == wordB.toList)) := by show _ = _; rw [lists_eq]; simp [wdB, h, hw]
    generalize wdB s = R at *
    go_enter Try.func46, Try.ntmps46
    go_wp2
    go_ret
    exact ⟨ret_bool (by rw [HR.out]; rfl), rfl⟩
  · have HR : Hid (wdB s = false) := by show _ = _; simp [wdB, h]
    have d1 : decide (10 ≤ s.size) = false := by simpa using h
    generalize wdB s = R at *
    go_enter Try.func46, Try.ntmps46
    go_wp2
    go_ret
    exact ⟨ret_bool HR.out.symm, rfl⟩

/-- What CutPrefix leaves. -/
def cutK (s : ByteArray) : ByteArray := if wdB s = true then s.extract 10 s.size else s
theorem scut_any (s : ByteArray) (w : World) (hs : s.size ≤ 140737488355328) :
    Calls Try.prog 42 #[.string s, .string wordB] w fun e w' => e = .returned (.tuple #[.string (cutK s), .bool (wdB s)]) ∧ w = w' := by
  have hw : wordB.size = 10 := rfl
  have HP := Lib.hid (fun w => hasPrefix_any s _ w hs rfl)
  cases h : wdB s with
  | false =>
    have HC : Hid (cutK s = s) := by show _ = _; simp [cutK, h]
    rw [h] at HP
    clear h
    generalize cutK s = ck at *
    go_enter Try.func42, Try.ntmps42
    go_wp2_with fail
    refine (HP.out _).mono ?_
    rintro e w' ⟨rfl, rfl⟩
    go_wp2
    go_ret2
    rw [HC.out]
    exact ⟨rfl, rfl⟩
  | true =>
    have HC : Hid (cutK s = s.extract wordB.size s.size) := by show _ = _; simp [cutK, h, hw]
    have h10 := (wdB_t h).1
    rw [h] at HP
    clear h
    generalize cutK s = ck at *
    go_enter Try.func42, Try.ntmps42
    go_wp2_with fail
    refine (HP.out _).mono ?_
    rintro e w' ⟨rfl, rfl⟩
    go_wp2
    go_ret2
    rw [HC.out]
    exact ⟨rfl, rfl⟩
theorem cut_any (s : ByteArray) (w : World) (hs : s.size ≤ 140737488355328) :
    Calls Try.prog 30 #[.string s, .string wordB] w fun e w' => e = .returned (.tuple #[.string (cutK s), .bool (wdB s)]) ∧ w = w' := by
  have HP := Lib.hid (fun w => scut_any s w hs)
  go_enter Try.func30, Try.ntmps30
  go_wp2_with fail
  refine (HP.out _).mono ?_
  rintro e w' ⟨rfl, rfl⟩
  go_wp2
  go_ret2
  exact ⟨rfl, rfl⟩
end Go.Proofs.Ytbjmbnodckhikaa
