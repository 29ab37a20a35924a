/-
  WALKS: inNames and Right, the reference's sign and Right. Conditions: strings of at most 9223372036854775807 bytes.
-/
import Derived.Test.YtflijnhgonigjaaNPlain
import Derived.Test.YtflijnhgonigjaaPad
import Derived.WalkKit
import Derived.WalkSpells
import Derived.WalkLawsBesides
import Derived.Lib.Hide
import Derived.Lib.Walk
import Derived.Laws.RangeAny
namespace Go.Proofs.Ytflijnhgonigjaa
open Go.RowKit


set_option maxRecDepth 100000 in
set_option maxHeartbeats 1000000 in
theorem inNames_any (r : Int) (w : World) : Calls Try.prog 64 #[.int .i32 r] w fun e w' => e = .returned (.bool (okN r)) ∧ w' = w := by
  go_enter Try.func64, Try.ntmps64
  go_wp2
  all_goals
    go_ret
    refine ⟨ret_bool ?_, rfl⟩
    unfold okN
    simp_all
  all_goals first | omega | (rw [Bool.eq_iff_iff]; simp only [Bool.or_eq_true, Bool.and_eq_true, decide_eq_true_eq, beq_iff_eq]; omega)

set_option maxRecDepth 100000 in
set_option maxHeartbeats 1000000 in
theorem sign_any (c : Int) (w : World) : Calls Try.prog 59 #[.int .u8 c] w fun e w' => e = .returned (.bool (okN c)) ∧ w' = w := by
  go_enter Try.func59, Try.ntmps59
  go_wp2
  all_goals
    go_ret
    refine ⟨ret_bool ?_, rfl⟩
    unfold okN
    simp_all
  all_goals first | omega | (rw [Bool.eq_iff_iff]; simp only [Bool.or_eq_true, Bool.and_eq_true, decide_eq_true_eq, beq_iff_eq]; omega)

theorem rightB_eq (s : ByteArray) : rightB s = (s.data.toList.all okC && decide (1 ≤ s.size) && decide (s.size ≤ 11) && !(s.toList == [46]) && !(s.toList == [46, 46])) := by
  rw [ByteArray.toList_eq]; rfl
theorem right_empty {s : ByteArray} (h : s.toList = []) : rightB s = false := by
  rw [ByteArray.toList_eq] at h
  have : s.size = 0 := by rw [Lib.size_eq, h]; rfl
  rw [rightB_eq]; simp [this]
theorem right_long {s : ByteArray} (h : 11 < s.size) : rightB s = false := by
  rw [rightB_eq]; have : ¬ s.size ≤ 11 := by omega
  simp [this]
theorem right_dot {s : ByteArray} (h : s.toList = [46]) : rightB s = false := by rw [rightB_eq]; simp [h]
theorem right_dots {s : ByteArray} (h : s.toList = [46, 46]) : rightB s = false := by rw [rightB_eq]; simp [h]
theorem right_odd {s : ByteArray} {i : Nat} (hi : i < s.size) (h : okC (s[i]'hi) = false) : rightB s = false := by
  have : s.data.toList.all okC = false := by
    rw [List.all_eq_false]
    exact ⟨s[i]'hi, by simp [ByteArray.getElem_eq_getElem_data], by simp [h]⟩
  rw [rightB_eq]; simp [this]
theorem right_all {s : ByteArray} (h0 : ¬ s.toList = []) (h1 : s.size ≤ 11) (h2 : ¬ s.toList = [46]) (h3 : ¬ s.toList = [46, 46]) (h : ∀ (i : Nat) (hi : i < s.size), okC (s[i]'hi) = true) : rightB s = true := by
  have a : s.data.toList.all okC = true := by
    rw [List.all_eq_true]
    intro c hc
    obtain ⟨i, hi, rfl⟩ := List.getElem_of_mem hc
    have hi' : i < s.size := by simpa using hi
    exact h i hi'
  have b : 1 ≤ s.size := by
    rcases Nat.eq_zero_or_pos s.size with e | e
    · exact absurd (by rw [ByteArray.toList_eq]; exact List.eq_nil_of_length_eq_zero (by rw [← Lib.size_eq]; exact e)) h0
    · exact e
  rw [rightB_eq]; simp [a, b, h1, h2, h3]

set_option maxRecDepth 100000 in
set_option maxHeartbeats 1000000 in
theorem right_any (s : ByteArray) (w : World) : Calls Try.prog 33 #[.string s] w fun e w' => e = .returned (.bool (rightB s)) ∧ Below w.heap.size w w' := by
  by_cases h0 : s.toList = []
  · have HR := Lib.hid (right_empty h0)
    go_enter Try.func33, Try.ntmps33
    go_wp2
    go_ret
    exact ⟨ret_bool HR.out.symm, Below.refl _ _⟩
  by_cases h1 : 11 < s.size
  · have HR := Lib.hid (right_long h1)
    go_enter Try.func33, Try.ntmps33
    go_wp2
    go_ret
    exact ⟨ret_bool HR.out.symm, Below.refl _ _⟩
  by_cases h2 : s.toList = [46]
  · have HR := Lib.hid (right_dot h2)
    go_enter Try.func33, Try.ntmps33
    go_wp2
    go_ret
    exact ⟨ret_bool HR.out.symm, Below.refl _ _⟩
  by_cases h3 : s.toList = [46, 46]
  · have HR := Lib.hid (right_dots h3)
    go_enter Try.func33, Try.ntmps33
    go_wp2
    go_ret
    exact ⟨ret_bool HR.out.symm, Below.refl _ _⟩
  have HA : Hid ((∀ (i : Nat) (hi : i < s.size), okC (s[i]'hi) = true) → rightB s = true) := fun h => right_all h0 (by omega) h2 h3 h
  have h1' : ¬ (11 : Int) < (s.size : Int) := by omega
  have b0 : s.toList.isEmpty = false := by cases e : s.toList with | nil => exact absurd e h0 | cons _ _ => rfl
  have b2 : (s.toList == [46]) = false := by simpa using h2
  have b3 : (s.toList == [46, 46]) = false := by simpa using h3
  clear h0 h2 h3
  have HO : Hid (∀ (i : Nat) (hi : i < s.size), okC (s[i]'hi) = false → rightB s = false) := fun i hi h => right_odd hi h
  go_enter Try.func33, Try.ntmps33
  go_wp2
  go_loopw [4] (fun _ wr => ∃ pos : Nat, wr = w.iter s pos ∧ pos ≤ s.size ∧ Hid (∀ (i : Nat) (hi : i < s.size), i < pos → okC (s[i]'hi) = true)) (fun _ wr => s.size - wr.iterPos w.heap.size)
  case atStart => exact ⟨0, rfl, Nat.zero_le _, fun i hi h => absurd h (Nat.not_lt_zero _)⟩
  case round =>
    obtain ⟨pos, rfl, hpos, hok⟩ := hrel
    by_cases hp : pos < s.size
    · cases hc : okC (s[pos]'hp) with
      | true =>
        have ha : (s[pos]'hp).toNat < 128 := by have := okN_lt hc; omega
        have hnx : ∀ ty, (Instr.next (.pointer (some ⟨w.heap.size, 0, none⟩)) true ty).run Try.prog (w.iter s pos) = _ := fun ty => run_next_ascii w s pos ty hp ha
        have HC := Lib.hid hc
        clear hc
        go_wp2_with fail
        refine (inNames_any _ _).mono ?_
        rintro e w' ⟨rfl, rfl⟩
        rw [show okN (((s[pos]'hp).toNat : Nat) : Int) = true from HC.out]
        go_wp2
        go_roundw
        case rel => exact ⟨pos + 1, rfl, hp, fun i hi h => by
          rcases Nat.lt_or_ge i pos with h' | h'
          · exact hok.out i hi h'
          · obtain rfl : i = pos := by omega
            exact HC.out⟩
        case measure => simp; omega
      | false =>
        have hz : okN ((Utf8.decode s pos).1 : Int) = false := by
          by_cases ha : (s[pos]'hp).toNat < 128
          · rw [decode_ascii s pos hp ha]; exact hc
          · have := (decode_high s pos hp (by omega)).1
            cases hk : okN ((Utf8.decode s pos).1 : Int) with
            | false => rfl
            | true => have := okN_lt hk; omega
        have HF := Lib.hid (HO.out pos hp hc)
        have HZ := Lib.hid hz
        clear hc hz
        have hnx : ∀ ty, (Instr.next (.pointer (some ⟨w.heap.size, 0, none⟩)) true ty).run Try.prog (w.iter s pos) = _ := fun ty => run_next_any w s pos ty hp
        go_wp2_with fail
        refine (inNames_any _ _).mono ?_
        rintro e w' ⟨rfl, rfl⟩
        rw [HZ.out]
        go_wp2
        go_ret
        exact ⟨ret_bool HF.out.symm, (Below.refl _ _).alloc (Nat.le_refl _) _⟩
    · have hnx : ∀ ty, (Instr.next (.pointer (some ⟨w.heap.size, 0, none⟩)) true ty).run Try.prog (w.iter s pos) = _ := fun ty => run_next_end w s pos ty hp
      have HF := Lib.hid (HA.out fun i hi => hok.out i hi (by omega))
      go_wp2
      go_ret
      exact ⟨ret_bool HF.out.symm, (Below.refl _ _).alloc (Nat.le_refl _) _⟩
end Go.Proofs.Ytflijnhgonigjaa
