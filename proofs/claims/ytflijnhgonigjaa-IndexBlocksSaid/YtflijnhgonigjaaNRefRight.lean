/-
  WALKS: the reference's Right. Conditions: strings of at most 9223372036854775807 bytes.
-/
import Derived.Test.YtflijnhgonigjaaNRight
namespace Go.Proofs.Ytflijnhgonigjaa
open Go.RowKit

theorem right_eq {s : ByteArray} (h : ∀ (i : Nat) (hi : i < s.size), okC (s[i]'hi) = true) : rightB s = (decide ((1 : Int) ≤ (s.size : Int)) && decide ((s.size : Int) ≤ 11) && !(s.toList == [46]) && !(s.toList == [46, 46])) := by
  have a : s.data.toList.all okC = true := by
    rw [List.all_eq_true]
    intro c hc
    obtain ⟨i, hi, rfl⟩ := List.getElem_of_mem hc
    have hi' : i < s.size := by simpa using hi
    exact h i hi'
  have e1 : decide ((1 : Int) ≤ (s.size : Int)) = decide (1 ≤ s.size) := by rw [decide_eq_decide]; omega
  have e2 : decide ((s.size : Int) ≤ 11) = decide (s.size ≤ 11) := by rw [decide_eq_decide]; omega
  rw [rightB_eq, a, e1, e2, Bool.true_and]

set_option maxRecDepth 100000 in
set_option maxHeartbeats 1000000 in
theorem rright_any (s : ByteArray) (w : World) (hs : s.size ≤ 9223372036854775807) : Calls Try.prog 29 #[.string s] w fun e w' => e = .returned (.bool (rightB s)) ∧ w' = w := by
  have HO : Hid (∀ (i : Nat) (hi : i < s.size), okC (s[i]'hi) = false → rightB s = false) := fun i hi h => right_odd hi h
  have HA : Hid ((∀ (i : Nat) (hi : i < s.size), okC (s[i]'hi) = true) → rightB s = _) := fun h => right_eq h
  go_enter Try.func29, Try.ntmps29
  go_wp2
  go_loopw [3] (fun i wr => ∃ k : Nat, i = .int .i64 (k : Int) ∧ k ≤ s.size ∧ wr = w ∧ Hid (∀ (i : Nat) (hi : i < s.size), i < k → okC (s[i]'hi) = true)) (fun i _ => s.size - (intOf i).toNat)
  case atStart => exact ⟨0, rfl, Nat.zero_le _, rfl, fun i hi h => absurd h (Nat.not_lt_zero _)⟩
  case round =>
    obtain ⟨k, rfl, hk, rfl, hok⟩ := hrel
    by_cases hp : k < s.size
    · have hp' : (k : Int) < (s.size : Int) := by omega
      cases hc : okC (s[k]'hp) with
      | true =>
        have HC := Lib.hid hc
        clear hc
        go_wp2_with fail
        refine (sign_any _ _).mono ?_
        rintro e w' ⟨rfl, rfl⟩
        rw [show okN (((s[k]'hp).toNat : Nat) : Int) = true from HC.out]
        go_wp2
        go_roundw
        case rel => exact ⟨k + 1, by go_num, hp, by first | rfl | trivial, fun i hi h => by
          rcases Nat.lt_or_ge i k with h' | h'
          · exact hok.out i hi h'
          · obtain rfl : i = k := by omega
            exact HC.out⟩
        case measure => simp [intOf]; omega
      | false =>
        have HF := Lib.hid (HO.out k hp hc)
        have HC := Lib.hid hc
        clear hc
        go_wp2_with fail
        refine (sign_any _ _).mono ?_
        rintro e w' ⟨rfl, rfl⟩
        rw [show okN (((s[k]'hp).toNat : Nat) : Int) = false from HC.out]
        go_wp2
        go_ret
        exact ⟨ret_bool HF.out.symm, rfl⟩
    · have hp' : ¬ (k : Int) < (s.size : Int) := by omega
      have HF := Lib.hid (HA.out fun i hi => hok.out i hi (by omega))
      go_wp2
      all_goals
        go_ret
        refine ⟨ret_bool (Eq.trans ?_ HF.out.symm), rfl⟩
        clear HA HO HF hok
        simp_all
      all_goals first | done | (intros; omega) | trace_state
end Go.Proofs.Ytflijnhgonigjaa
