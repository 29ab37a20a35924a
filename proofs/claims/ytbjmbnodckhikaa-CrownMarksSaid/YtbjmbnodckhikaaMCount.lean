/-
  WALKS: Count, Run, First, Longest, and the statements' own early. Conditions: strings of at most 1000000000000000 bytes, integers of an int64.
-/
import Derived.Test.YtbjmbnodckhikaaMIs
namespace Go.Proofs.Ytbjmbnodckhikaa
open Go.RowKit

theorem is_nat (b : Bool) (m : ByteArray) (k : Nat) (w : World) (hm : m.size ≤ 1000000000000000) (hk : (k : Int) ≤ 9223372036854775807) (h : bitN m k = b) :
    Calls Try.prog 21 #[.string m, .int .i64 (k : Int)] w fun e w' => e = .returned (.bool b) ∧ Drew w w' := by
  rw [← h, ← isB_nat]; exact is_any m k w hm ⟨by omega, hk⟩

set_option maxHeartbeats 1000000 in
theorem count_any (m : ByteArray) (n : Int) (w : World) (hm : m.size ≤ 1000000000000000) (hn : -9223372036854775808 ≤ n ∧ n ≤ 9223372036854775807) :
    Calls Try.prog 22 #[.string m, .int .i64 n] w fun e w' => e = .returned (.int .i64 (cntR m n)) ∧ Drew w w' := by
  have HR : Hid (cntR m n = (cnt m (min n 100000).toNat : Nat)) := by show _ = _; rfl
  go_enter Try.func22, Try.ntmps22
  go_wp2
  all_goals
    go_loopw [5, 6, 9] (fun t _ i wr => ∃ k : Nat, (k : Int) ≤ max (min n 100000) 0 ∧ i = .int .i64 (k : Int) ∧ t = .int .i64 ((cnt m k : Nat) : Int) ∧ Drew w wr) (fun _ _ i _ => 100000 - (intOf i).toNat)
    case atStart => exact ⟨0, by omega, rfl, rfl, Drew.refl _⟩
    case round =>
      obtain ⟨k, hk, rfl, rfl, hd⟩ := hrel
      have hc := cnt_le m k
      by_cases hlt : (k : Int) < min n 100000
      · have h1 : (k : Int) < n := by omega
        have h2 : (k : Int) < 100000 := by omega
        cases hb : bitN m k with
        | false =>
          have HS : Hid (cnt m (k + 1) = cnt m k) := by show _ = _; simp [cnt, hb]
          have HB := Lib.hid hb
          clear hb
          generalize cnt m k = c at *
          go_wp2_with fail
          refine (is_nat false m k wr hm (by omega) HB.out).mono ?_
          rintro e w' ⟨rfl, hd'⟩
          go_wp2
          go_roundw
          case rel => exact ⟨k + 1, by omega, by go_num, by rw [HS.out], hd.trans hd'⟩
          case measure => simp [intOf]; omega
        | true =>
          have HS : Hid (cnt m (k + 1) = cnt m k + 1) := by show _ = _; simp [cnt, hb]
          have HB := Lib.hid hb
          clear hb
          generalize cnt m k = c at *
          go_wp2_with fail
          refine (is_nat true m k wr hm (by omega) HB.out).mono ?_
          rintro e w' ⟨rfl, hd'⟩
          go_wp2
          go_roundw
          case rel => exact ⟨k + 1, by omega, by go_num, by rw [HS.out]; go_num, hd.trans hd'⟩
          case measure => simp [intOf]; omega
      · first | (have hge : ¬ (k : Int) < 100000 := by omega) | (have hge : ¬ (k : Int) < n := by omega)
        have hke : (min n 100000).toNat = k := by omega
        have HE : Hid (cntR m n = (cnt m k : Nat)) := by show _ = _; rw [HR.out, hke]
        clear hke
        go_wp2
        go_ret
        exact ⟨ret_int HE.out.symm, hd⟩

end Go.Proofs.Ytbjmbnodckhikaa
