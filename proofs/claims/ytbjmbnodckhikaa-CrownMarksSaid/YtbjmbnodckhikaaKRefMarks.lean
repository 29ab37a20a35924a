/-
  WALK: the reference's Marks returns the marks of a disk without files. Condition: an integer of an int64.
-/
import Derived.Test.YtbjmbnodckhikaaKMarks
namespace Go.Proofs.Ytbjmbnodckhikaa
open Go.RowKit

theorem whole_nil : wholeS ⟨#[]⟩ = padS ⟨#[]⟩ 128 := by
  unfold wholeS
  have e : (⟨#[]⟩ : ByteArray).extract 0 (min (⟨#[]⟩ : ByteArray).size 128) = ⟨#[]⟩ := by
    apply ByteArray.ext
    rw [ByteArray.data_extract]
    simp
  rw [e]

set_option maxRecDepth 100000 in
set_option maxHeartbeats 4000000 in
theorem rmarks_any (n : Int) (w : World) (hn : I64 n) :
    Calls Try.prog 19 #[.int .i64 n] w fun e w' => e = .returned (.string (marksK n)) ∧ Below w.heap.size w w' := by
  have HWH := Lib.hid (fun v => whole_any ⟨#[]⟩ v (Nat.zero_le _))
  have HE : Hid (wholeS ⟨#[]⟩ = mkTo n 0) := by show _ = _; rw [whole_nil]; rfl
  rw [HE.out] at HWH
  have HN := Lib.hid hn
  clear hn HE
  go_enter Try.func19, Try.ntmps19
  go_wp2_with fail
  refine (HWH.out _).mono ?_
  rintro e w0 ⟨rfl, b0⟩
  have HB0 := Lib.hid b0
  clear b0 HWH
  go_wp2
  go_loopw [3, 4] (fun m i wr => ∃ k : Nat, k ≤ 1024 ∧ i = .int .i64 k ∧ m = .string (mkTo n k) ∧ Below w.heap.size w wr) (fun _ i _ => 1024 - (intOf i).toNat)
  case atStart => exact ⟨0, by omega, rfl, rfl, HB0.out⟩
  case round =>
    obtain ⟨k, hk, rfl, rfl, hB⟩ := hrel
    have HB := Lib.hid hB
    have HSZ := Lib.hid (mkTo_size n k)
    clear hB
    by_cases hlt : k < 1024
    · by_cases hc : (k : Int) < 51 ∨ n ≤ k
      · have HS : Hid (mkTo n (k + 1) = setR (mkTo n k) k true) := by show _ = _; rw [setR_nat, mkTo_set (by omega)]
        have HST := Lib.hid (fun v => rset_any (mkTo n k) k true v (by rw [HSZ.out]; omega) (by omega))
        rw [← HS.out] at HST
        generalize mkTo n k = m at *
        by_cases h1 : (k : Int) < 51
        · clear hc
          go_wp2_with fail
          refine (HST.out _).mono ?_
          rintro e w2 ⟨rfl, b2⟩
          have HB2 := Lib.hid (HB.out.trans (b2.mono HB.out.size))
          clear b2
          go_wp2
          go_roundw
          case rel => exact ⟨k + 1, by omega, by go_num, rfl, HB2.out⟩
          case measure => simp [intOf]; omega
        · have h2 : n ≤ k := by omega
          clear hc
          go_wp2_with fail
          refine (HST.out _).mono ?_
          rintro e w2 ⟨rfl, b2⟩
          have HB2 := Lib.hid (HB.out.trans (b2.mono HB.out.size))
          clear b2
          go_wp2
          go_roundw
          case rel => exact ⟨k + 1, by omega, by go_num, rfl, HB2.out⟩
          case measure => simp [intOf]; omega
      · have HS := Lib.hid (mkTo_not (n := n) (k := k) (by omega))
        have h1 : ¬ (k : Int) < 51 := by omega
        have h2 : ¬ n ≤ k := by omega
        rw [← HS.out]
        clear hc
        go_wp2
        go_roundw
        case rel => exact ⟨k + 1, by omega, by go_num, rfl, HB.out⟩
        case measure => simp [intOf]; omega
    · have hke : k = 1024 := by omega
      subst hke
      have HM : Hid (marksK n = mkTo n 1024) := by show _ = _; rfl
      rw [← HM.out]
      go_wp2
      go_ret
      exact ⟨rfl, HB.out⟩
end Go.Proofs.Ytbjmbnodckhikaa
