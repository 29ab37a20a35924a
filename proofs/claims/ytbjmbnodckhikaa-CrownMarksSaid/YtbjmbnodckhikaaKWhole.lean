/-
  WALK: the reference Whole. Condition: a string of at most 9223372036854775807 bytes.
-/
import Derived.Test.YtbjmbnodckhikaaPad
namespace Go.Proofs.Ytbjmbnodckhikaa
open Go.RowKit

/-- a block: the first 128 bytes, and bytes 0 behind them. -/
def wholeS (s : ByteArray) : ByteArray := padS (s.extract 0 (min s.size 128)) 128

set_option maxHeartbeats 1000000 in
theorem whole_any (s : ByteArray) (w : World) (hs : s.size ≤ 9223372036854775807) :
    Calls Try.prog 27 #[.string s] w fun e w' => e = .returned (.string (wholeS s)) ∧ Below w.heap.size w w' := by
  obtain ⟨m, hm⟩ : ∃ m : Nat, m = min s.size 128 := ⟨_, rfl⟩
  have hsz : (s.extract 0 m).size = m := by rw [ByteArray.size_extract]; omega
  have HW : Hid (wholeS s = s.extract 0 m ++ (⟨(List.replicate (128 - m) (0 : UInt8)).toArray⟩ : ByteArray)) := by
    show _ = _
    unfold wholeS
    rw [← hm, ← pad_add, hsz]
  have HR : Hid ((⟨(List.replicate (128 - m) (0 : UInt8)).toArray⟩ : ByteArray).size ≤ 1000) := by
    show (List.replicate (128 - m) (0 : UInt8)).toArray.size ≤ 1000
    simp; omega
  have hm1 : m ≤ 128 := by omega
  have hm2 : m ≤ s.size := by omega
  have hmt : (min (s.size : Int) 128).toNat = m := by omega
  have hmm : (128 - ((min m s.size : Nat) : Int)) = ((128 - m : Nat) : Int) := by omega
  have HM := Lib.hid hmt
  have HMM := Lib.hid hmm
  have HS2 := Lib.hid hsz
  clear hm hmt hmm hsz
  go_enter Try.func27, Try.ntmps27
  go_wp2_with fail
  simp only [HM.out, HMM.out]
  refine (zeros_any (128 - m) w (by omega)).mono ?_
  rintro e w1 ⟨rfl, hb1⟩
  generalize (⟨(List.replicate (128 - m) (0 : UInt8)).toArray⟩ : ByteArray) = Z at *
  have hZ := HR.out
  have hS2 : (s.extract 0 m).size ≤ 128 := by rw [HS2.out]; omega
  generalize s.extract 0 m = S at *
  go_wp2
  go_ret
  exact ⟨by rw [HW.out]; rfl, hb1⟩
end Go.Proofs.Ytbjmbnodckhikaa
