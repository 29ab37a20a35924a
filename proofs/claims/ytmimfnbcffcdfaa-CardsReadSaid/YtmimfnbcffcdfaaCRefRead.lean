/-
  WALK: the reference's Read returns the card whose bytes a text is, or that it is none's. Condition: a length that an int64 counts.
-/
import Derived.Test.YtmimfnbcffcdfaaCRefRead1
import Derived.Test.YtmimfnbcffcdfaaCRefRead2
namespace Go.Proofs.Ytmimfnbcffcdfaa
open Go.RowKit

set_option maxHeartbeats 1000000 in
theorem rread9_any (s : ByteArray) (w : World) (_hsz : s.size ≤ 9223372036854775807) : Calls Try.prog 14 #[.string s] w (RetCE w (readC s).1 (readC s).2) := by
  by_cases h32 : s.size = 32
  · by_cases h0 : decF (bytesOf s) 0 1 = 0
    · exact rread0_any s w h32 h0
    · by_cases h1 : decF (bytesOf s) 0 1 = 1
      · exact rread1_any s w h32 h1
      · by_cases h2 : decF (bytesOf s) 0 1 = 2
        · exact rread2_any s w h32 h2
        · exact rreadX_any s w h32 h0 h1 h2
  · have hne : ((s.size : Int) != 32) = true := bne_iff_ne.2 (by omega)
    have HE : Hid (readC s = (zeroC, 15)) := by show _ = _; unfold readC; rw [if_neg (fun h => h32 h.1)]
    have HB : Hid (∀ o : Obj, Below w.heap.size w (w.alloc o)) := fun o => (Below.refl _ _).alloc (Nat.le_refl _) _
    clear h32
    go_enter Try.func14, Try.ntmps14
    go_wp2
    refine bodyPost_ret (v := .tuple #[cdv zeroC none 0 0 none 0 0, .int .i64 15]) (by simp [results, Try.results14, go_sem, zeroC]) rfl ?_
    rw [HE.out]
    exact ⟨_, rfl, cdv_zero _ _, HB.out _⟩
end Go.Proofs.Ytmimfnbcffcdfaa
