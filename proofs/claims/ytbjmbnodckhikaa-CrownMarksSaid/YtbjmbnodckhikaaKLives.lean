/-
  WALK: the statements' own lives. No condition.
-/
import Derived.Test.YtbjmbnodckhikaaKPlaces
namespace Go.Proofs.Ytbjmbnodckhikaa
open Go.RowKit

theorem right_64 : rightK 1 64 0 = true := by decide

set_option maxHeartbeats 2000000 in
theorem lives_any (w : World) : Calls Try.prog 8 #[] w fun e w' => e = .returned (.bool true) ∧ Below w.heap.size w w' := by
  have HC := Lib.hid (fun v => card_ok 5 v (by omega))
  have HW := Lib.hid (fun v => write10_any 1 64 0 v)
  rw [writeK_ok right_64] at HW
  have HS := Lib.hid (blockK_size right_64)
  have HRD := Lib.hid (fun v => read10_any (blockK 1 64 0) v (by rw [HS.out]; omega))
  have HK : Hid (fK (blockK 1 64 0) = 1 ∧ bK (blockK 1 64 0) = 64 ∧ cK (blockK 1 64 0) = 0 ∧ eK (blockK 1 64 0) = 0) := by
    show _ ∧ _
    obtain ⟨h1, h2, h3⟩ := back_k right_64
    unfold fK bK cK eK
    rw [ok_block right_64, h1, h2, h3]
    exact ⟨rfl, rfl, rfl, rfl⟩
  unfold RetK at HRD
  rw [HK.out.1, HK.out.2.1, HK.out.2.2.1, HK.out.2.2.2] at HRD
  have HRT := Lib.hid (fun v => right_any 1 64 0 true v right_64)
  have hs := HS.out
  clear HK
  generalize blockK 1 64 0 = bk at *
  unfold crv cells3 at *
  go_enter Try.func8, Try.ntmps8
  go_wp2_with fail
  refine (HC.out _).mono ?_
  rintro e w1 ⟨rfl, rfl⟩
  go_wp2_with fail
  refine (HW.out _).mono ?_
  rintro e w2 ⟨rfl, b2⟩
  have HB2 := Lib.hid b2
  clear b2
  go_wp2_with fail
  refine (HRD.out _).mono ?_
  rintro e w3 ⟨rfl, b3⟩
  have HB3 := Lib.hid (HB2.out.trans (b3.mono HB2.out.size))
  clear b3
  have HB4 : Hid (∀ o o' : Obj, Below w.heap.size w ((w3.alloc o).alloc o')) := fun o o' => (HB3.out.alloc HB3.out.size o).alloc (Nat.le_trans HB3.out.size (al_size _ _)) o'
  go_wp2_with fail
  refine (HRT.out _).mono ?_
  rintro e w4 ⟨rfl, rfl⟩
  go_wp2
  go_ret
  exact ⟨rfl, HB4.out _ _⟩
end Go.Proofs.Ytbjmbnodckhikaa
