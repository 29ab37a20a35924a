/-
  WALK: the reference's Write returns a crown's block, or that it may not be. Conditions: integers of an int64.
-/
import Derived.Test.YtbjmbnodckhikaaKWrite
namespace Go.Proofs.Ytbjmbnodckhikaa
open Go.RowKit

set_option maxHeartbeats 2000000 in
theorem rwrite10_any (f b c : Int) (w : World) :
    Calls Try.prog 10 #[crv f b c] w fun e w' => e = .returned (.tuple #[.string (writeK f b c).1, .int .i64 (writeK f b c).2]) ∧ Below w.heap.size w w' := by
  have HRT := Lib.hid (fun v => rright_any f b c _ v rfl)
  have HB1 : Hid (Below w.heap.size w (w.alloc (.cells (cells3 f b c) 23))) := (Below.refl _ _).alloc (Nat.le_refl _) _
  have HB2 : Hid (Below w.heap.size w ((w.alloc (.cells (cells3 f b c) 23)).alloc (.cells (cells3 f b c) 23))) := HB1.out.alloc (by simp) _
  have HROW : Hid (KRow ((w.alloc (.cells (cells3 f b c) 23)).alloc (.cells (cells3 f b c) 23)) w.heap.size f b c) := (KRow.new w f b c).below ((Below.refl _ _).alloc (Nat.le_refl _) _) (by simp)
  cases hr : rightK f b c with
  | false =>
    have HW := Lib.hid (writeK_no hr)
    rw [hr] at HRT
    generalize writeK f b c = wc at *
    unfold crv cells3 at *
    clear hr HROW
    go_enter Try.func10, Try.ntmps10
    go_wp2_with fail
    refine (HRT.out _).mono ?_
    rintro e w2 ⟨rfl, rfl⟩
    go_wp2
    go_ret2
    rw [HW.out]
    exact ⟨rfl, HB2.out⟩
  | true =>
    have HW := Lib.hid (writeK_ok hr)
    have HWR : Hid (writeR [1, 2, 1] [f, b, c] = ((writeR [1, 2, 1] [f, b, c]).1, 0)) := by show _ = _; rw [writeR_k hr]
    have HBC : Hid (strOfNums (writeR [1, 2, 1] [f, b, c]).1 = bytesK f b c) := by show _ = _; rfl
    have HWH := Lib.hid (whole_k hr)
    have HHS := Lib.hid (head_size hr)
    have HI : Hid (∀ v : World, IntsAt (v.alloc (.cells #[.int .i64 f, .int .i64 b, .int .i64 c] 3)) (v.heap.size + 1) (some ⟨v.heap.size, 0, none⟩) 3 [f, b, c]) := fun v => ints_new [f, b, c] (right_i64 hr)
    have HI2 : Hid (∀ v : World, IntsAt (v.alloc (.cells #[.int .i64 1, .int .i64 2, .int .i64 1] 3)) (v.heap.size + 1) (some ⟨v.heap.size, 0, none⟩) 3 [1, 2, 1]) := fun v => ints_new [1, 2, 1] (by intro z hz; simp at hz; unfold I64; omega)
    have hbs := bytesK_size hr
    have hws := word_size
    rw [hr] at HRT
    generalize writeK f b c = wc at *
    unfold crv cells3 at *
    clear hr
    go_enter Try.func10, Try.ntmps10
    go_wp2_with fail
    refine (HRT.out _).mono ?_
    rintro e w2 ⟨rfl, h2⟩
    rw [← h2] at HB2 HROW
    have hg2 : w.heap.size < w2.heap.size := by rw [h2]; simp; omega
    clear h2 HB1 HRT
    have hws2 := HB2.out.size
    have i1 : Hid (IntsAt ((w2.alloc (.cells #[.int .i64 1, .int .i64 2, .int .i64 1] 3)).alloc (.cells #[.int .i64 f, .int .i64 b, .int .i64 c] 3)) (w2.heap.size + 2) (some ⟨w2.heap.size, 0, none⟩) 3 [1, 2, 1]) := by
      have h := (HI2.out w2).alloc (Nat.le_of_eq (size_al w2 _).symm) (.cells #[.int .i64 f, .int .i64 b, .int .i64 c] 3)
      exact h.more (by omega)
    have i2 : Hid (IntsAt ((w2.alloc (.cells #[.int .i64 1, .int .i64 2, .int .i64 1] 3)).alloc (.cells #[.int .i64 f, .int .i64 b, .int .i64 c] 3)) (w2.heap.size + 2) (some ⟨w2.heap.size + 1, 0, none⟩) 3 [f, b, c]) := by
      have h := HI.out (w2.alloc (.cells #[.int .i64 1, .int .i64 2, .int .i64 1] 3))
      rw [size_al] at h
      exact h
    have HB3 := Lib.hid ((HB2.out.alloc hws2 (.cells #[.int .i64 1, .int .i64 2, .int .i64 1] 3)).alloc (Nat.le_trans hws2 (al_size _ _)) (.cells #[.int .i64 f, .int .i64 b, .int .i64 c] 3))
    have hsz : w2.heap.size + 2 ≤ ((w2.alloc (.cells #[.int .i64 1, .int .i64 2, .int .i64 1] 3)).alloc (.cells #[.int .i64 f, .int .i64 b, .int .i64 c] 3)).heap.size := by rw [size_al, size_al]; omega
    obtain ⟨c0, c1, c2⟩ := HROW.out
    have HRW := Lib.hid (rwrite_any _ _ 3 3 3 3 _ [1, 2, 1] [f, b, c] _ i1.out i2.out hsz (by omega) (by omega))
    have HP := Lib.hid (fun v => whole_any (wordB ++ bytesK f b c) v (by rw [HHS.out]; omega))
    rw [HWH.out] at HP
    rw [HBC.out, HWR.out] at HRW
    clear HI HI2 hsz
    go_wp2_with fail
    refine HRW.out.mono ?_
    rintro e w5 ⟨rfl, b5⟩
    have HB5 := Lib.hid (HB3.out.trans (b5.mono HB3.out.size))
    clear b5 i1 i2 HRW HROW c0 c1 c2
    generalize bytesK f b c = bc at *
    generalize blockK f b c = bk at *
    go_wp2_with fail
    refine (HP.out _).mono ?_
    rintro e w6 ⟨rfl, b6⟩
    have HB6 := Lib.hid (HB5.out.trans (b6.mono HB5.out.size))
    clear b6
    go_wp2
    go_ret2
    rw [HW.out]
    exact ⟨rfl, HB6.out⟩
end Go.Proofs.Ytbjmbnodckhikaa
