/-
  WALK: the reference's Read returns the crown whose block a text is, or that it is none's. Condition: a string of at most 140737488355328 bytes.
-/
import Derived.Test.YtbjmbnodckhikaaKRead
namespace Go.Proofs.Ytbjmbnodckhikaa
open Go.RowKit

set_option maxHeartbeats 4000000 in
theorem rread10_any (s : ByteArray) (w : World) (hsz : s.size ≤ 140737488355328) : Calls Try.prog 16 #[.string s] w (RetK w s) := by
  have HX0 : Hid (KBox (w.alloc (.cells (cells3 0 0 0) 23)) w.heap.size 0 0 0) := KBox.new _ _ _ _
  have HB0 : Hid (Below w.heap.size w (w.alloc (.cells (cells3 0 0 0) 23))) := (Below.refl _ _).alloc (Nat.le_refl _) _
  have HRF : Hid (okK s = false → ∀ w', Below w.heap.size w w' → RetK w s (.returned (.tuple #[crv 0 0 0, .int .i64 15])) w') := fun h w' hb => by
    unfold RetK fK bK cK eK; rw [h]; exact ⟨rfl, hb⟩
  have HRT : Hid (okK s = true → ∀ w', Below w.heap.size w w' → RetK w s (.returned (.tuple #[crv (kf s) (kb s) (kc s), .int .i64 0])) w') := fun h w' hb => by
    unfold RetK fK bK cK eK; rw [h]; exact ⟨rfl, hb⟩
  by_cases h128 : s.size = 128
  · have hne : ((s.size : Int) != 128) = false := by simp [h128]
    have h10 : 10 ≤ s.size := by omega
    have HRR := Lib.hid (read_rest (s := s) (by omega))
    have HCS : Hid ((s.extract 10 s.size).size ≤ 1000000000000000) := by show _ ≤ _; rw [ByteArray.size_extract]; omega
    have HOK : Hid (okK s = (rightK (kf s) (kb s) (kc s) && decide (blockK (kf s) (kb s) (kc s) = s))) := by show _ = _; rfl
    have HWT : Hid (∀ v, Calls Try.prog 10 #[crv (kf s) (kb s) (kc s)] v fun e w' => e = .returned (.tuple #[.string (writeK (kf s) (kb s) (kc s)).1, .int .i64 (writeK (kf s) (kb s) (kc s)).2]) ∧ Below v.heap.size v w') := fun v => rwrite10_any _ _ _ v
    have HI2 : Hid (∀ v : World, IntsAt (v.alloc (.cells #[.int .i64 1, .int .i64 2, .int .i64 1] 3)) (v.heap.size + 1) (some ⟨v.heap.size, 0, none⟩) 3 [1, 2, 1]) := fun v => ints_new [1, 2, 1] (by intro z hz; simp at hz; unfold I64; omega)
    clear h128
    generalize kf s = f at *
    generalize kb s = b at *
    generalize kc s = c at *
    go_enter Try.func16, Try.ntmps16
    go_upto_region 3 with fail
    unfold cells3 at HX0 HB0
    generalize hw2 : w.alloc (Obj.cells #[.int .i64 0, .int .i64 0, .int .i64 0] 23) = w2 at *
    have HW2 := Lib.hid hw2
    clear hw2
    have b3 : Below w2.heap.size w2 (w2.alloc (.cells #[.int .i64 1, .int .i64 2, .int .i64 1] 3)) := (Below.refl _ _).alloc (Nat.le_refl _) _
    have HB3 := Lib.hid (HB0.out.trans (b3.mono HB0.out.size))
    have HX3 := Lib.hid (HX0.out.below b3 HX0.out.lt)
    have I3 := Lib.hid (HI2.out w2)
    clear b3 HX0 HB0 HI2
    go_wp2_with fail
    refine (rread_any _ 3 3 (w2.heap.size + 1) [1, 2, 1] (s.extract 10 s.size) _ I3.out (Nat.le_of_eq (size_al w2 _).symm) (by omega) HCS.out).mono ?_
    rintro e w4 ⟨A4, n4, c4, rfl, hn4, i4, b4⟩
    rw [HRR.out] at i4 ⊢
    have hn : n4 = 3 := i4.len.symm
    subst hn
    have HB4 := Lib.hid (HB3.out.trans (b4.mono HB3.out.size))
    have HX4 := Lib.hid (HX3.out.below b4 HX3.out.lt)
    obtain ⟨g, o, rfl, hg, q0, q1, q2⟩ := three i4
    clear b4 I3 HB3 HX3 i4
    go_upto_region 4 with fail
    go_region
    clear q0 q1 q2
    have HG5 : Hid (KBox (w4.alloc (.cells #[.int .i64 f, .int .i64 b, .int .i64 c] 23)).drew w4.heap.size f b c) := KBox.new w4 f b c
    have b5 : Below w4.heap.size w4 (w4.alloc (.cells #[.int .i64 f, .int .i64 b, .int .i64 c] 23)).drew := Below.dr ((Below.refl _ _).alloc (Nat.le_refl _) _)
    have HX5 := Lib.hid (HX4.out.below b5 HX4.out.lt)
    have HB5 := Lib.hid (HB4.out.trans (b5.mono HB4.out.size))
    clear b5 HB4 HX4
    generalize (w4.alloc (.cells #[.int .i64 f, .int .i64 b, .int .i64 c] 23)).drew = w5 at *
    obtain ⟨e0, e1, e2⟩ := HG5.out.row
    go_wp2_with fail
    refine (HWT.out _).mono ?_
    rintro e w6 ⟨rfl, b6⟩
    have HB6 := Lib.hid (HB5.out.trans (b6.mono HB5.out.size))
    have HX6 := Lib.hid (HX5.out.below b6 HX5.out.lt)
    have HG6 := Lib.hid (HG5.out.below b6 HG5.out.lt)
    clear e0 e1 e2 b6 HB5 HX5 HG5 HWT
    generalize w4.heap.size = gg at *
    obtain ⟨e0, e1, e2⟩ := HG6.out.row
    obtain ⟨c0, c1, c2⟩ := HX6.out.row
    have zr := HX6.out.fz
    cases hr : rightK f b c with
    | false =>
      have HF := Lib.hid (HRF.out (by rw [HOK.out, hr]; rfl))
      rw [writeK_no hr]
      clear HRT HRF HOK hr
      go_wp2
      clear c0 c1 c2 zr e0 e1 e2
      have HX9 : Hid (KBox (put3 w6 w.heap.size 0 0 0) w.heap.size 0 0 0) := put3_box HX6.out
      have HB9 : Hid (Below w.heap.size w (put3 w6 w.heap.size 0 0 0)) := put3_below HB6.out (Nat.le_refl _)
      unfold put3 at HX9 HB9
      generalize World.setCell _ ⟨w.heap.size, 2, none⟩ _ = w9 at *
      obtain ⟨r0, r1, r2⟩ := HX9.out.row
      refine bodyPost_ret (v := .tuple #[crv 0 0 0, .int .i64 15]) (by simp [results, go_sem, r0, r1, r2, crv]) rfl ?_
      exact HF.out _ HB9.out
    | true =>
      rw [writeK_ok hr]
      by_cases hs : blockK f b c = s
      · have HF := Lib.hid (HRT.out (by rw [HOK.out, hr]; simpa using hs))
        clear HRT HRF HOK hr
        generalize blockK f b c = bk at *
        subst hs
        go_wp2
        clear c0 c1 c2 zr e0 e1 e2
        have HX9 : Hid (KBox (put3 w6 w.heap.size f b c) w.heap.size f b c) := put3_box HX6.out
        have HB9 : Hid (Below w.heap.size w (put3 w6 w.heap.size f b c)) := put3_below HB6.out (Nat.le_refl _)
        unfold put3 at HX9 HB9
        generalize World.setCell _ ⟨w.heap.size, 2, none⟩ _ = w9 at *
        obtain ⟨r0, r1, r2⟩ := HX9.out.row
        refine bodyPost_ret (v := .tuple #[crv f b c, .int .i64 0]) (by simp [results, go_sem, r0, r1, r2, crv]) rfl ?_
        exact HF.out _ HB9.out
      · have HF := Lib.hid (HRF.out (by rw [HOK.out, hr]; simpa using hs))
        have q1 : ((blockK f b c).toList == s.toList) = false := by rw [lists_eq, decide_eq_false hs]
        have q2 : ((blockK f b c).toList != s.toList) = true := by rw [bne, q1]; rfl
        clear HRT HRF HOK hr hs
        generalize blockK f b c = bk at *
        go_wp2
        clear c0 c1 c2 zr e0 e1 e2
        have HX9 : Hid (KBox (put3 w6 w.heap.size 0 0 0) w.heap.size 0 0 0) := put3_box HX6.out
        have HB9 : Hid (Below w.heap.size w (put3 w6 w.heap.size 0 0 0)) := put3_below HB6.out (Nat.le_refl _)
        unfold put3 at HX9 HB9
        generalize World.setCell _ ⟨w.heap.size, 2, none⟩ _ = w9 at *
        obtain ⟨r0, r1, r2⟩ := HX9.out.row
        refine bodyPost_ret (v := .tuple #[crv 0 0 0, .int .i64 15]) (by simp [results, go_sem, r0, r1, r2, crv]) rfl ?_
        exact HF.out _ HB9.out
  · have HF := Lib.hid (HRF.out (okK_size h128))
    have hne : ((s.size : Int) != 128) = true := bne_iff_ne.2 (by omega)
    have HB1 := HB0.out
    unfold cells3 at HB1
    clear HRF HRT h128 HX0 HB0
    have HB4 := Lib.hid HB1
    clear HB1
    go_enter Try.func16, Try.ntmps16
    go_wp2
    refine bodyPost_ret (v := .tuple #[crv 0 0 0, .int .i64 15]) (by simp [results, go_sem, crv]) rfl ?_
    exact HF.out _ HB4.out
end Go.Proofs.Ytbjmbnodckhikaa
