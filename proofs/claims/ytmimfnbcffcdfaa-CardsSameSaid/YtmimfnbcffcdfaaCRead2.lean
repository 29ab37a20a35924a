/-
  WALK: Read returns the card whose bytes a text is, or that it is none's. No condition.
-/
import Derived.Test.YtmimfnbcffcdfaaCRead
namespace Go.Proofs.Ytmimfnbcffcdfaa
open Go.RowKit

theorem writeC_size2 {c : Cd} {t : ByteArray} {z : Int} (h : writeC c = (t, z)) : t.size ≤ 32 := by
  cases hr : rightC c with
  | false => rw [writeC_no hr] at h; injection h with h1 _; subst h1; exact Nat.zero_le _
  | true => have := writeC_size hr; rw [h] at this; exact Nat.le_of_eq this

set_option maxHeartbeats 4000000 in
theorem read9_any (s : ByteArray) (w : World) (hsz : s.size ≤ 9223372036854775807) : Calls Try.prog 13 #[.string s] w (RetCE w (readC s).1 (readC s).2) := by
  by_cases h32 : s.size = 32
  · have HCA := Lib.hid (fun v => cardOf_any s v h32)
    have HRC : Hid (readC s = if writeC (cardD (bytesOf s)) = (s, 0) then (cardD (bytesOf s), 0) else (zeroC, 15)) := by show _ = _; unfold readC; simp only [h32, true_and]
    generalize cardD (bytesOf s) = c at *
    have HWA := Lib.hid (fun v B w hc hB => write9_any v c B w hc hB)
    obtain ⟨t, z, hw⟩ : ∃ t z, writeC c = (t, z) := ⟨_, _, rfl⟩
    rw [hw] at HWA
    have hne : ((s.size : Int) != 32) = false := by simp [h32]
    have HZ : Hid (z = 0 ∨ z = 1) := by
      show _ ∨ _
      cases hr : rightC c with
      | false => rw [writeC_no hr] at hw; injection hw with _ h; exact Or.inr h.symm
      | true => rw [writeC_ok hr] at hw; injection hw with _ h; exact Or.inl h.symm
    rw [hw] at HRC
    clear h32 hw
    go_enter Try.func13, Try.ntmps13
    go_wp2_with fail
    refine (HCA.out _).mono ?_
    rintro e w2 ⟨v2, rfl, hc2, b2⟩
    obtain ⟨A, n, k, A', n', k', q1, q2, rfl, i2, s2, bn, bn', f2⟩ := hc2
    have HQ1 : Hid (Fresh (w.heap.size + 1) A) := fun b o e => by have := q1 b o e; simp at this; omega
    have HQ2 : Hid (Fresh (w.heap.size + 1) A') := fun b o e => by have := q2 b o e; simp at this; omega
    clear q1 q2
    have HC2 : Hid (CdAt w2 w2.heap.size (cdv c A n k A' n' k') c) := ⟨A, n, k, A', n', k', rfl, i2, s2, bn, bn', f2⟩
    have HR2 : Hid (CdRow w2 w.heap.size zeroC none 0 0 none 0 0) := (CdRow.new w zeroC none 0 0 none 0 0).below b2 (by simp)
    have HB2 : Hid (Below w.heap.size w w2) := ((Below.refl _ _).alloc (Nat.le_refl _) _).trans (b2.mono (by simp))
    have hg2 := HR2.out.lt
    clear i2 s2 bn bn' f2 b2 hne
    go_upto_region 4 with fail
    have HG3 : Hid (CdRow (w2.alloc (.cells #[.int .i64 c.fm, .int .i64 c.kd, .int .i64 c.ln, .int .i64 c.sz, .slice A n k, .int .i64 c.sg, .int .i64 c.db, .slice A' n' k', .int .i64 c.ov] 25)) w2.heap.size c A n k A' n' k') := CdRow.new w2 c A n k A' n' k'
    have b3 : Below w2.heap.size w2 (w2.alloc (.cells #[.int .i64 c.fm, .int .i64 c.kd, .int .i64 c.ln, .int .i64 c.sz, .slice A n k, .int .i64 c.sg, .int .i64 c.db, .slice A' n' k', .int .i64 c.ov] 25)) := (Below.refl _ _).alloc (Nat.le_refl _) _
    have HC3 := Lib.hid (HC2.out.below b3 (Nat.le_refl _))
    have HR3 := Lib.hid (HR2.out.below b3 hg2)
    have HB3 := Lib.hid (HB2.out.trans (b3.mono HB2.out.size))
    have hs3 := HG3.out.lt
    clear b3 HC2 HR2
    generalize w2.alloc (.cells #[.int .i64 c.fm, .int .i64 c.kd, .int .i64 c.ln, .int .i64 c.sz, .slice A n k, .int .i64 c.sg, .int .i64 c.db, .slice A' n' k', .int .i64 c.ov] 25) = w3 at *
    obtain ⟨e0, e1, e2, e3, e4, e5, e6, e7, e8⟩ := HG3.out.cells
    go_wp2_with fail
    refine (HWA.out _ w2.heap.size w3 HC3.out (Nat.le_of_lt hs3)).mono ?_
    rintro e w4 ⟨rfl, b4⟩
    have HG4 := Lib.hid (HG3.out.below b4 hs3)
    have HC4 := Lib.hid (HC3.out.below b4 (Nat.le_of_lt hs3))
    have HR4 := Lib.hid (HR3.out.below b4 HR3.out.lt)
    have HB4 := Lib.hid (HB3.out.trans (b4.mono HB3.out.size))
    have hg4 := HG4.out.lt
    clear e0 e1 e2 e3 e4 e5 e6 e7 e8 b4 HG3 HC3 HR3 HB3
    generalize w2.heap.size = g at *
    obtain ⟨e0, e1, e2, e3, e4, e5, e6, e7, e8⟩ := HG4.out.cells
    obtain ⟨r0, r1, r2, r3, r4, r5, r6, r7, r8⟩ := HR4.out.cells
    have zr := HR4.out.fz
    rcases HZ.out with rfl | rfl
    · by_cases hts : t = s
      · subst hts
        have HE : Hid (readC t = (c, 0)) := by show _ = _; rw [HRC.out, if_pos rfl]
        clear HRC
        go_wp2
        clear e0 e1 e2 e3 e4 e5 e6 e7 e8 r0 r1 r2 r3 r4 r5 r6 r7 r8 zr
        have HR8 : Hid (CdRow (put9 w4 w.heap.size c A n k A' n' k') w.heap.size c A n k A' n' k') := put9_row HR4.out
        have HB8 : Hid (Below w.heap.size w (put9 w4 w.heap.size c A n k A' n' k')) := put9_below HB4.out (Nat.le_refl _)
        have HC8 : Hid (CdAt (put9 w4 w.heap.size c A n k A' n' k') (put9 w4 w.heap.size c A n k A' n' k').heap.size (cdv c A n k A' n' k') c) := cd_put9 HC4.out (Nat.le_of_lt hg4) HQ1.out HQ2.out
        unfold put9 at HR8 HB8 HC8
        generalize World.setCell _ ⟨w.heap.size, 8, none⟩ _ = w8 at *
        obtain ⟨r0, r1, r2, r3, r4, r5, r6, r7, r8⟩ := HR8.out.cells
        refine bodyPost_ret (v := .tuple #[cdv c A n k A' n' k', .int .i64 0]) (by simp [results, Try.results13, go_sem, r0, r1, r2, r3, r4, r5, r6, r7, r8]) rfl ?_
        rw [HE.out]
        exact ⟨_, rfl, HC8.out, HB8.out⟩
      · have HE : Hid (readC s = (zeroC, 15)) := by show _ = _; rw [HRC.out, if_neg (fun h => hts (by injection h))]
        have hl : t.toList ≠ s.toList := fun h => hts (ByteArray.ext (Array.ext' (by rw [ByteArray.toList_eq, ByteArray.toList_eq] at h; exact h)))
        have q1 : (t.toList == s.toList) = false := by simpa using hl
        have q2 : (t.toList != s.toList) = true := by simpa using hl
        clear HRC hts hl
        go_wp2
        clear e0 e1 e2 e3 e4 e5 e6 e7 e8 r0 r1 r2 r3 r4 r5 r6 r7 r8 zr
        have HR8 : Hid (CdRow (put9 w4 w.heap.size zeroC none 0 0 none 0 0) w.heap.size zeroC none 0 0 none 0 0) := put9_row HR4.out
        have HB8 : Hid (Below w.heap.size w (put9 w4 w.heap.size zeroC none 0 0 none 0 0)) := put9_below HB4.out (Nat.le_refl _)
        unfold put9 zeroC at HR8 HB8
        simp only at HR8 HB8
        generalize World.setCell _ ⟨w.heap.size, 8, none⟩ _ = w8 at *
        obtain ⟨r0, r1, r2, r3, r4, r5, r6, r7, r8⟩ := HR8.out.cells
        refine bodyPost_ret (v := .tuple #[cdv zeroC none 0 0 none 0 0, .int .i64 15]) (by simp [results, Try.results13, go_sem, r0, r1, r2, r3, r4, r5, r6, r7, r8, zeroC]) rfl ?_
        rw [HE.out]
        exact ⟨_, rfl, cdv_zero _ _, HB8.out⟩
    · have HE : Hid (readC s = (zeroC, 15)) := by show _ = _; rw [HRC.out, if_neg (fun h => by injection h with _ h; cases h)]
      clear HRC
      go_wp2
      clear e0 e1 e2 e3 e4 e5 e6 e7 e8 r0 r1 r2 r3 r4 r5 r6 r7 r8 zr
      have HR8 : Hid (CdRow (put9 w4 w.heap.size zeroC none 0 0 none 0 0) w.heap.size zeroC none 0 0 none 0 0) := put9_row HR4.out
      have HB8 : Hid (Below w.heap.size w (put9 w4 w.heap.size zeroC none 0 0 none 0 0)) := put9_below HB4.out (Nat.le_refl _)
      unfold put9 zeroC at HR8 HB8
      simp only at HR8 HB8
      generalize World.setCell _ ⟨w.heap.size, 8, none⟩ _ = w8 at *
      obtain ⟨r0, r1, r2, r3, r4, r5, r6, r7, r8⟩ := HR8.out.cells
      refine bodyPost_ret (v := .tuple #[cdv zeroC none 0 0 none 0 0, .int .i64 15]) (by simp [results, Try.results13, go_sem, r0, r1, r2, r3, r4, r5, r6, r7, r8, zeroC]) rfl ?_
      rw [HE.out]
      exact ⟨_, rfl, cdv_zero _ _, HB8.out⟩
  · have hne : ((s.size : Int) != 32) = true := bne_iff_ne.2 (by omega)
    have HE : Hid (readC s = (zeroC, 15)) := by show _ = _; unfold readC; rw [if_neg (fun h => h32 h.1)]
    have HB : Hid (∀ o : Obj, Below w.heap.size w (w.alloc o)) := fun o => (Below.refl _ _).alloc (Nat.le_refl _) _
    clear h32
    go_enter Try.func13, Try.ntmps13
    go_wp2
    refine bodyPost_ret (v := .tuple #[cdv zeroC none 0 0 none 0 0, .int .i64 15]) (by simp [results, Try.results13, go_sem, zeroC]) rfl ?_
    rw [HE.out]
    exact ⟨_, rfl, cdv_zero _ _, HB.out _⟩
end Go.Proofs.Ytmimfnbcffcdfaa
