/-
  WALK: the reference's Read returns the card whose bytes a text is, or that it is none's. The format is none, or no format's. Condition: the text has 32 bytes.
-/
import Derived.Test.YtmimfnbcffcdfaaCRefRM
import Derived.Test.YtmimfnbcffcdfaaCRRead
import Derived.Test.YtmimfnbcffcdfaaCRefWrite
import Derived.Test.YtmimfnbcffcdfaaCRead2
import Derived.Test.YtmimfnbcffcdfaaCRefNew
namespace Go.Proofs.Ytmimfnbcffcdfaa
open Go.RowKit

section
variable {w : World} {g : Nat} {f kd ln sz : Int}
theorem set4_row (h : CdRow w g zeroC none 0 0 none 0 0) : CdRow ((((w.setCell ⟨g, 0, none⟩ (.int .i64 f)).setCell ⟨g, 1, none⟩ (.int .i64 kd)).setCell ⟨g, 2, none⟩ (.int .i64 ln)).setCell ⟨g, 3, none⟩ (.int .i64 sz)) g ⟨f, kd, ln, sz, [], 0, 0, [], 0⟩ none 0 0 none 0 0 := by
  have h1 : CdRow (w.setCell ⟨g, 0, none⟩ (.int .i64 f)) g ⟨f, 0, 0, 0, [], 0, 0, [], 0⟩ none 0 0 none 0 0 := row_set h rfl
  generalize w.setCell ⟨g, 0, none⟩ (.int .i64 f) = w1 at *
  have h2 : CdRow (w1.setCell ⟨g, 1, none⟩ (.int .i64 kd)) g ⟨f, kd, 0, 0, [], 0, 0, [], 0⟩ none 0 0 none 0 0 := row_set h1 rfl
  generalize w1.setCell ⟨g, 1, none⟩ (.int .i64 kd) = w2 at *
  have h3 : CdRow (w2.setCell ⟨g, 2, none⟩ (.int .i64 ln)) g ⟨f, kd, ln, 0, [], 0, 0, [], 0⟩ none 0 0 none 0 0 := row_set h2 rfl
  generalize w2.setCell ⟨g, 2, none⟩ (.int .i64 ln) = w3 at *
  exact row_set h3 rfl
theorem set4_below {B : Nat} {w0 : World} (h : Below B w0 w) (hg : B ≤ g) : Below B w0 ((((w.setCell ⟨g, 0, none⟩ (.int .i64 f)).setCell ⟨g, 1, none⟩ (.int .i64 kd)).setCell ⟨g, 2, none⟩ (.int .i64 ln)).setCell ⟨g, 3, none⟩ (.int .i64 sz)) :=
  (((h.setCell (p := ⟨g, 0, none⟩) hg _).setCell (p := ⟨g, 1, none⟩) hg _).setCell (p := ⟨g, 2, none⟩) hg _).setCell (p := ⟨g, 3, none⟩) hg _
theorem set_cell_ne {b j : Nat} {v : Value} (hb : ¬ b = g) (o : Nat) : (w.setCell ⟨g, j, none⟩ v).cell? ⟨b, o, none⟩ = w.cell? ⟨b, o, none⟩ :=
  World.cell?_setCell_other w ⟨g, j, none⟩ ⟨b, o, none⟩ v (fun e => hb (by injection e with e; exact e.symm))
theorem set4_cell {b : Nat} (hb : ¬ b = g) (o : Nat) : ((((w.setCell ⟨g, 0, none⟩ (.int .i64 f)).setCell ⟨g, 1, none⟩ (.int .i64 kd)).setCell ⟨g, 2, none⟩ (.int .i64 ln)).setCell ⟨g, 3, none⟩ (.int .i64 sz)).cell? ⟨b, o, none⟩ = w.cell? ⟨b, o, none⟩ := by
  rw [set_cell_ne hb, set_cell_ne hb, set_cell_ne hb, set_cell_ne hb]
end

set_option maxHeartbeats 1000000 in
theorem rread0_any (s : ByteArray) (w : World) (hs : s.size = 32) (h0 : decF (bytesOf s) 0 1 = 0) : Calls Try.prog 14 #[.string s] w (RetCE w (readC s).1 (readC s).2) := by
  have hlen : (bytesOf s).length = 32 := by rw [bytesOf_len, hs]
  have HRC := Lib.hid (ref_read hs)
  have HRA := Lib.hid (fun (A : Option Addr) (n c B : Nat) (v : World) (hr : IntsAt v B A n [1, 1, 2, 4]) (hB : B ≤ v.heap.size) (hn : n ≤ 17592186044416) => rread_new A n c B [1, 1, 2, 4] s v hr hB hn (by omega))
  rw [readH hlen] at HRA
  have hne : ((s.size : Int) != 32) = false := by simp [hs]
  have HF : Hid (∀ a n, n ≤ 4 → Fit (decF (bytesOf s) a n)) := fun a n hn => cd_fit _ (bytesOf_bd s) a n hn
  have hC : refCard (bytesOf s) = zeroC := by unfold refCard; rw [if_pos h0]
  generalize refCard (bytesOf s) = c at *
  have HCE := Lib.hid hC
  have HWA : Hid (∀ (v : Value) (B : Nat) (w : World), CdAt w B v c → B ≤ w.heap.size → Calls Try.prog 10 #[v] w fun e w' => e = .returned (.tuple #[.string (writeC c).1, .int .i64 (writeC c).2]) ∧ Below w.heap.size w w') := fun v B w hc hB => rwrite9_any v c B w hc hB
  obtain ⟨t, z, hw⟩ : ∃ t z, writeC c = (t, z) := ⟨_, _, rfl⟩
  rw [hw] at HWA HRC
  have HZ : Hid (z = 0 ∨ z = 1) := by
    show _ ∨ _
    cases hr : rightC c with
    | false => rw [writeC_no hr] at hw; injection hw with _ h; exact Or.inr h.symm
    | true => rw [writeC_ok hr] at hw; injection hw with _ h; exact Or.inl h.symm
  clear hw
  have H0 := Lib.hid h0
  clear hlen hs hC h0
  go_enter Try.func14, Try.ntmps14
  go_wp2_with fail
  have HRr : Hid (CdRow ((w.alloc (.cells #[.int .i64 0, .int .i64 0, .int .i64 0, .int .i64 0, .slice none 0 0, .int .i64 0, .int .i64 0, .slice none 0 0, .int .i64 0] 25)).alloc (.cells #[.int .i64 0, .int .i64 0, .int .i64 0, .int .i64 0, .slice none 0 0, .int .i64 0, .int .i64 0, .slice none 0 0, .int .i64 0] 25)) w.heap.size zeroC none 0 0 none 0 0) := (CdRow.new w zeroC none 0 0 none 0 0).below ((Below.refl _ _).alloc (Nat.le_refl _) _) (by simp)
  have HGg : Hid (CdRow ((w.alloc (.cells #[.int .i64 0, .int .i64 0, .int .i64 0, .int .i64 0, .slice none 0 0, .int .i64 0, .int .i64 0, .slice none 0 0, .int .i64 0] 25)).alloc (.cells #[.int .i64 0, .int .i64 0, .int .i64 0, .int .i64 0, .slice none 0 0, .int .i64 0, .int .i64 0, .slice none 0 0, .int .i64 0] 25)) (w.heap.size + 1) zeroC none 0 0 none 0 0) := row_new1 w _ zeroC none 0 0 none 0 0
  have HBb : Hid (Below w.heap.size w ((w.alloc (.cells #[.int .i64 0, .int .i64 0, .int .i64 0, .int .i64 0, .slice none 0 0, .int .i64 0, .int .i64 0, .slice none 0 0, .int .i64 0] 25)).alloc (.cells #[.int .i64 0, .int .i64 0, .int .i64 0, .int .i64 0, .slice none 0 0, .int .i64 0, .int .i64 0, .slice none 0 0, .int .i64 0] 25))) := ((Below.refl _ _).alloc (Nat.le_refl _) _).alloc (by simp) _
  have HSs : Hid (((w.alloc (.cells #[.int .i64 0, .int .i64 0, .int .i64 0, .int .i64 0, .slice none 0 0, .int .i64 0, .int .i64 0, .slice none 0 0, .int .i64 0] 25)).alloc (.cells #[.int .i64 0, .int .i64 0, .int .i64 0, .int .i64 0, .slice none 0 0, .int .i64 0, .int .i64 0, .slice none 0 0, .int .i64 0] 25)).heap.size = w.heap.size + 1 + 1) := by show _ = _; simp
  generalize (w.alloc (.cells #[.int .i64 0, .int .i64 0, .int .i64 0, .int .i64 0, .slice none 0 0, .int .i64 0, .int .i64 0, .slice none 0 0, .int .i64 0] 25)).alloc (.cells #[.int .i64 0, .int .i64 0, .int .i64 0, .int .i64 0, .slice none 0 0, .int .i64 0, .int .i64 0, .slice none 0 0, .int .i64 0] 25) = w1 at *
  have I4 : IntsAt (w1.alloc (.cells #[.int .i64 1, .int .i64 1, .int .i64 2, .int .i64 4] 3)) (w1.heap.size + 1) (some ⟨w.heap.size + 1 + 1, 0, none⟩) 4 [1, 1, 2, 4] := by
    rw [← HSs.out]; exact ints_new (w := w1) [1, 1, 2, 4] (by decide)
  have I4' := Lib.hid I4
  clear I4
  (with_reducible refine (HRA.out _ _ _ _ _ I4'.out (by simp) (by decide)).mono ?_)
  rintro e w2 ⟨A2, n2, c2, rfl, hc2, fr2, i2, b2⟩
  have hn2 : 4 = n2 := i2.len
  subst hn2
  obtain ⟨b, o, rfl, hbw, -⟩ := i2.at_ (k := 0) (by omega)
  have hb2 : Below w1.heap.size w1 w2 := (Below.al (Below.refl w1.heap.size w1) (Nat.le_refl _)).trans (b2.mono (by simp))
  have HR2 := Lib.hid (HRr.out.below hb2 HRr.out.lt)
  have HG2 := Lib.hid (HGg.out.below hb2 HGg.out.lt)
  have HB2 := Lib.hid (HBb.out.trans (hb2.mono HBb.out.size))
  have hbf : w.heap.size + 1 < b := by have h1 := fr2 b o rfl; have h2 := HSs.out; simp only [World.size_alloc] at h1; omega
  have k0 : w2.cell? ⟨b, o, none⟩ = some (.int .i64 (decF (bytesOf s) 0 1)) := by
    obtain ⟨b', o', e, _, h⟩ := i2.at_ (k := 0) (by omega)
    cases e; exact h
  have k1 : w2.cell? ⟨b, o + 1, none⟩ = some (.int .i64 (decF (bytesOf s) 1 1)) := by
    obtain ⟨b', o', e, _, h⟩ := i2.at_ (k := 1) (by omega)
    cases e; exact h
  have k2 : w2.cell? ⟨b, o + 2, none⟩ = some (.int .i64 (decF (bytesOf s) 2 2)) := by
    obtain ⟨b', o', e, _, h⟩ := i2.at_ (k := 2) (by omega)
    cases e; exact h
  have k3 : w2.cell? ⟨b, o + 3, none⟩ = some (.int .i64 (decF (bytesOf s) 4 4)) := by
    obtain ⟨b', o', e, _, h⟩ := i2.at_ (k := 3) (by omega)
    cases e; exact h
  clear b2 hb2 i2 fr2 HRr HGg HBb HSs HRA
  rw [H0.out] at k0
  have HC2 : Hid (CdAt w2 w2.heap.size (cdv zeroC none 0 0 none 0 0) c) := by show CdAt _ _ _ c; rw [HCE.out]; exact cdv_zero _ _
  generalize bytesOf s = bs at *
  go_upto_region 22 with fail
  clear k0 k1 k2 k3
  obtain ⟨e0, e1, e2, e3, e4, e5, e6, e7, e8⟩ := HG2.out.cells
  simp only [zeroC] at e0 e1 e2 e3 e5 e6 e8
  go_wp2_with fail
  refine (HWA.out _ w2.heap.size w2 HC2.out (Nat.le_refl _)).mono ?_
  rintro e wz ⟨rfl, bz⟩
  have HGz := Lib.hid (HG2.out.below bz HG2.out.lt)
  have HCz := Lib.hid ((HC2.out.below bz (Nat.le_refl _)).more bz.size)
  have HRz := Lib.hid (HR2.out.below bz HR2.out.lt)
  have HBz := Lib.hid (HB2.out.trans (bz.mono HB2.out.size))
  clear e0 e1 e2 e3 e4 e5 e6 e7 e8 bz
  obtain ⟨e0, e1, e2, e3, e4, e5, e6, e7, e8⟩ := HGz.out.cells
  simp only [zeroC] at e0 e1 e2 e3 e5 e6 e8
  obtain ⟨r0, r1, r2, r3, r4, r5, r6, r7, r8⟩ := HRz.out.cells
  have zr := HRz.out.fz
  rcases HZ.out with rfl | rfl
  · by_cases hts : t = s
    · subst hts
      have HE : Hid (readC t = (c, 0)) := by show _ = _; rw [HRC.out, if_pos rfl]
      clear HRC
      go_wp2
      clear e0 e1 e2 e3 e4 e5 e6 e7 e8 r0 r1 r2 r3 r4 r5 r6 r7 r8 zr
      have HR8 : Hid (CdRow (put9 wz w.heap.size zeroC none 0 0 none 0 0) w.heap.size zeroC none 0 0 none 0 0) := put9_row HRz.out
      have HB8 : Hid (Below w.heap.size w (put9 wz w.heap.size zeroC none 0 0 none 0 0)) := put9_below HBz.out (Nat.le_refl _)
      unfold put9 zeroC at HR8 HB8
      simp only at HR8 HB8
      generalize World.setCell _ ⟨w.heap.size, 8, none⟩ _ = w8 at *
      obtain ⟨r0, r1, r2, r3, r4, r5, r6, r7, r8⟩ := HR8.out.cells
      refine bodyPost_ret (v := .tuple #[cdv zeroC none 0 0 none 0 0, .int .i64 0]) (by simp [results, Try.results14, go_sem, r0, r1, r2, r3, r4, r5, r6, r7, r8, zeroC]) rfl ?_
      rw [HE.out]
      exact ⟨_, rfl, (by rw [HCE.out]; exact cdv_zero _ _), HB8.out⟩
    · have HE : Hid (readC s = (zeroC, 15)) := by show _ = _; rw [HRC.out, if_neg (fun h => hts (by injection h))]
      have hl : t.toList ≠ s.toList := fun h => hts (ByteArray.ext (Array.ext' (by rw [ByteArray.toList_eq, ByteArray.toList_eq] at h; exact h)))
      have q1 : (t.toList == s.toList) = false := by simpa using hl
      have q2 : (t.toList != s.toList) = true := by simpa using hl
      clear HRC hts hl
      go_wp2
      clear e0 e1 e2 e3 e4 e5 e6 e7 e8 r0 r1 r2 r3 r4 r5 r6 r7 r8 zr
      have HR8 : Hid (CdRow (put9 wz w.heap.size zeroC none 0 0 none 0 0) w.heap.size zeroC none 0 0 none 0 0) := put9_row HRz.out
      have HB8 : Hid (Below w.heap.size w (put9 wz w.heap.size zeroC none 0 0 none 0 0)) := put9_below HBz.out (Nat.le_refl _)
      unfold put9 zeroC at HR8 HB8
      simp only at HR8 HB8
      generalize World.setCell _ ⟨w.heap.size, 8, none⟩ _ = w8 at *
      obtain ⟨r0, r1, r2, r3, r4, r5, r6, r7, r8⟩ := HR8.out.cells
      refine bodyPost_ret (v := .tuple #[cdv zeroC none 0 0 none 0 0, .int .i64 15]) (by simp [results, Try.results14, go_sem, r0, r1, r2, r3, r4, r5, r6, r7, r8, zeroC]) rfl ?_
      rw [HE.out]
      exact ⟨_, rfl, cdv_zero _ _, HB8.out⟩
  · have HE : Hid (readC s = (zeroC, 15)) := by show _ = _; rw [HRC.out, if_neg (fun h => by injection h with _ h; cases h)]
    clear HRC
    go_wp2
    clear e0 e1 e2 e3 e4 e5 e6 e7 e8 r0 r1 r2 r3 r4 r5 r6 r7 r8 zr
    have HR8 : Hid (CdRow (put9 wz w.heap.size zeroC none 0 0 none 0 0) w.heap.size zeroC none 0 0 none 0 0) := put9_row HRz.out
    have HB8 : Hid (Below w.heap.size w (put9 wz w.heap.size zeroC none 0 0 none 0 0)) := put9_below HBz.out (Nat.le_refl _)
    unfold put9 zeroC at HR8 HB8
    simp only at HR8 HB8
    generalize World.setCell _ ⟨w.heap.size, 8, none⟩ _ = w8 at *
    obtain ⟨r0, r1, r2, r3, r4, r5, r6, r7, r8⟩ := HR8.out.cells
    refine bodyPost_ret (v := .tuple #[cdv zeroC none 0 0 none 0 0, .int .i64 15]) (by simp [results, Try.results14, go_sem, r0, r1, r2, r3, r4, r5, r6, r7, r8, zeroC]) rfl ?_
    rw [HE.out]
    exact ⟨_, rfl, cdv_zero _ _, HB8.out⟩
set_option maxHeartbeats 1000000 in
theorem rreadX_any (s : ByteArray) (w : World) (hs : s.size = 32) (h0 : decF (bytesOf s) 0 1 ≠ 0) (h1 : decF (bytesOf s) 0 1 ≠ 1) (h2 : decF (bytesOf s) 0 1 ≠ 2) : Calls Try.prog 14 #[.string s] w (RetCE w (readC s).1 (readC s).2) := by
  have hlen : (bytesOf s).length = 32 := by rw [bytesOf_len, hs]
  have HRC := Lib.hid (ref_read hs)
  have HRA := Lib.hid (fun (A : Option Addr) (n c B : Nat) (v : World) (hr : IntsAt v B A n [1, 1, 2, 4]) (hB : B ≤ v.heap.size) (hn : n ≤ 17592186044416) => rread_new A n c B [1, 1, 2, 4] s v hr hB hn (by omega))
  rw [readH hlen] at HRA
  have hne : ((s.size : Int) != 32) = false := by simp [hs]
  have HF : Hid (∀ a n, n ≤ 4 → Fit (decF (bytesOf s) a n)) := fun a n hn => cd_fit _ (bytesOf_bd s) a n hn
  have hC : refCard (bytesOf s) = ⟨decF (bytesOf s) 0 1, decF (bytesOf s) 1 1, decF (bytesOf s) 2 2, decF (bytesOf s) 4 4, [], 0, 0, [], 0⟩ := by unfold refCard; rw [if_neg h0, if_neg h1, if_neg h2]
  generalize refCard (bytesOf s) = c at *
  have HCE := Lib.hid hC
  have HWA : Hid (∀ (v : Value) (B : Nat) (w : World), CdAt w B v c → B ≤ w.heap.size → Calls Try.prog 10 #[v] w fun e w' => e = .returned (.tuple #[.string (writeC c).1, .int .i64 (writeC c).2]) ∧ Below w.heap.size w w') := fun v B w hc hB => rwrite9_any v c B w hc hB
  obtain ⟨t, z, hw⟩ : ∃ t z, writeC c = (t, z) := ⟨_, _, rfl⟩
  rw [hw] at HWA HRC
  have HZ : Hid (z = 0 ∨ z = 1) := by
    show _ ∨ _
    cases hr : rightC c with
    | false => rw [writeC_no hr] at hw; injection hw with _ h; exact Or.inr h.symm
    | true => rw [writeC_ok hr] at hw; injection hw with _ h; exact Or.inl h.symm
  clear hw
  have d0 : (decF (bytesOf s) 0 1 != 0) = true := bne_iff_ne.2 h0
  have d1 : (decF (bytesOf s) 0 1 == 1) = false := by simpa using h1
  have d2 : (decF (bytesOf s) 0 1 == 2) = false := by simpa using h2
  clear hlen hs hC h0 h1 h2
  go_enter Try.func14, Try.ntmps14
  go_wp2_with fail
  have HRr : Hid (CdRow ((w.alloc (.cells #[.int .i64 0, .int .i64 0, .int .i64 0, .int .i64 0, .slice none 0 0, .int .i64 0, .int .i64 0, .slice none 0 0, .int .i64 0] 25)).alloc (.cells #[.int .i64 0, .int .i64 0, .int .i64 0, .int .i64 0, .slice none 0 0, .int .i64 0, .int .i64 0, .slice none 0 0, .int .i64 0] 25)) w.heap.size zeroC none 0 0 none 0 0) := (CdRow.new w zeroC none 0 0 none 0 0).below ((Below.refl _ _).alloc (Nat.le_refl _) _) (by simp)
  have HGg : Hid (CdRow ((w.alloc (.cells #[.int .i64 0, .int .i64 0, .int .i64 0, .int .i64 0, .slice none 0 0, .int .i64 0, .int .i64 0, .slice none 0 0, .int .i64 0] 25)).alloc (.cells #[.int .i64 0, .int .i64 0, .int .i64 0, .int .i64 0, .slice none 0 0, .int .i64 0, .int .i64 0, .slice none 0 0, .int .i64 0] 25)) (w.heap.size + 1) zeroC none 0 0 none 0 0) := row_new1 w _ zeroC none 0 0 none 0 0
  have HBb : Hid (Below w.heap.size w ((w.alloc (.cells #[.int .i64 0, .int .i64 0, .int .i64 0, .int .i64 0, .slice none 0 0, .int .i64 0, .int .i64 0, .slice none 0 0, .int .i64 0] 25)).alloc (.cells #[.int .i64 0, .int .i64 0, .int .i64 0, .int .i64 0, .slice none 0 0, .int .i64 0, .int .i64 0, .slice none 0 0, .int .i64 0] 25))) := ((Below.refl _ _).alloc (Nat.le_refl _) _).alloc (by simp) _
  have HSs : Hid (((w.alloc (.cells #[.int .i64 0, .int .i64 0, .int .i64 0, .int .i64 0, .slice none 0 0, .int .i64 0, .int .i64 0, .slice none 0 0, .int .i64 0] 25)).alloc (.cells #[.int .i64 0, .int .i64 0, .int .i64 0, .int .i64 0, .slice none 0 0, .int .i64 0, .int .i64 0, .slice none 0 0, .int .i64 0] 25)).heap.size = w.heap.size + 1 + 1) := by show _ = _; simp
  generalize (w.alloc (.cells #[.int .i64 0, .int .i64 0, .int .i64 0, .int .i64 0, .slice none 0 0, .int .i64 0, .int .i64 0, .slice none 0 0, .int .i64 0] 25)).alloc (.cells #[.int .i64 0, .int .i64 0, .int .i64 0, .int .i64 0, .slice none 0 0, .int .i64 0, .int .i64 0, .slice none 0 0, .int .i64 0] 25) = w1 at *
  have I4 : IntsAt (w1.alloc (.cells #[.int .i64 1, .int .i64 1, .int .i64 2, .int .i64 4] 3)) (w1.heap.size + 1) (some ⟨w.heap.size + 1 + 1, 0, none⟩) 4 [1, 1, 2, 4] := by
    rw [← HSs.out]; exact ints_new (w := w1) [1, 1, 2, 4] (by decide)
  have I4' := Lib.hid I4
  clear I4
  (with_reducible refine (HRA.out _ _ _ _ _ I4'.out (by simp) (by decide)).mono ?_)
  rintro e w2 ⟨A2, n2, c2, rfl, hc2, fr2, i2, b2⟩
  have hn2 : 4 = n2 := i2.len
  subst hn2
  obtain ⟨b, o, rfl, hbw, -⟩ := i2.at_ (k := 0) (by omega)
  have hb2 : Below w1.heap.size w1 w2 := (Below.al (Below.refl w1.heap.size w1) (Nat.le_refl _)).trans (b2.mono (by simp))
  have HR2 := Lib.hid (HRr.out.below hb2 HRr.out.lt)
  have HG2 := Lib.hid (HGg.out.below hb2 HGg.out.lt)
  have HB2 := Lib.hid (HBb.out.trans (hb2.mono HBb.out.size))
  have hbf : w.heap.size + 1 < b := by have h1 := fr2 b o rfl; have h2 := HSs.out; simp only [World.size_alloc] at h1; omega
  have k0 : w2.cell? ⟨b, o, none⟩ = some (.int .i64 (decF (bytesOf s) 0 1)) := by
    obtain ⟨b', o', e, _, h⟩ := i2.at_ (k := 0) (by omega)
    cases e; exact h
  have k1 : w2.cell? ⟨b, o + 1, none⟩ = some (.int .i64 (decF (bytesOf s) 1 1)) := by
    obtain ⟨b', o', e, _, h⟩ := i2.at_ (k := 1) (by omega)
    cases e; exact h
  have k2 : w2.cell? ⟨b, o + 2, none⟩ = some (.int .i64 (decF (bytesOf s) 2 2)) := by
    obtain ⟨b', o', e, _, h⟩ := i2.at_ (k := 2) (by omega)
    cases e; exact h
  have k3 : w2.cell? ⟨b, o + 3, none⟩ = some (.int .i64 (decF (bytesOf s) 4 4)) := by
    obtain ⟨b', o', e, _, h⟩ := i2.at_ (k := 3) (by omega)
    cases e; exact h
  clear b2 hb2 i2 fr2 HRr HGg HBb HSs HRA
  have F0 := Lib.hid (HF.out 0 1 (by omega))
  have F1 := Lib.hid (HF.out 1 1 (by omega))
  have F2 := Lib.hid (HF.out 2 2 (by omega))
  have F3 := Lib.hid (HF.out 4 4 (by omega))
  clear HF
  generalize decF (bytesOf s) 0 1 = f at *
  generalize decF (bytesOf s) 1 1 = kd at *
  generalize decF (bytesOf s) 2 2 = ln at *
  generalize decF (bytesOf s) 4 4 = sz at *
  have hbn : ¬ b = w.heap.size + 1 := by omega
  have hbn' : ¬ w.heap.size + 1 = b := by omega
  obtain ⟨e0, e1, e2, e3, e4, e5, e6, e7, e8⟩ := HG2.out.cells
  have zg := HG2.out.fz
  go_upto_region 10 with fail
  have HG3 : Hid (CdRow ((((w2.setCell ⟨w.heap.size + 1, 0, none⟩ (.int .i64 f)).setCell ⟨w.heap.size + 1, 1, none⟩ (.int .i64 kd)).setCell ⟨w.heap.size + 1, 2, none⟩ (.int .i64 ln)).setCell ⟨w.heap.size + 1, 3, none⟩ (.int .i64 sz)) (w.heap.size + 1) ⟨f, kd, ln, sz, [], 0, 0, [], 0⟩ none 0 0 none 0 0) := set4_row HG2.out
  have hb3 : Below (w.heap.size + 1) w2 ((((w2.setCell ⟨w.heap.size + 1, 0, none⟩ (.int .i64 f)).setCell ⟨w.heap.size + 1, 1, none⟩ (.int .i64 kd)).setCell ⟨w.heap.size + 1, 2, none⟩ (.int .i64 ln)).setCell ⟨w.heap.size + 1, 3, none⟩ (.int .i64 sz)) := set4_below (Below.refl _ _) (Nat.le_refl _)
  have HR3 := Lib.hid (HR2.out.below hb3 (Nat.lt_succ_self _))
  have HB3 := Lib.hid (HB2.out.trans (hb3.mono (Nat.le_succ _)))
  have k0' : ((((w2.setCell ⟨w.heap.size + 1, 0, none⟩ (.int .i64 f)).setCell ⟨w.heap.size + 1, 1, none⟩ (.int .i64 kd)).setCell ⟨w.heap.size + 1, 2, none⟩ (.int .i64 ln)).setCell ⟨w.heap.size + 1, 3, none⟩ (.int .i64 sz)).cell? ⟨b, o, none⟩ = some (.int .i64 f) := (set4_cell hbn o).trans k0
  clear e0 e1 e2 e3 e4 e5 e6 e7 e8 zg hb3 k0 k1 k2 k3 HG2 HR2 HB2
  generalize ((((w2.setCell ⟨w.heap.size + 1, 0, none⟩ (.int .i64 f)).setCell ⟨w.heap.size + 1, 1, none⟩ (.int .i64 kd)).setCell ⟨w.heap.size + 1, 2, none⟩ (.int .i64 ln)).setCell ⟨w.heap.size + 1, 3, none⟩ (.int .i64 sz)) = w3 at *
  have HC3 : Hid (CdAt w3 w3.heap.size (cdv ⟨f, kd, ln, sz, [], 0, 0, [], 0⟩ none 0 0 none 0 0) c) := by
    show CdAt _ _ _ c
    rw [HCE.out]
    exact ⟨none, 0, 0, none, 0, 0, rfl, ⟨rfl, by simp, fun k hk => absurd hk (by omega)⟩, ⟨rfl, by simp, fun k hk => absurd hk (by omega)⟩, by omega, by omega, F0.out, F1.out, F2.out, F3.out, (by show Fit 0; decide), (by show Fit 0; decide), (by show Fit 0; decide)⟩
  go_upto_region 22 with fail
  clear k0'
  obtain ⟨e0, e1, e2, e3, e4, e5, e6, e7, e8⟩ := HG3.out.cells
  simp only at e0 e1 e2 e3 e4 e5 e6 e7 e8
  go_wp2_with fail
  refine (HWA.out _ w3.heap.size w3 HC3.out (Nat.le_refl _)).mono ?_
  rintro e wz ⟨rfl, bz⟩
  have HGz := Lib.hid (HG3.out.below bz HG3.out.lt)
  have HCz := Lib.hid ((HC3.out.below bz (Nat.le_refl _)).more bz.size)
  have HRz := Lib.hid (HR3.out.below bz HR3.out.lt)
  have HBz := Lib.hid (HB3.out.trans (bz.mono HB3.out.size))
  clear e0 e1 e2 e3 e4 e5 e6 e7 e8 bz
  obtain ⟨e0, e1, e2, e3, e4, e5, e6, e7, e8⟩ := HGz.out.cells
  simp only at e0 e1 e2 e3 e4 e5 e6 e7 e8
  obtain ⟨r0, r1, r2, r3, r4, r5, r6, r7, r8⟩ := HRz.out.cells
  have zr := HRz.out.fz
  rcases HZ.out with rfl | rfl
  · by_cases hts : t = s
    · subst hts
      have HE : Hid (readC t = (c, 0)) := by show _ = _; rw [HRC.out, if_pos rfl]
      clear HRC
      go_wp2
      clear e0 e1 e2 e3 e4 e5 e6 e7 e8 r0 r1 r2 r3 r4 r5 r6 r7 r8 zr
      have HR8 : Hid (CdRow (put9 wz w.heap.size ⟨f, kd, ln, sz, [], 0, 0, [], 0⟩ none 0 0 none 0 0) w.heap.size ⟨f, kd, ln, sz, [], 0, 0, [], 0⟩ none 0 0 none 0 0) := put9_row HRz.out
      have HB8 : Hid (Below w.heap.size w (put9 wz w.heap.size ⟨f, kd, ln, sz, [], 0, 0, [], 0⟩ none 0 0 none 0 0)) := put9_below HBz.out (Nat.le_refl _)
      have HC8 : Hid (CdAt (put9 wz w.heap.size ⟨f, kd, ln, sz, [], 0, 0, [], 0⟩ none 0 0 none 0 0) (put9 wz w.heap.size ⟨f, kd, ln, sz, [], 0, 0, [], 0⟩ none 0 0 none 0 0).heap.size (cdv ⟨f, kd, ln, sz, [], 0, 0, [], 0⟩ none 0 0 none 0 0) c) := by
        have h := HCz.out
        rw [HCE.out] at h
        show CdAt _ _ _ c
        rw [HCE.out]
        exact cd_put9 h (Nat.le_refl _) (Fresh.none _) (Fresh.none _)
      unfold put9 at HR8 HB8 HC8
      simp only at HR8 HB8 HC8
      generalize World.setCell _ ⟨w.heap.size, 8, none⟩ _ = w8 at *
      obtain ⟨r0, r1, r2, r3, r4, r5, r6, r7, r8⟩ := HR8.out.cells
      refine bodyPost_ret (v := .tuple #[cdv ⟨f, kd, ln, sz, [], 0, 0, [], 0⟩ none 0 0 none 0 0, .int .i64 0]) (by simp [results, Try.results14, go_sem, r0, r1, r2, r3, r4, r5, r6, r7, r8]) rfl ?_
      rw [HE.out]
      exact ⟨_, rfl, HC8.out, HB8.out⟩
    · have HE : Hid (readC s = (zeroC, 15)) := by show _ = _; rw [HRC.out, if_neg (fun h => hts (by injection h))]
      have hl : t.toList ≠ s.toList := fun h => hts (ByteArray.ext (Array.ext' (by rw [ByteArray.toList_eq, ByteArray.toList_eq] at h; exact h)))
      have q1 : (t.toList == s.toList) = false := by simpa using hl
      have q2 : (t.toList != s.toList) = true := by simpa using hl
      clear HRC hts hl
      go_wp2
      clear e0 e1 e2 e3 e4 e5 e6 e7 e8 r0 r1 r2 r3 r4 r5 r6 r7 r8 zr
      have HR8 : Hid (CdRow (put9 wz w.heap.size zeroC none 0 0 none 0 0) w.heap.size zeroC none 0 0 none 0 0) := put9_row HRz.out
      have HB8 : Hid (Below w.heap.size w (put9 wz w.heap.size zeroC none 0 0 none 0 0)) := put9_below HBz.out (Nat.le_refl _)
      unfold put9 zeroC at HR8 HB8
      simp only at HR8 HB8
      generalize World.setCell _ ⟨w.heap.size, 8, none⟩ _ = w8 at *
      obtain ⟨r0, r1, r2, r3, r4, r5, r6, r7, r8⟩ := HR8.out.cells
      refine bodyPost_ret (v := .tuple #[cdv zeroC none 0 0 none 0 0, .int .i64 15]) (by simp [results, Try.results14, go_sem, r0, r1, r2, r3, r4, r5, r6, r7, r8, zeroC]) rfl ?_
      rw [HE.out]
      exact ⟨_, rfl, cdv_zero _ _, HB8.out⟩
  · have HE : Hid (readC s = (zeroC, 15)) := by show _ = _; rw [HRC.out, if_neg (fun h => by injection h with _ h; cases h)]
    clear HRC
    go_wp2
    clear e0 e1 e2 e3 e4 e5 e6 e7 e8 r0 r1 r2 r3 r4 r5 r6 r7 r8 zr
    have HR8 : Hid (CdRow (put9 wz w.heap.size zeroC none 0 0 none 0 0) w.heap.size zeroC none 0 0 none 0 0) := put9_row HRz.out
    have HB8 : Hid (Below w.heap.size w (put9 wz w.heap.size zeroC none 0 0 none 0 0)) := put9_below HBz.out (Nat.le_refl _)
    unfold put9 zeroC at HR8 HB8
    simp only at HR8 HB8
    generalize World.setCell _ ⟨w.heap.size, 8, none⟩ _ = w8 at *
    obtain ⟨r0, r1, r2, r3, r4, r5, r6, r7, r8⟩ := HR8.out.cells
    refine bodyPost_ret (v := .tuple #[cdv zeroC none 0 0 none 0 0, .int .i64 15]) (by simp [results, Try.results14, go_sem, r0, r1, r2, r3, r4, r5, r6, r7, r8, zeroC]) rfl ?_
    rw [HE.out]
    exact ⟨_, rfl, cdv_zero _ _, HB8.out⟩
end Go.Proofs.Ytmimfnbcffcdfaa
