/-
  WALK: the reference's Read returns the card whose bytes a text is, or that it is none's. The format is none, or no format's. Condition: the text has 32 bytes.
  WALK: the reference's Read returns the card whose bytes a text is, or that it is none's. The format is One. Condition: the text has 32 bytes.
-/
import Derived.Test.YtapjbffhihhnbaaGreatBJ
import Derived.Test.YtapjbffhihhnbaaGreatBN
namespace Go.Proofs.YtapjbffhihhnbaaGreat
open Go.RowKit

section
variable {w : World} {g : Nat} {f kd ln sz : Int}
set_option maxRecDepth 100000 in
theorem set4_row (h : CdRow w g zeroC none 0 0 none 0 0) : CdRow ((((w.setCell ⟨g, 0, none⟩ (.int .i64 f)).setCell ⟨g, 1, none⟩ (.int .i64 kd)).setCell ⟨g, 2, none⟩ (.int .i64 ln)).setCell ⟨g, 3, none⟩ (.int .i64 sz)) g ⟨f, kd, ln, sz, [], 0, 0, [], 0⟩ none 0 0 none 0 0 := by
  have h1 : CdRow (w.setCell ⟨g, 0, none⟩ (.int .i64 f)) g ⟨f, 0, 0, 0, [], 0, 0, [], 0⟩ none 0 0 none 0 0 := row_set h rfl
  generalize w.setCell ⟨g, 0, none⟩ (.int .i64 f) = w1 at *
  have h2 : CdRow (w1.setCell ⟨g, 1, none⟩ (.int .i64 kd)) g ⟨f, kd, 0, 0, [], 0, 0, [], 0⟩ none 0 0 none 0 0 := row_set h1 rfl
  generalize w1.setCell ⟨g, 1, none⟩ (.int .i64 kd) = w2 at *
  have h3 : CdRow (w2.setCell ⟨g, 2, none⟩ (.int .i64 ln)) g ⟨f, kd, ln, 0, [], 0, 0, [], 0⟩ none 0 0 none 0 0 := row_set h2 rfl
  generalize w2.setCell ⟨g, 2, none⟩ (.int .i64 ln) = w3 at *
  exact row_set h3 rfl
set_option maxRecDepth 100000 in
theorem set4_below {B : Nat} {w0 : World} (h : Below B w0 w) (hg : B ≤ g) : Below B w0 ((((w.setCell ⟨g, 0, none⟩ (.int .i64 f)).setCell ⟨g, 1, none⟩ (.int .i64 kd)).setCell ⟨g, 2, none⟩ (.int .i64 ln)).setCell ⟨g, 3, none⟩ (.int .i64 sz)) :=
  (((h.setCell (p := ⟨g, 0, none⟩) hg _).setCell (p := ⟨g, 1, none⟩) hg _).setCell (p := ⟨g, 2, none⟩) hg _).setCell (p := ⟨g, 3, none⟩) hg _
set_option maxRecDepth 100000 in
theorem set_cell_ne {b j : Nat} {v : Value} (hb : ¬ b = g) (o : Nat) : (w.setCell ⟨g, j, none⟩ v).cell? ⟨b, o, none⟩ = w.cell? ⟨b, o, none⟩ :=
  World.cell?_setCell_other w ⟨g, j, none⟩ ⟨b, o, none⟩ v (fun e => hb (by injection e with e; exact e.symm))
set_option maxRecDepth 100000 in
theorem set4_cell {b : Nat} (hb : ¬ b = g) (o : Nat) : ((((w.setCell ⟨g, 0, none⟩ (.int .i64 f)).setCell ⟨g, 1, none⟩ (.int .i64 kd)).setCell ⟨g, 2, none⟩ (.int .i64 ln)).setCell ⟨g, 3, none⟩ (.int .i64 sz)).cell? ⟨b, o, none⟩ = w.cell? ⟨b, o, none⟩ := by
  rw [set_cell_ne hb, set_cell_ne hb, set_cell_ne hb, set_cell_ne hb]
end

set_option maxRecDepth 100000 in
set_option maxHeartbeats 1000000 in
theorem rread0_new (s : ByteArray) (w : World) (hs : s.size = 32) (h0 : decF (bytesOf s) 0 1 = 0) : Calls Tryz.prog 70 #[.string s] w (RetCN w (readC s).1 (readC s).2) := by
  have hlen : (bytesOf s).length = 32 := by rw [bytesOf_len, hs]
  have HRC := Lib.hid (ref_read hs)
  have HRA := Lib.hid (fun (A : Option Addr) (n c B : Nat) (v : World) (hr : IntsAt v B A n [1, 1, 2, 4]) (hB : B ≤ v.heap.size) (hn : n ≤ 17592186044416) => rread_new A n c B [1, 1, 2, 4] s v hr hB hn (by omega))
  rw [readH hlen] at HRA
  have hne : ((s.size : Int) != 32) = false := by simp [hs]
  have HF : Hid (∀ a n, n ≤ 4 → Fit (decF (bytesOf s) a n)) := fun a n hn => cd_fit _ (bytesOf_bd s) a n hn
  have hC : refCard (bytesOf s) = zeroC := by unfold refCard; rw [if_pos h0]
  generalize refCard (bytesOf s) = c at *
  have HCE := Lib.hid hC
  have HWA : Hid (∀ (v : Value) (B : Nat) (w : World), CdAt w B v c → B ≤ w.heap.size → Calls Tryz.prog 71 #[v] w fun e w' => e = .returned (.tuple #[.string (writeC c).1, .int .i64 (writeC c).2]) ∧ Below w.heap.size w w') := fun v B w hc hB => rwrite9_any v c B w hc hB
  obtain ⟨t, z, hw⟩ : ∃ t z, writeC c = (t, z) := ⟨_, _, rfl⟩
  rw [hw] at HWA HRC
  have HZ : Hid (z = 0 ∨ z = 1) := by
    show _ ∨ _
    cases hr : rightC c with
    | false => rw [writeC_no hr] at hw; injection hw with _ h; exact Or.inr h.symm
    | true => rw [writeC_ok hr] at hw; injection hw with _ h; exact Or.inl h.symm
  clear hw
  have H0 := Lib.hid h0
  clear hlen hs hC h0
  go_enter Tryz.func70, Tryz.ntmps70
  go_wp2_with fail
  have HRr : Hid (CdRow ((w.alloc (.cells #[.int .i64 0, .int .i64 0, .int .i64 0, .int .i64 0, .slice none 0 0, .int .i64 0, .int .i64 0, .slice none 0 0, .int .i64 0] 40)).alloc (.cells #[.int .i64 0, .int .i64 0, .int .i64 0, .int .i64 0, .slice none 0 0, .int .i64 0, .int .i64 0, .slice none 0 0, .int .i64 0] 40)) w.heap.size zeroC none 0 0 none 0 0) := (CdRow.new w zeroC none 0 0 none 0 0).below ((Below.refl _ _).alloc (Nat.le_refl _) _) (by simp)
  have HGg : Hid (CdRow ((w.alloc (.cells #[.int .i64 0, .int .i64 0, .int .i64 0, .int .i64 0, .slice none 0 0, .int .i64 0, .int .i64 0, .slice none 0 0, .int .i64 0] 40)).alloc (.cells #[.int .i64 0, .int .i64 0, .int .i64 0, .int .i64 0, .slice none 0 0, .int .i64 0, .int .i64 0, .slice none 0 0, .int .i64 0] 40)) (w.heap.size + 1) zeroC none 0 0 none 0 0) := row_new1 w _ zeroC none 0 0 none 0 0
  have HBb : Hid (Below w.heap.size w ((w.alloc (.cells #[.int .i64 0, .int .i64 0, .int .i64 0, .int .i64 0, .slice none 0 0, .int .i64 0, .int .i64 0, .slice none 0 0, .int .i64 0] 40)).alloc (.cells #[.int .i64 0, .int .i64 0, .int .i64 0, .int .i64 0, .slice none 0 0, .int .i64 0, .int .i64 0, .slice none 0 0, .int .i64 0] 40))) := ((Below.refl _ _).alloc (Nat.le_refl _) _).alloc (by simp) _
  have HSs : Hid (((w.alloc (.cells #[.int .i64 0, .int .i64 0, .int .i64 0, .int .i64 0, .slice none 0 0, .int .i64 0, .int .i64 0, .slice none 0 0, .int .i64 0] 40)).alloc (.cells #[.int .i64 0, .int .i64 0, .int .i64 0, .int .i64 0, .slice none 0 0, .int .i64 0, .int .i64 0, .slice none 0 0, .int .i64 0] 40)).heap.size = w.heap.size + 1 + 1) := by show _ = _; simp
  generalize (w.alloc (.cells #[.int .i64 0, .int .i64 0, .int .i64 0, .int .i64 0, .slice none 0 0, .int .i64 0, .int .i64 0, .slice none 0 0, .int .i64 0] 40)).alloc (.cells #[.int .i64 0, .int .i64 0, .int .i64 0, .int .i64 0, .slice none 0 0, .int .i64 0, .int .i64 0, .slice none 0 0, .int .i64 0] 40) = w1 at *
  have I4 : IntsAt (w1.alloc (.cells #[.int .i64 1, .int .i64 1, .int .i64 2, .int .i64 4] 3)) (w1.heap.size + 1) (some ⟨w.heap.size + 1 + 1, 0, none⟩) 4 [1, 1, 2, 4] := by
    rw [← HSs.out]; exact ints_new (w := w1) [1, 1, 2, 4] (by decide)
  have I4' := Lib.hid I4
  clear I4
  (with_reducible refine (HRA.out _ _ _ _ _ I4'.out (by simp) (by decide)).mono ?_)
  rintro e w2 ⟨A2, n2, c2, rfl, hc2, fr2, i2, b2⟩
  have hn2 : 4 = n2 := i2.len
  subst hn2
  obtain ⟨b, o, rfl, hbw, -⟩ := i2.at_ (k := 0) (by omega)
  have hb2 : Below w1.heap.size w1 w2 := (Below.al (Below.refl w1.heap.size w1) (Nat.le_refl _)).trans (b2.mono (by simp))
  have HR2 := Lib.hid (HRr.out.below hb2 HRr.out.lt)
  have HG2 := Lib.hid (HGg.out.below hb2 HGg.out.lt)
  have HB2 := Lib.hid (HBb.out.trans (hb2.mono HBb.out.size))
  have hbf : w.heap.size + 1 < b := by have h1 := fr2 b o rfl; have h2 := HSs.out; simp only [World.size_alloc] at h1; omega
  have k0 : w2.cell? ⟨b, o, none⟩ = some (.int .i64 (decF (bytesOf s) 0 1)) := by
    obtain ⟨b', o', e, _, h⟩ := i2.at_ (k := 0) (by omega)
    cases e; exact h
  have k1 : w2.cell? ⟨b, o + 1, none⟩ = some (.int .i64 (decF (bytesOf s) 1 1)) := by
    obtain ⟨b', o', e, _, h⟩ := i2.at_ (k := 1) (by omega)
    cases e; exact h
  have k2 : w2.cell? ⟨b, o + 2, none⟩ = some (.int .i64 (decF (bytesOf s) 2 2)) := by
    obtain ⟨b', o', e, _, h⟩ := i2.at_ (k := 2) (by omega)
    cases e; exact h
  have k3 : w2.cell? ⟨b, o + 3, none⟩ = some (.int .i64 (decF (bytesOf s) 4 4)) := by
    obtain ⟨b', o', e, _, h⟩ := i2.at_ (k := 3) (by omega)
    cases e; exact h
  clear b2 hb2 i2 fr2 HRr HGg HBb HSs HRA
  rw [H0.out] at k0
  have HC2 : Hid (CdAt w2 w2.heap.size (cdv zeroC none 0 0 none 0 0) c) := by show CdAt _ _ _ c; rw [HCE.out]; exact cdv_zero _ _
  generalize bytesOf s = bs at *
  go_upto_region 22 with fail
  clear k0 k1 k2 k3
  obtain ⟨e0, e1, e2, e3, e4, e5, e6, e7, e8⟩ := HG2.out.cells
  simp only [zeroC] at e0 e1 e2 e3 e5 e6 e8
  go_wp2_with fail
  refine (HWA.out _ w2.heap.size w2 HC2.out (Nat.le_refl _)).mono ?_
  rintro e wz ⟨rfl, bz⟩
  have HGz := Lib.hid (HG2.out.below bz HG2.out.lt)
  have HCz := Lib.hid ((HC2.out.below bz (Nat.le_refl _)).more bz.size)
  have HRz := Lib.hid (HR2.out.below bz HR2.out.lt)
  have HBz := Lib.hid (HB2.out.trans (bz.mono HB2.out.size))
  clear e0 e1 e2 e3 e4 e5 e6 e7 e8 bz
  obtain ⟨e0, e1, e2, e3, e4, e5, e6, e7, e8⟩ := HGz.out.cells
  simp only [zeroC] at e0 e1 e2 e3 e5 e6 e8
  obtain ⟨r0, r1, r2, r3, r4, r5, r6, r7, r8⟩ := HRz.out.cells
  have zr := HRz.out.fz
  rcases HZ.out with rfl | rfl
  · by_cases hts : t = s
    · subst hts
      have HE : Hid (readC t = (c, 0)) := by show _ = _; rw [HRC.out, if_pos rfl]
      clear HRC
      go_wp2
      clear e0 e1 e2 e3 e4 e5 e6 e7 e8 r0 r1 r2 r3 r4 r5 r6 r7 r8 zr
      have HR8 : Hid (CdRow (put9 wz w.heap.size zeroC none 0 0 none 0 0) w.heap.size zeroC none 0 0 none 0 0) := put9_row HRz.out
      have HB8 : Hid (Below w.heap.size w (put9 wz w.heap.size zeroC none 0 0 none 0 0)) := put9_below HBz.out (Nat.le_refl _)
      unfold put9 zeroC at HR8 HB8
      simp only at HR8 HB8
      generalize World.setCell _ ⟨w.heap.size, 8, none⟩ _ = w8 at *
      obtain ⟨r0, r1, r2, r3, r4, r5, r6, r7, r8⟩ := HR8.out.cells
      refine bodyPost_ret (v := .tuple #[cdv zeroC none 0 0 none 0 0, .int .i64 0]) (by simp [results, Tryz.results70, go_sem, r0, r1, r2, r3, r4, r5, r6, r7, r8, zeroC]) rfl ?_
      rw [HE.out]
      exact ⟨_, rfl, (by rw [HCE.out]; exact cdn_zero _ _), HB8.out⟩
    · have HE : Hid (readC s = (zeroC, 15)) := by show _ = _; rw [HRC.out, if_neg (fun h => hts (by injection h))]
      have hl : t.toList ≠ s.toList := fun h => hts (ByteArray.ext (Array.ext' (by rw [ByteArray.toList_eq, ByteArray.toList_eq] at h; exact h)))
      have q1 : (t.toList == s.toList) = false := by simpa using hl
      have q2 : (t.toList != s.toList) = true := by simpa using hl
      clear HRC hts hl
      go_wp2
      clear e0 e1 e2 e3 e4 e5 e6 e7 e8 r0 r1 r2 r3 r4 r5 r6 r7 r8 zr
      have HR8 : Hid (CdRow (put9 wz w.heap.size zeroC none 0 0 none 0 0) w.heap.size zeroC none 0 0 none 0 0) := put9_row HRz.out
      have HB8 : Hid (Below w.heap.size w (put9 wz w.heap.size zeroC none 0 0 none 0 0)) := put9_below HBz.out (Nat.le_refl _)
      unfold put9 zeroC at HR8 HB8
      simp only at HR8 HB8
      generalize World.setCell _ ⟨w.heap.size, 8, none⟩ _ = w8 at *
      obtain ⟨r0, r1, r2, r3, r4, r5, r6, r7, r8⟩ := HR8.out.cells
      refine bodyPost_ret (v := .tuple #[cdv zeroC none 0 0 none 0 0, .int .i64 15]) (by simp [results, Tryz.results70, go_sem, r0, r1, r2, r3, r4, r5, r6, r7, r8, zeroC]) rfl ?_
      rw [HE.out]
      exact ⟨_, rfl, cdn_zero _ _, HB8.out⟩
  · have HE : Hid (readC s = (zeroC, 15)) := by show _ = _; rw [HRC.out, if_neg (fun h => by injection h with _ h; cases h)]
    clear HRC
    go_wp2
    clear e0 e1 e2 e3 e4 e5 e6 e7 e8 r0 r1 r2 r3 r4 r5 r6 r7 r8 zr
    have HR8 : Hid (CdRow (put9 wz w.heap.size zeroC none 0 0 none 0 0) w.heap.size zeroC none 0 0 none 0 0) := put9_row HRz.out
    have HB8 : Hid (Below w.heap.size w (put9 wz w.heap.size zeroC none 0 0 none 0 0)) := put9_below HBz.out (Nat.le_refl _)
    unfold put9 zeroC at HR8 HB8
    simp only at HR8 HB8
    generalize World.setCell _ ⟨w.heap.size, 8, none⟩ _ = w8 at *
    obtain ⟨r0, r1, r2, r3, r4, r5, r6, r7, r8⟩ := HR8.out.cells
    refine bodyPost_ret (v := .tuple #[cdv zeroC none 0 0 none 0 0, .int .i64 15]) (by simp [results, Tryz.results70, go_sem, r0, r1, r2, r3, r4, r5, r6, r7, r8, zeroC]) rfl ?_
    rw [HE.out]
    exact ⟨_, rfl, cdn_zero _ _, HB8.out⟩
set_option maxRecDepth 100000 in
set_option maxHeartbeats 1000000 in
theorem rreadX_new (s : ByteArray) (w : World) (hs : s.size = 32) (h0 : decF (bytesOf s) 0 1 ≠ 0) (h1 : decF (bytesOf s) 0 1 ≠ 1) (h2 : decF (bytesOf s) 0 1 ≠ 2) : Calls Tryz.prog 70 #[.string s] w (RetCN w (readC s).1 (readC s).2) := by
  have hlen : (bytesOf s).length = 32 := by rw [bytesOf_len, hs]
  have HRC := Lib.hid (ref_read hs)
  have HRA := Lib.hid (fun (A : Option Addr) (n c B : Nat) (v : World) (hr : IntsAt v B A n [1, 1, 2, 4]) (hB : B ≤ v.heap.size) (hn : n ≤ 17592186044416) => rread_new A n c B [1, 1, 2, 4] s v hr hB hn (by omega))
  rw [readH hlen] at HRA
  have hne : ((s.size : Int) != 32) = false := by simp [hs]
  have HF : Hid (∀ a n, n ≤ 4 → Fit (decF (bytesOf s) a n)) := fun a n hn => cd_fit _ (bytesOf_bd s) a n hn
  have hC : refCard (bytesOf s) = ⟨decF (bytesOf s) 0 1, decF (bytesOf s) 1 1, decF (bytesOf s) 2 2, decF (bytesOf s) 4 4, [], 0, 0, [], 0⟩ := by unfold refCard; rw [if_neg h0, if_neg h1, if_neg h2]
  generalize refCard (bytesOf s) = c at *
  have HCE := Lib.hid hC
  have HWA : Hid (∀ (v : Value) (B : Nat) (w : World), CdAt w B v c → B ≤ w.heap.size → Calls Tryz.prog 71 #[v] w fun e w' => e = .returned (.tuple #[.string (writeC c).1, .int .i64 (writeC c).2]) ∧ Below w.heap.size w w') := fun v B w hc hB => rwrite9_any v c B w hc hB
  obtain ⟨t, z, hw⟩ : ∃ t z, writeC c = (t, z) := ⟨_, _, rfl⟩
  rw [hw] at HWA HRC
  have HZ : Hid (z = 0 ∨ z = 1) := by
    show _ ∨ _
    cases hr : rightC c with
    | false => rw [writeC_no hr] at hw; injection hw with _ h; exact Or.inr h.symm
    | true => rw [writeC_ok hr] at hw; injection hw with _ h; exact Or.inl h.symm
  clear hw
  have d0 : (decF (bytesOf s) 0 1 != 0) = true := bne_iff_ne.2 h0
  have d1 : (decF (bytesOf s) 0 1 == 1) = false := by simpa using h1
  have d2 : (decF (bytesOf s) 0 1 == 2) = false := by simpa using h2
  clear hlen hs hC h0 h1 h2
  go_enter Tryz.func70, Tryz.ntmps70
  go_wp2_with fail
  have HRr : Hid (CdRow ((w.alloc (.cells #[.int .i64 0, .int .i64 0, .int .i64 0, .int .i64 0, .slice none 0 0, .int .i64 0, .int .i64 0, .slice none 0 0, .int .i64 0] 40)).alloc (.cells #[.int .i64 0, .int .i64 0, .int .i64 0, .int .i64 0, .slice none 0 0, .int .i64 0, .int .i64 0, .slice none 0 0, .int .i64 0] 40)) w.heap.size zeroC none 0 0 none 0 0) := (CdRow.new w zeroC none 0 0 none 0 0).below ((Below.refl _ _).alloc (Nat.le_refl _) _) (by simp)
  have HGg : Hid (CdRow ((w.alloc (.cells #[.int .i64 0, .int .i64 0, .int .i64 0, .int .i64 0, .slice none 0 0, .int .i64 0, .int .i64 0, .slice none 0 0, .int .i64 0] 40)).alloc (.cells #[.int .i64 0, .int .i64 0, .int .i64 0, .int .i64 0, .slice none 0 0, .int .i64 0, .int .i64 0, .slice none 0 0, .int .i64 0] 40)) (w.heap.size + 1) zeroC none 0 0 none 0 0) := row_new1 w _ zeroC none 0 0 none 0 0
  have HBb : Hid (Below w.heap.size w ((w.alloc (.cells #[.int .i64 0, .int .i64 0, .int .i64 0, .int .i64 0, .slice none 0 0, .int .i64 0, .int .i64 0, .slice none 0 0, .int .i64 0] 40)).alloc (.cells #[.int .i64 0, .int .i64 0, .int .i64 0, .int .i64 0, .slice none 0 0, .int .i64 0, .int .i64 0, .slice none 0 0, .int .i64 0] 40))) := ((Below.refl _ _).alloc (Nat.le_refl _) _).alloc (by simp) _
  have HSs : Hid (((w.alloc (.cells #[.int .i64 0, .int .i64 0, .int .i64 0, .int .i64 0, .slice none 0 0, .int .i64 0, .int .i64 0, .slice none 0 0, .int .i64 0] 40)).alloc (.cells #[.int .i64 0, .int .i64 0, .int .i64 0, .int .i64 0, .slice none 0 0, .int .i64 0, .int .i64 0, .slice none 0 0, .int .i64 0] 40)).heap.size = w.heap.size + 1 + 1) := by show _ = _; simp
  generalize (w.alloc (.cells #[.int .i64 0, .int .i64 0, .int .i64 0, .int .i64 0, .slice none 0 0, .int .i64 0, .int .i64 0, .slice none 0 0, .int .i64 0] 40)).alloc (.cells #[.int .i64 0, .int .i64 0, .int .i64 0, .int .i64 0, .slice none 0 0, .int .i64 0, .int .i64 0, .slice none 0 0, .int .i64 0] 40) = w1 at *
  have I4 : IntsAt (w1.alloc (.cells #[.int .i64 1, .int .i64 1, .int .i64 2, .int .i64 4] 3)) (w1.heap.size + 1) (some ⟨w.heap.size + 1 + 1, 0, none⟩) 4 [1, 1, 2, 4] := by
    rw [← HSs.out]; exact ints_new (w := w1) [1, 1, 2, 4] (by decide)
  have I4' := Lib.hid I4
  clear I4
  (with_reducible refine (HRA.out _ _ _ _ _ I4'.out (by simp) (by decide)).mono ?_)
  rintro e w2 ⟨A2, n2, c2, rfl, hc2, fr2, i2, b2⟩
  have hn2 : 4 = n2 := i2.len
  subst hn2
  obtain ⟨b, o, rfl, hbw, -⟩ := i2.at_ (k := 0) (by omega)
  have hb2 : Below w1.heap.size w1 w2 := (Below.al (Below.refl w1.heap.size w1) (Nat.le_refl _)).trans (b2.mono (by simp))
  have HR2 := Lib.hid (HRr.out.below hb2 HRr.out.lt)
  have HG2 := Lib.hid (HGg.out.below hb2 HGg.out.lt)
  have HB2 := Lib.hid (HBb.out.trans (hb2.mono HBb.out.size))
  have hbf : w.heap.size + 1 < b := by have h1 := fr2 b o rfl; have h2 := HSs.out; simp only [World.size_alloc] at h1; omega
  have k0 : w2.cell? ⟨b, o, none⟩ = some (.int .i64 (decF (bytesOf s) 0 1)) := by
    obtain ⟨b', o', e, _, h⟩ := i2.at_ (k := 0) (by omega)
    cases e; exact h
  have k1 : w2.cell? ⟨b, o + 1, none⟩ = some (.int .i64 (decF (bytesOf s) 1 1)) := by
    obtain ⟨b', o', e, _, h⟩ := i2.at_ (k := 1) (by omega)
    cases e; exact h
  have k2 : w2.cell? ⟨b, o + 2, none⟩ = some (.int .i64 (decF (bytesOf s) 2 2)) := by
    obtain ⟨b', o', e, _, h⟩ := i2.at_ (k := 2) (by omega)
    cases e; exact h
  have k3 : w2.cell? ⟨b, o + 3, none⟩ = some (.int .i64 (decF (bytesOf s) 4 4)) := by
    obtain ⟨b', o', e, _, h⟩ := i2.at_ (k := 3) (by omega)
    cases e; exact h
  clear b2 hb2 i2 fr2 HRr HGg HBb HSs HRA
  have F0 := Lib.hid (HF.out 0 1 (by omega))
  have F1 := Lib.hid (HF.out 1 1 (by omega))
  have F2 := Lib.hid (HF.out 2 2 (by omega))
  have F3 := Lib.hid (HF.out 4 4 (by omega))
  clear HF
  generalize decF (bytesOf s) 0 1 = f at *
  generalize decF (bytesOf s) 1 1 = kd at *
  generalize decF (bytesOf s) 2 2 = ln at *
  generalize decF (bytesOf s) 4 4 = sz at *
  have hbn : ¬ b = w.heap.size + 1 := by omega
  have hbn' : ¬ w.heap.size + 1 = b := by omega
  obtain ⟨e0, e1, e2, e3, e4, e5, e6, e7, e8⟩ := HG2.out.cells
  have zg := HG2.out.fz
  go_upto_region 10 with fail
  have HG3 : Hid (CdRow ((((w2.setCell ⟨w.heap.size + 1, 0, none⟩ (.int .i64 f)).setCell ⟨w.heap.size + 1, 1, none⟩ (.int .i64 kd)).setCell ⟨w.heap.size + 1, 2, none⟩ (.int .i64 ln)).setCell ⟨w.heap.size + 1, 3, none⟩ (.int .i64 sz)) (w.heap.size + 1) ⟨f, kd, ln, sz, [], 0, 0, [], 0⟩ none 0 0 none 0 0) := set4_row HG2.out
  have hb3 : Below (w.heap.size + 1) w2 ((((w2.setCell ⟨w.heap.size + 1, 0, none⟩ (.int .i64 f)).setCell ⟨w.heap.size + 1, 1, none⟩ (.int .i64 kd)).setCell ⟨w.heap.size + 1, 2, none⟩ (.int .i64 ln)).setCell ⟨w.heap.size + 1, 3, none⟩ (.int .i64 sz)) := set4_below (Below.refl _ _) (Nat.le_refl _)
  have HR3 := Lib.hid (HR2.out.below hb3 (Nat.lt_succ_self _))
  have HB3 := Lib.hid (HB2.out.trans (hb3.mono (Nat.le_succ _)))
  have k0' : ((((w2.setCell ⟨w.heap.size + 1, 0, none⟩ (.int .i64 f)).setCell ⟨w.heap.size + 1, 1, none⟩ (.int .i64 kd)).setCell ⟨w.heap.size + 1, 2, none⟩ (.int .i64 ln)).setCell ⟨w.heap.size + 1, 3, none⟩ (.int .i64 sz)).cell? ⟨b, o, none⟩ = some (.int .i64 f) := (set4_cell hbn o).trans k0
  clear e0 e1 e2 e3 e4 e5 e6 e7 e8 zg hb3 k0 k1 k2 k3 HG2 HR2 HB2
  generalize ((((w2.setCell ⟨w.heap.size + 1, 0, none⟩ (.int .i64 f)).setCell ⟨w.heap.size + 1, 1, none⟩ (.int .i64 kd)).setCell ⟨w.heap.size + 1, 2, none⟩ (.int .i64 ln)).setCell ⟨w.heap.size + 1, 3, none⟩ (.int .i64 sz)) = w3 at *
  have HC3 : Hid (CdAt w3 w3.heap.size (cdv ⟨f, kd, ln, sz, [], 0, 0, [], 0⟩ none 0 0 none 0 0) c) := by
    show CdAt _ _ _ c
    rw [HCE.out]
    exact ⟨none, 0, 0, none, 0, 0, rfl, ⟨rfl, by simp, fun k hk => absurd hk (by omega)⟩, ⟨rfl, by simp, fun k hk => absurd hk (by omega)⟩, by omega, by omega, F0.out, F1.out, F2.out, F3.out, (by show Fit 0; decide), (by show Fit 0; decide), (by show Fit 0; decide)⟩
  go_upto_region 22 with fail
  clear k0'
  obtain ⟨e0, e1, e2, e3, e4, e5, e6, e7, e8⟩ := HG3.out.cells
  simp only at e0 e1 e2 e3 e4 e5 e6 e7 e8
  go_wp2_with fail
  refine (HWA.out _ w3.heap.size w3 HC3.out (Nat.le_refl _)).mono ?_
  rintro e wz ⟨rfl, bz⟩
  have HGz := Lib.hid (HG3.out.below bz HG3.out.lt)
  have HCz := Lib.hid ((HC3.out.below bz (Nat.le_refl _)).more bz.size)
  have HRz := Lib.hid (HR3.out.below bz HR3.out.lt)
  have HBz := Lib.hid (HB3.out.trans (bz.mono HB3.out.size))
  clear e0 e1 e2 e3 e4 e5 e6 e7 e8 bz
  obtain ⟨e0, e1, e2, e3, e4, e5, e6, e7, e8⟩ := HGz.out.cells
  simp only at e0 e1 e2 e3 e4 e5 e6 e7 e8
  obtain ⟨r0, r1, r2, r3, r4, r5, r6, r7, r8⟩ := HRz.out.cells
  have zr := HRz.out.fz
  rcases HZ.out with rfl | rfl
  · by_cases hts : t = s
    · subst hts
      have HE : Hid (readC t = (c, 0)) := by show _ = _; rw [HRC.out, if_pos rfl]
      clear HRC
      go_wp2
      clear e0 e1 e2 e3 e4 e5 e6 e7 e8 r0 r1 r2 r3 r4 r5 r6 r7 r8 zr
      have HR8 : Hid (CdRow (put9 wz w.heap.size ⟨f, kd, ln, sz, [], 0, 0, [], 0⟩ none 0 0 none 0 0) w.heap.size ⟨f, kd, ln, sz, [], 0, 0, [], 0⟩ none 0 0 none 0 0) := put9_row HRz.out
      have HB8 : Hid (Below w.heap.size w (put9 wz w.heap.size ⟨f, kd, ln, sz, [], 0, 0, [], 0⟩ none 0 0 none 0 0)) := put9_below HBz.out (Nat.le_refl _)
      have HC8 : Hid (CdAt (put9 wz w.heap.size ⟨f, kd, ln, sz, [], 0, 0, [], 0⟩ none 0 0 none 0 0) (put9 wz w.heap.size ⟨f, kd, ln, sz, [], 0, 0, [], 0⟩ none 0 0 none 0 0).heap.size (cdv ⟨f, kd, ln, sz, [], 0, 0, [], 0⟩ none 0 0 none 0 0) c) := by
        have h := HCz.out
        rw [HCE.out] at h
        show CdAt _ _ _ c
        rw [HCE.out]
        exact cd_put9 h (Nat.le_refl _) (Fresh.none _) (Fresh.none _)
      unfold put9 at HR8 HB8 HC8
      simp only at HR8 HB8 HC8
      generalize World.setCell _ ⟨w.heap.size, 8, none⟩ _ = w8 at *
      obtain ⟨r0, r1, r2, r3, r4, r5, r6, r7, r8⟩ := HR8.out.cells
      refine bodyPost_ret (v := .tuple #[cdv ⟨f, kd, ln, sz, [], 0, 0, [], 0⟩ none 0 0 none 0 0, .int .i64 0]) (by simp [results, Tryz.results70, go_sem, r0, r1, r2, r3, r4, r5, r6, r7, r8]) rfl ?_
      rw [HE.out]
      exact ⟨_, rfl, cd_new HC8.out (Fresh.none _) (Fresh.none _), HB8.out⟩
    · have HE : Hid (readC s = (zeroC, 15)) := by show _ = _; rw [HRC.out, if_neg (fun h => hts (by injection h))]
      have hl : t.toList ≠ s.toList := fun h => hts (ByteArray.ext (Array.ext' (by rw [ByteArray.toList_eq, ByteArray.toList_eq] at h; exact h)))
      have q1 : (t.toList == s.toList) = false := by simpa using hl
      have q2 : (t.toList != s.toList) = true := by simpa using hl
      clear HRC hts hl
      go_wp2
      clear e0 e1 e2 e3 e4 e5 e6 e7 e8 r0 r1 r2 r3 r4 r5 r6 r7 r8 zr
      have HR8 : Hid (CdRow (put9 wz w.heap.size zeroC none 0 0 none 0 0) w.heap.size zeroC none 0 0 none 0 0) := put9_row HRz.out
      have HB8 : Hid (Below w.heap.size w (put9 wz w.heap.size zeroC none 0 0 none 0 0)) := put9_below HBz.out (Nat.le_refl _)
      unfold put9 zeroC at HR8 HB8
      simp only at HR8 HB8
      generalize World.setCell _ ⟨w.heap.size, 8, none⟩ _ = w8 at *
      obtain ⟨r0, r1, r2, r3, r4, r5, r6, r7, r8⟩ := HR8.out.cells
      refine bodyPost_ret (v := .tuple #[cdv zeroC none 0 0 none 0 0, .int .i64 15]) (by simp [results, Tryz.results70, go_sem, r0, r1, r2, r3, r4, r5, r6, r7, r8, zeroC]) rfl ?_
      rw [HE.out]
      exact ⟨_, rfl, cdn_zero _ _, HB8.out⟩
  · have HE : Hid (readC s = (zeroC, 15)) := by show _ = _; rw [HRC.out, if_neg (fun h => by injection h with _ h; cases h)]
    clear HRC
    go_wp2
    clear e0 e1 e2 e3 e4 e5 e6 e7 e8 r0 r1 r2 r3 r4 r5 r6 r7 r8 zr
    have HR8 : Hid (CdRow (put9 wz w.heap.size zeroC none 0 0 none 0 0) w.heap.size zeroC none 0 0 none 0 0) := put9_row HRz.out
    have HB8 : Hid (Below w.heap.size w (put9 wz w.heap.size zeroC none 0 0 none 0 0)) := put9_below HBz.out (Nat.le_refl _)
    unfold put9 zeroC at HR8 HB8
    simp only at HR8 HB8
    generalize World.setCell _ ⟨w.heap.size, 8, none⟩ _ = w8 at *
    obtain ⟨r0, r1, r2, r3, r4, r5, r6, r7, r8⟩ := HR8.out.cells
    refine bodyPost_ret (v := .tuple #[cdv zeroC none 0 0 none 0 0, .int .i64 15]) (by simp [results, Tryz.results70, go_sem, r0, r1, r2, r3, r4, r5, r6, r7, r8, zeroC]) rfl ?_
    rw [HE.out]
    exact ⟨_, rfl, cdn_zero _ _, HB8.out⟩
end Go.Proofs.YtapjbffhihhnbaaGreat

namespace Go.Proofs.YtapjbffhihhnbaaGreat
open Go.RowKit

section
variable {w : World} {g : Nat} {kd ln sz sg db : Int} {ps : List Int} {A : Option Addr} {n k : Nat}
set_option maxRecDepth 100000 in
theorem set3_row (h : CdRow w g ⟨1, kd, ln, sz, [], 0, 0, [], 0⟩ none 0 0 none 0 0) : CdRow (((w.setCell ⟨g, 4, none⟩ (.slice A n k)).setCell ⟨g, 5, none⟩ (.int .i64 sg)).setCell ⟨g, 6, none⟩ (.int .i64 db)) g ⟨1, kd, ln, sz, ps, sg, db, [], 0⟩ A n k none 0 0 := by
  have h1 : CdRow (w.setCell ⟨g, 4, none⟩ (.slice A n k)) g ⟨1, kd, ln, sz, ps, 0, 0, [], 0⟩ A n k none 0 0 := row_set h rfl
  generalize w.setCell ⟨g, 4, none⟩ (.slice A n k) = w1 at *
  have h2 : CdRow (w1.setCell ⟨g, 5, none⟩ (.int .i64 sg)) g ⟨1, kd, ln, sz, ps, sg, 0, [], 0⟩ A n k none 0 0 := row_set h1 rfl
  generalize w1.setCell ⟨g, 5, none⟩ (.int .i64 sg) = w2 at *
  exact row_set h2 rfl
set_option maxRecDepth 100000 in
theorem set3_below {B : Nat} {w0 : World} (h : Below B w0 w) (hg : B ≤ g) : Below B w0 (((w.setCell ⟨g, 4, none⟩ (.slice A n k)).setCell ⟨g, 5, none⟩ (.int .i64 sg)).setCell ⟨g, 6, none⟩ (.int .i64 db)) :=
  ((h.setCell (p := ⟨g, 4, none⟩) hg _).setCell (p := ⟨g, 5, none⟩) hg _).setCell (p := ⟨g, 6, none⟩) hg _
set_option maxRecDepth 100000 in
theorem set3_cell {b : Nat} (hb : ¬ b = g) (o : Nat) : (((w.setCell ⟨g, 4, none⟩ (.slice A n k)).setCell ⟨g, 5, none⟩ (.int .i64 sg)).setCell ⟨g, 6, none⟩ (.int .i64 db)).cell? ⟨b, o, none⟩ = w.cell? ⟨b, o, none⟩ := by
  rw [set_cell_ne hb, set_cell_ne hb, set_cell_ne hb]
set_option maxRecDepth 100000 in
theorem set_other {q j : Nat} {v : Value} (h : q ≠ g) : (w.setCell ⟨g, j, none⟩ v).heap[q]? = w.heap[q]? := by
  show (w.heap.modify g _)[q]? = _
  rw [Array.getElem?_modify, if_neg (by omega)]
set_option maxRecDepth 100000 in
theorem set3_other {q : Nat} (h : q ≠ g) : (((w.setCell ⟨g, 4, none⟩ (.slice A n k)).setCell ⟨g, 5, none⟩ (.int .i64 sg)).setCell ⟨g, 6, none⟩ (.int .i64 db)).heap[q]? = w.heap[q]? := by
  rw [set_other h, set_other h, set_other h]
end

set_option maxRecDepth 100000 in
set_option maxHeartbeats 1000000 in
theorem rread1_new (s : ByteArray) (w : World) (hs : s.size = 32) (h1 : decF (bytesOf s) 0 1 = 1) : Calls Tryz.prog 70 #[.string s] w (RetCN w (readC s).1 (readC s).2) := by
  have hlen : (bytesOf s).length = 32 := by rw [bytesOf_len, hs]
  have HRC := Lib.hid (ref_read hs)
  have HRA := Lib.hid (fun (A : Option Addr) (n c B : Nat) (v : World) (hr : IntsAt v B A n [1, 1, 2, 4]) (hB : B ≤ v.heap.size) (hn : n ≤ 17592186044416) => rread_new A n c B [1, 1, 2, 4] s v hr hB hn (by omega))
  rw [readH hlen] at HRA
  have hne : ((s.size : Int) != 32) = false := by simp [hs]
  have HF : Hid (∀ a n, n ≤ 4 → Fit (decF (bytesOf s) a n)) := fun a n hn => cd_fit _ (bytesOf_bd s) a n hn
  have hC : refCard (bytesOf s) = ⟨1, decF (bytesOf s) 1 1, decF (bytesOf s) 2 2, decF (bytesOf s) 4 4, [decF (bytesOf s) 8 2, decF (bytesOf s) 10 2, decF (bytesOf s) 12 2, decF (bytesOf s) 14 2], decF (bytesOf s) 16 2, decF (bytesOf s) 18 2, [], 0⟩ := by unfold refCard cardD; rw [if_neg (by rw [h1]; decide), if_pos h1, if_pos h1]
  generalize refCard (bytesOf s) = c at *
  have HCE := Lib.hid hC
  have HRP := Lib.hid (fun (A : Option Addr) (n c B : Nat) (v : World) (hr : IntsAt v B A n [2, 2, 2, 2, 2, 2]) (hB : B ≤ v.heap.size) (hn : n ≤ 17592186044416) => rread_new A n c B [2, 2, 2, 2, 2, 2] (s.extract 8 s.size) v hr hB hn (by rw [ByteArray.size_extract]; omega))
  rw [readP hs] at HRP
  have HWA : Hid (∀ (v : Value) (B : Nat) (w : World), CdAt w B v c → B ≤ w.heap.size → Calls Tryz.prog 71 #[v] w fun e w' => e = .returned (.tuple #[.string (writeC c).1, .int .i64 (writeC c).2]) ∧ Below w.heap.size w w') := fun v B w hc hB => rwrite9_any v c B w hc hB
  obtain ⟨t, z, hw⟩ : ∃ t z, writeC c = (t, z) := ⟨_, _, rfl⟩
  rw [hw] at HWA HRC
  have HZ : Hid (z = 0 ∨ z = 1) := by
    show _ ∨ _
    cases hr : rightC c with
    | false => rw [writeC_no hr] at hw; injection hw with _ h; exact Or.inr h.symm
    | true => rw [writeC_ok hr] at hw; injection hw with _ h; exact Or.inl h.symm
  clear hw
  have H1 := Lib.hid h1
  have hs8 : 8 ≤ s.size := by omega
  have hs9 : (8 : Int) ≤ (s.size : Int) := by omega
  clear hlen hs hC h1
  go_enter Tryz.func70, Tryz.ntmps70
  go_wp2_with fail
  have HRr : Hid (CdRow ((w.alloc (.cells #[.int .i64 0, .int .i64 0, .int .i64 0, .int .i64 0, .slice none 0 0, .int .i64 0, .int .i64 0, .slice none 0 0, .int .i64 0] 40)).alloc (.cells #[.int .i64 0, .int .i64 0, .int .i64 0, .int .i64 0, .slice none 0 0, .int .i64 0, .int .i64 0, .slice none 0 0, .int .i64 0] 40)) w.heap.size zeroC none 0 0 none 0 0) := (CdRow.new w zeroC none 0 0 none 0 0).below ((Below.refl _ _).alloc (Nat.le_refl _) _) (by simp)
  have HGg : Hid (CdRow ((w.alloc (.cells #[.int .i64 0, .int .i64 0, .int .i64 0, .int .i64 0, .slice none 0 0, .int .i64 0, .int .i64 0, .slice none 0 0, .int .i64 0] 40)).alloc (.cells #[.int .i64 0, .int .i64 0, .int .i64 0, .int .i64 0, .slice none 0 0, .int .i64 0, .int .i64 0, .slice none 0 0, .int .i64 0] 40)) (w.heap.size + 1) zeroC none 0 0 none 0 0) := row_new1 w _ zeroC none 0 0 none 0 0
  have HBb : Hid (Below w.heap.size w ((w.alloc (.cells #[.int .i64 0, .int .i64 0, .int .i64 0, .int .i64 0, .slice none 0 0, .int .i64 0, .int .i64 0, .slice none 0 0, .int .i64 0] 40)).alloc (.cells #[.int .i64 0, .int .i64 0, .int .i64 0, .int .i64 0, .slice none 0 0, .int .i64 0, .int .i64 0, .slice none 0 0, .int .i64 0] 40))) := ((Below.refl _ _).alloc (Nat.le_refl _) _).alloc (by simp) _
  have HSs : Hid (((w.alloc (.cells #[.int .i64 0, .int .i64 0, .int .i64 0, .int .i64 0, .slice none 0 0, .int .i64 0, .int .i64 0, .slice none 0 0, .int .i64 0] 40)).alloc (.cells #[.int .i64 0, .int .i64 0, .int .i64 0, .int .i64 0, .slice none 0 0, .int .i64 0, .int .i64 0, .slice none 0 0, .int .i64 0] 40)).heap.size = w.heap.size + 1 + 1) := by show _ = _; simp
  generalize (w.alloc (.cells #[.int .i64 0, .int .i64 0, .int .i64 0, .int .i64 0, .slice none 0 0, .int .i64 0, .int .i64 0, .slice none 0 0, .int .i64 0] 40)).alloc (.cells #[.int .i64 0, .int .i64 0, .int .i64 0, .int .i64 0, .slice none 0 0, .int .i64 0, .int .i64 0, .slice none 0 0, .int .i64 0] 40) = w1 at *
  have I4 : IntsAt (w1.alloc (.cells #[.int .i64 1, .int .i64 1, .int .i64 2, .int .i64 4] 3)) (w1.heap.size + 1) (some ⟨w.heap.size + 1 + 1, 0, none⟩) 4 [1, 1, 2, 4] := by
    rw [← HSs.out]; exact ints_new (w := w1) [1, 1, 2, 4] (by decide)
  have I4' := Lib.hid I4
  clear I4
  (with_reducible refine (HRA.out _ _ _ _ _ I4'.out (by simp) (by decide)).mono ?_)
  rintro e w2 ⟨A2, n2, c2, rfl, hc2, fr2, i2, b2⟩
  have hn2 : 4 = n2 := i2.len
  subst hn2
  obtain ⟨b, o, rfl, hbw, -⟩ := i2.at_ (k := 0) (by omega)
  have hb2 : Below w1.heap.size w1 w2 := (Below.al (Below.refl w1.heap.size w1) (Nat.le_refl _)).trans (b2.mono (by simp))
  have HR2 := Lib.hid (HRr.out.below hb2 HRr.out.lt)
  have HG2 := Lib.hid (HGg.out.below hb2 HGg.out.lt)
  have HB2 := Lib.hid (HBb.out.trans (hb2.mono HBb.out.size))
  have hbf : w.heap.size + 1 < b := by have h1 := fr2 b o rfl; have h2 := HSs.out; simp only [World.size_alloc] at h1; omega
  have k0 : w2.cell? ⟨b, o, none⟩ = some (.int .i64 (decF (bytesOf s) 0 1)) := by
    obtain ⟨b', o', e, _, h⟩ := i2.at_ (k := 0) (by omega)
    cases e; exact h
  have k1 : w2.cell? ⟨b, o + 1, none⟩ = some (.int .i64 (decF (bytesOf s) 1 1)) := by
    obtain ⟨b', o', e, _, h⟩ := i2.at_ (k := 1) (by omega)
    cases e; exact h
  have k2 : w2.cell? ⟨b, o + 2, none⟩ = some (.int .i64 (decF (bytesOf s) 2 2)) := by
    obtain ⟨b', o', e, _, h⟩ := i2.at_ (k := 2) (by omega)
    cases e; exact h
  have k3 : w2.cell? ⟨b, o + 3, none⟩ = some (.int .i64 (decF (bytesOf s) 4 4)) := by
    obtain ⟨b', o', e, _, h⟩ := i2.at_ (k := 3) (by omega)
    cases e; exact h
  clear b2 hb2 i2 fr2 HRr HGg HBb HSs HRA
  rw [H1.out] at k0
  unfold fieldsP at HRP
  have F_kd := Lib.hid (HF.out 1 1 (by omega))
  have F_ln := Lib.hid (HF.out 2 2 (by omega))
  have F_sz := Lib.hid (HF.out 4 4 (by omega))
  have F_p0 := Lib.hid (HF.out 8 2 (by omega))
  have F_p1 := Lib.hid (HF.out 10 2 (by omega))
  have F_p2 := Lib.hid (HF.out 12 2 (by omega))
  have F_p3 := Lib.hid (HF.out 14 2 (by omega))
  have F_p4 := Lib.hid (HF.out 16 2 (by omega))
  have F_p5 := Lib.hid (HF.out 18 2 (by omega))
  clear HF H1
  generalize decF (bytesOf s) 1 1 = kd at *
  generalize decF (bytesOf s) 2 2 = ln at *
  generalize decF (bytesOf s) 4 4 = sz at *
  generalize decF (bytesOf s) 8 2 = p0 at *
  generalize decF (bytesOf s) 10 2 = p1 at *
  generalize decF (bytesOf s) 12 2 = p2 at *
  generalize decF (bytesOf s) 14 2 = p3 at *
  generalize decF (bytesOf s) 16 2 = p4 at *
  generalize decF (bytesOf s) 18 2 = p5 at *
  have hbn : ¬ b = w.heap.size + 1 := by omega
  have hbn' : ¬ w.heap.size + 1 = b := by omega
  obtain ⟨e0, e1, e2, e3, e4, e5, e6, e7, e8⟩ := HG2.out.cells
  have zg := HG2.out.fz
  go_upto_region 10 with fail
  have HG3 : Hid (CdRow ((((w2.setCell ⟨w.heap.size + 1, 0, none⟩ (.int .i64 1)).setCell ⟨w.heap.size + 1, 1, none⟩ (.int .i64 kd)).setCell ⟨w.heap.size + 1, 2, none⟩ (.int .i64 ln)).setCell ⟨w.heap.size + 1, 3, none⟩ (.int .i64 sz)) (w.heap.size + 1) ⟨1, kd, ln, sz, [], 0, 0, [], 0⟩ none 0 0 none 0 0) := set4_row HG2.out
  have hb3 : Below (w.heap.size + 1) w2 ((((w2.setCell ⟨w.heap.size + 1, 0, none⟩ (.int .i64 1)).setCell ⟨w.heap.size + 1, 1, none⟩ (.int .i64 kd)).setCell ⟨w.heap.size + 1, 2, none⟩ (.int .i64 ln)).setCell ⟨w.heap.size + 1, 3, none⟩ (.int .i64 sz)) := set4_below (Below.refl _ _) (Nat.le_refl _)
  have HR3 := Lib.hid (HR2.out.below hb3 (Nat.lt_succ_self _))
  have HB3 := Lib.hid (HB2.out.trans (hb3.mono (Nat.le_succ _)))
  have k0' : ((((w2.setCell ⟨w.heap.size + 1, 0, none⟩ (.int .i64 1)).setCell ⟨w.heap.size + 1, 1, none⟩ (.int .i64 kd)).setCell ⟨w.heap.size + 1, 2, none⟩ (.int .i64 ln)).setCell ⟨w.heap.size + 1, 3, none⟩ (.int .i64 sz)).cell? ⟨b, o, none⟩ = some (.int .i64 1) := (set4_cell hbn o).trans k0
  clear e0 e1 e2 e3 e4 e5 e6 e7 e8 zg hb3 k0 k1 k2 k3 HG2 HR2 HB2
  generalize ((((w2.setCell ⟨w.heap.size + 1, 0, none⟩ (.int .i64 1)).setCell ⟨w.heap.size + 1, 1, none⟩ (.int .i64 kd)).setCell ⟨w.heap.size + 1, 2, none⟩ (.int .i64 ln)).setCell ⟨w.heap.size + 1, 3, none⟩ (.int .i64 sz)) = w3 at *
  have hg3 := HG3.out.lt
  have I6 : Hid (IntsAt (w3.alloc (.cells #[.int .i64 2, .int .i64 2, .int .i64 2, .int .i64 2, .int .i64 2, .int .i64 2] 3)) (w3.heap.size + 1) (some ⟨w3.heap.size, 0, none⟩) 6 [2, 2, 2, 2, 2, 2]) := ints_new (w := w3) [2, 2, 2, 2, 2, 2] (by decide)
  go_wp2_with fail
  (with_reducible refine (HRP.out _ _ _ _ _ I6.out (by simp) (by decide)).mono ?_)
  rintro e w4 ⟨A4, n4, c4, rfl, hc4, fr4, i4, b4⟩
  have hn4 : 6 = n4 := i4.len
  subst hn4
  obtain ⟨b', o', rfl, hbw', -⟩ := i4.at_ (k := 0) (by omega)
  have hb4 : Below w3.heap.size w3 w4 := (Below.al (Below.refl w3.heap.size w3) (Nat.le_refl _)).trans (b4.mono (by simp))
  have HR4 := Lib.hid (HR3.out.below hb4 HR3.out.lt)
  have HG4 := Lib.hid (HG3.out.below hb4 hg3)
  have HB4 := Lib.hid (HB3.out.trans (hb4.mono HB3.out.size))
  have hbf' : w.heap.size + 1 < b' := by have h1 := fr4 b' o' rfl; simp only [World.size_alloc] at h1; omega
  have k0 := bcell hb4 k0' (World.block_lt_of_cell? w3 _ k0')
  have m0 : w4.cell? ⟨b', o', none⟩ = some (.int .i64 p0) := by
    obtain ⟨b1, o1, e, _, h⟩ := i4.at_ (k := 0) (by omega)
    cases e; exact h
  have m1 : w4.cell? ⟨b', o' + 1, none⟩ = some (.int .i64 p1) := by
    obtain ⟨b1, o1, e, _, h⟩ := i4.at_ (k := 1) (by omega)
    cases e; exact h
  have m2 : w4.cell? ⟨b', o' + 2, none⟩ = some (.int .i64 p2) := by
    obtain ⟨b1, o1, e, _, h⟩ := i4.at_ (k := 2) (by omega)
    cases e; exact h
  have m3 : w4.cell? ⟨b', o' + 3, none⟩ = some (.int .i64 p3) := by
    obtain ⟨b1, o1, e, _, h⟩ := i4.at_ (k := 3) (by omega)
    cases e; exact h
  have m4 : w4.cell? ⟨b', o' + 4, none⟩ = some (.int .i64 p4) := by
    obtain ⟨b1, o1, e, _, h⟩ := i4.at_ (k := 4) (by omega)
    cases e; exact h
  have m5 : w4.cell? ⟨b', o' + 5, none⟩ = some (.int .i64 p5) := by
    obtain ⟨b1, o1, e, _, h⟩ := i4.at_ (k := 5) (by omega)
    cases e; exact h
  have HI4 : Hid (IntsAt w4 w4.heap.size (some ⟨b', o', none⟩) 4 [p0, p1, p2, p3]) := i4.take 4 (by omega)
  clear b4 hb4 i4 fr4 HR3 HG3 HB3 HRP k0' I6
  have hn1 : ¬ b' = w.heap.size + 1 := by omega
  have hn1' : ¬ w.heap.size + 1 = b' := by omega
  obtain ⟨e0, e1, e2, e3, e4, e5, e6, e7, e8⟩ := HG4.out.cells
  have zg := HG4.out.fz
  go_upto_region 15 with fail
  have HG5 : Hid (CdRow (((w4.setCell ⟨w.heap.size + 1, 4, none⟩ (.slice (some ⟨b', o', none⟩) 4 c4)).setCell ⟨w.heap.size + 1, 5, none⟩ (.int .i64 p4)).setCell ⟨w.heap.size + 1, 6, none⟩ (.int .i64 p5)) (w.heap.size + 1) ⟨1, kd, ln, sz, [p0, p1, p2, p3], p4, p5, [], 0⟩ (some ⟨b', o', none⟩) 4 c4 none 0 0) := set3_row HG4.out
  have hb5 : Below (w.heap.size + 1) w4 (((w4.setCell ⟨w.heap.size + 1, 4, none⟩ (.slice (some ⟨b', o', none⟩) 4 c4)).setCell ⟨w.heap.size + 1, 5, none⟩ (.int .i64 p4)).setCell ⟨w.heap.size + 1, 6, none⟩ (.int .i64 p5)) := set3_below (Below.refl _ _) (Nat.le_refl _)
  have HR5 := Lib.hid (HR4.out.below hb5 (Nat.lt_succ_self _))
  have HB5 := Lib.hid (HB4.out.trans (hb5.mono (Nat.le_succ _)))
  have k0' : (((w4.setCell ⟨w.heap.size + 1, 4, none⟩ (.slice (some ⟨b', o', none⟩) 4 c4)).setCell ⟨w.heap.size + 1, 5, none⟩ (.int .i64 p4)).setCell ⟨w.heap.size + 1, 6, none⟩ (.int .i64 p5)).cell? ⟨b, o, none⟩ = some (.int .i64 1) := (set3_cell hbn o).trans k0
  have HI5 : Hid (IntsAt (((w4.setCell ⟨w.heap.size + 1, 4, none⟩ (.slice (some ⟨b', o', none⟩) 4 c4)).setCell ⟨w.heap.size + 1, 5, none⟩ (.int .i64 p4)).setCell ⟨w.heap.size + 1, 6, none⟩ (.int .i64 p5)) (((w4.setCell ⟨w.heap.size + 1, 4, none⟩ (.slice (some ⟨b', o', none⟩) 4 c4)).setCell ⟨w.heap.size + 1, 5, none⟩ (.int .i64 p4)).setCell ⟨w.heap.size + 1, 6, none⟩ (.int .i64 p5)).heap.size (some ⟨b', o', none⟩) 4 [p0, p1, p2, p3]) := (IntsAt.apart (r := w.heap.size + 1) HI4.out (fun q x e => by injection e with e; injection e with e1; omega) (fun q hq => set3_other hq)).more hb5.size
  clear e0 e1 e2 e3 e4 e5 e6 e7 e8 zg hb5 k0 m0 m1 m2 m3 m4 m5 HG4 HR4 HB4
  generalize (((w4.setCell ⟨w.heap.size + 1, 4, none⟩ (.slice (some ⟨b', o', none⟩) 4 c4)).setCell ⟨w.heap.size + 1, 5, none⟩ (.int .i64 p4)).setCell ⟨w.heap.size + 1, 6, none⟩ (.int .i64 p5)) = w5 at *
  have HC5 : Hid (CdAt w5 w5.heap.size (cdv ⟨1, kd, ln, sz, [p0, p1, p2, p3], p4, p5, [], 0⟩ (some ⟨b', o', none⟩) 4 c4 none 0 0) c) := by
    show CdAt _ _ _ c
    rw [HCE.out]
    exact ⟨_, 4, c4, none, 0, 0, rfl, HI5.out, ⟨rfl, by simp, fun k hk => absurd hk (by omega)⟩, by omega, by omega, (by show Fit 1; decide), F_kd.out, F_ln.out, F_sz.out, F_p4.out, F_p5.out, (by show Fit 0; decide)⟩
  go_upto_region 22 with fail
  clear k0'
  obtain ⟨e0, e1, e2, e3, e4, e5, e6, e7, e8⟩ := HG5.out.cells
  simp only at e0 e1 e2 e3 e4 e5 e6 e7 e8
  go_wp2_with fail
  refine (HWA.out _ w5.heap.size w5 HC5.out (Nat.le_refl _)).mono ?_
  rintro e wz ⟨rfl, bz⟩
  have HGz := Lib.hid (HG5.out.below bz HG5.out.lt)
  have HCz := Lib.hid ((HC5.out.below bz (Nat.le_refl _)).more bz.size)
  have HRz := Lib.hid (HR5.out.below bz HR5.out.lt)
  have HBz := Lib.hid (HB5.out.trans (bz.mono HB5.out.size))
  clear e0 e1 e2 e3 e4 e5 e6 e7 e8 bz
  obtain ⟨e0, e1, e2, e3, e4, e5, e6, e7, e8⟩ := HGz.out.cells
  simp only at e0 e1 e2 e3 e4 e5 e6 e7 e8
  obtain ⟨r0, r1, r2, r3, r4, r5, r6, r7, r8⟩ := HRz.out.cells
  have zr := HRz.out.fz
  rcases HZ.out with rfl | rfl
  · by_cases hts : t = s
    · subst hts
      have HE : Hid (readC t = (c, 0)) := by show _ = _; rw [HRC.out, if_pos rfl]
      clear HRC
      go_wp2
      clear e0 e1 e2 e3 e4 e5 e6 e7 e8 r0 r1 r2 r3 r4 r5 r6 r7 r8 zr
      have HR8 : Hid (CdRow (put9 wz w.heap.size ⟨1, kd, ln, sz, [p0, p1, p2, p3], p4, p5, [], 0⟩ (some ⟨b', o', none⟩) 4 c4 none 0 0) w.heap.size ⟨1, kd, ln, sz, [p0, p1, p2, p3], p4, p5, [], 0⟩ (some ⟨b', o', none⟩) 4 c4 none 0 0) := put9_row HRz.out
      have HB8 : Hid (Below w.heap.size w (put9 wz w.heap.size ⟨1, kd, ln, sz, [p0, p1, p2, p3], p4, p5, [], 0⟩ (some ⟨b', o', none⟩) 4 c4 none 0 0)) := put9_below HBz.out (Nat.le_refl _)
      have HC8 : Hid (CdAt (put9 wz w.heap.size ⟨1, kd, ln, sz, [p0, p1, p2, p3], p4, p5, [], 0⟩ (some ⟨b', o', none⟩) 4 c4 none 0 0) (put9 wz w.heap.size ⟨1, kd, ln, sz, [p0, p1, p2, p3], p4, p5, [], 0⟩ (some ⟨b', o', none⟩) 4 c4 none 0 0).heap.size (cdv ⟨1, kd, ln, sz, [p0, p1, p2, p3], p4, p5, [], 0⟩ (some ⟨b', o', none⟩) 4 c4 none 0 0) c) := by
        have h := HCz.out
        rw [HCE.out] at h
        show CdAt _ _ _ c
        rw [HCE.out]
        exact cd_put9 h (Nat.le_refl _) (fun q x e => by injection e with e; injection e with e1; omega) (Fresh.none _)
      unfold put9 at HR8 HB8 HC8
      simp only at HR8 HB8 HC8
      generalize World.setCell _ ⟨w.heap.size, 8, none⟩ _ = w8 at *
      obtain ⟨r0, r1, r2, r3, r4, r5, r6, r7, r8⟩ := HR8.out.cells
      refine bodyPost_ret (v := .tuple #[cdv ⟨1, kd, ln, sz, [p0, p1, p2, p3], p4, p5, [], 0⟩ (some ⟨b', o', none⟩) 4 c4 none 0 0, .int .i64 0]) (by simp [results, Tryz.results70, go_sem, r0, r1, r2, r3, r4, r5, r6, r7, r8]) rfl ?_
      rw [HE.out]
      exact ⟨_, rfl, cd_new HC8.out (fun q x e => by injection e with e; injection e with e1; omega) (Fresh.none _), HB8.out⟩
    · have HE : Hid (readC s = (zeroC, 15)) := by show _ = _; rw [HRC.out, if_neg (fun h => hts (by injection h))]
      have hl : t.toList ≠ s.toList := fun h => hts (ByteArray.ext (Array.ext' (by rw [ByteArray.toList_eq, ByteArray.toList_eq] at h; exact h)))
      have q1 : (t.toList == s.toList) = false := by simpa using hl
      have q2 : (t.toList != s.toList) = true := by simpa using hl
      clear HRC hts hl
      go_wp2
      clear e0 e1 e2 e3 e4 e5 e6 e7 e8 r0 r1 r2 r3 r4 r5 r6 r7 r8 zr
      have HR8 : Hid (CdRow (put9 wz w.heap.size zeroC none 0 0 none 0 0) w.heap.size zeroC none 0 0 none 0 0) := put9_row HRz.out
      have HB8 : Hid (Below w.heap.size w (put9 wz w.heap.size zeroC none 0 0 none 0 0)) := put9_below HBz.out (Nat.le_refl _)
      unfold put9 zeroC at HR8 HB8
      simp only at HR8 HB8
      generalize World.setCell _ ⟨w.heap.size, 8, none⟩ _ = w8 at *
      obtain ⟨r0, r1, r2, r3, r4, r5, r6, r7, r8⟩ := HR8.out.cells
      refine bodyPost_ret (v := .tuple #[cdv zeroC none 0 0 none 0 0, .int .i64 15]) (by simp [results, Tryz.results70, go_sem, r0, r1, r2, r3, r4, r5, r6, r7, r8, zeroC]) rfl ?_
      rw [HE.out]
      exact ⟨_, rfl, cdn_zero _ _, HB8.out⟩
  · have HE : Hid (readC s = (zeroC, 15)) := by show _ = _; rw [HRC.out, if_neg (fun h => by injection h with _ h; cases h)]
    clear HRC
    go_wp2
    clear e0 e1 e2 e3 e4 e5 e6 e7 e8 r0 r1 r2 r3 r4 r5 r6 r7 r8 zr
    have HR8 : Hid (CdRow (put9 wz w.heap.size zeroC none 0 0 none 0 0) w.heap.size zeroC none 0 0 none 0 0) := put9_row HRz.out
    have HB8 : Hid (Below w.heap.size w (put9 wz w.heap.size zeroC none 0 0 none 0 0)) := put9_below HBz.out (Nat.le_refl _)
    unfold put9 zeroC at HR8 HB8
    simp only at HR8 HB8
    generalize World.setCell _ ⟨w.heap.size, 8, none⟩ _ = w8 at *
    obtain ⟨r0, r1, r2, r3, r4, r5, r6, r7, r8⟩ := HR8.out.cells
    refine bodyPost_ret (v := .tuple #[cdv zeroC none 0 0 none 0 0, .int .i64 15]) (by simp [results, Tryz.results70, go_sem, r0, r1, r2, r3, r4, r5, r6, r7, r8, zeroC]) rfl ?_
    rw [HE.out]
    exact ⟨_, rfl, cdn_zero _ _, HB8.out⟩
end Go.Proofs.YtapjbffhihhnbaaGreat
