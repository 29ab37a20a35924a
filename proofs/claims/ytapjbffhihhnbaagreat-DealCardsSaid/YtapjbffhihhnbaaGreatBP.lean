/-
  WALK: the reference's Read returns the card whose bytes a text is, or that it is none's. The format is Two. Condition: the text has 32 bytes.
  WALK: the reference's Read returns the card whose bytes a text is, or that it is none's. Condition: a length that an int64 counts.
-/
import Derived.Test.YtapjbffhihhnbaaGreatBO
import Derived.Test.YtapjbffhihhnbaaGreatBJ
import Derived.Test.YtapjbffhihhnbaaGreatBN
namespace Go.Proofs.YtapjbffhihhnbaaGreat
open Go.RowKit

/-- what is so at the head of the reference's loop over the runs. -/
def RunSt2 (w : World) (bs : List Int) (b o B0 m : Nat) (kd ln sz : Int) (u11 : Value) (wr : World) : Prop :=
  ∃ j A' k', j ≤ m ∧ u11 = .int .i64 (j : Int) ∧
    CdRow wr (w.heap.size + 1) ⟨2, kd, ln, sz, [], 0, 0, [], 0⟩ none 0 0 A' j k' ∧ wr.ownsRow B0 121 3 (.slice A' j k') j (spsCells (runsD bs j)) ∧ CdRow wr w.heap.size zeroC none 0 0 none 0 0 ∧
    Hid (B0 ≤ wr.heap.size ∧ ∀ k, k < 11 → wr.cell? ⟨b, o + k, none⟩ = some (.int .i64 ((fieldsN bs).getD k 0))) ∧ Below w.heap.size w wr
section
variable {wr : World} {bs : List Int} {b o j : Nat}
set_option maxRecDepth 100000 in
theorem fldN0 (h : ∀ k, k < 11 → wr.cell? ⟨b, o + k, none⟩ = some (.int .i64 ((fieldsN bs).getD k 0))) (hj : j < 3) : wr.cell? ⟨b, o + (1 + 3 * j), none⟩ = some (.int .i64 (decF bs (9 + 6 * j) 2)) := by
  rw [h _ (by omega)]
  have : j = 0 ∨ j = 1 ∨ j = 2 := by omega
  rcases this with rfl | rfl | rfl <;> rfl
set_option maxRecDepth 100000 in
theorem fldN1 (h : ∀ k, k < 11 → wr.cell? ⟨b, o + k, none⟩ = some (.int .i64 ((fieldsN bs).getD k 0))) (hj : j < 3) : wr.cell? ⟨b, o + (2 + 3 * j), none⟩ = some (.int .i64 (decF bs (11 + 6 * j) 2)) := by
  rw [h _ (by omega)]
  have : j = 0 ∨ j = 1 ∨ j = 2 := by omega
  rcases this with rfl | rfl | rfl <;> rfl
set_option maxRecDepth 100000 in
theorem fldN2 (h : ∀ k, k < 11 → wr.cell? ⟨b, o + k, none⟩ = some (.int .i64 ((fieldsN bs).getD k 0))) (hj : j < 3) : wr.cell? ⟨b, o + (3 + 3 * j), none⟩ = some (.int .i64 (decF bs (13 + 6 * j) 2)) := by
  rw [h _ (by omega)]
  have : j = 0 ∨ j = 1 ∨ j = 2 := by omega
  rcases this with rfl | rfl | rfl <;> rfl
end

set_option maxRecDepth 100000 in
set_option maxHeartbeats 4000000 in
theorem rread2_new (s : ByteArray) (w : World) (hs : s.size = 32) (h2 : decF (bytesOf s) 0 1 = 2) : Calls Tryz.prog 70 #[.string s] w (RetCN w (readC s).1 (readC s).2) := by
  have hlen : (bytesOf s).length = 32 := by rw [bytesOf_len, hs]
  have HRC := Lib.hid (ref_read hs)
  have HRA := Lib.hid (fun (A : Option Addr) (n c B : Nat) (v : World) (hr : IntsAt v B A n [1, 1, 2, 4]) (hB : B ≤ v.heap.size) (hn : n ≤ 17592186044416) => rread_new A n c B [1, 1, 2, 4] s v hr hB hn (by omega))
  rw [readH hlen] at HRA
  have hne : ((s.size : Int) != 32) = false := by simp [hs]
  have HF : Hid (∀ a n, n ≤ 4 → Fit (decF (bytesOf s) a n)) := fun a n hn => cd_fit _ (bytesOf_bd s) a n hn
  have hC : refCard (bytesOf s) = ⟨2, decF (bytesOf s) 1 1, decF (bytesOf s) 2 2, decF (bytesOf s) 4 4, [], 0, 0, runsD (bytesOf s) (cntD (bytesOf s)), decF (bytesOf s) 27 2⟩ := by unfold refCard cardD; rw [if_neg (by rw [h2]; decide), if_neg (by rw [h2]; decide), if_pos h2, if_neg (by rw [h2]; decide), if_pos h2]
  generalize refCard (bytesOf s) = c at *
  have HCE := Lib.hid hC
  have HRP := Lib.hid (fun (A : Option Addr) (n c B : Nat) (v : World) (hr : IntsAt v B A n [1, 2, 2, 2, 2, 2, 2, 2, 2, 2, 2]) (hB : B ≤ v.heap.size) (hn : n ≤ 17592186044416) => rread_new A n c B [1, 2, 2, 2, 2, 2, 2, 2, 2, 2, 2] (s.extract 8 s.size) v hr hB hn (by rw [ByteArray.size_extract]; omega))
  rw [readN hs] at HRP
  have hcz := decF_bd (bytesOf s) (bytesOf_bd s) 1 8
  have HM : Hid (∃ m : Nat, m ≤ 3 ∧ cntD (bytesOf s) = m ∧ ((decF (bytesOf s) 8 1 = (m : Int)) ∨ (3 < decF (bytesOf s) 8 1 ∧ 3 ≤ m))) := by
    show ∃ m : Nat, _
    unfold cntD
    by_cases h : decF (bytesOf s) 8 1 ≤ 3
    · exact ⟨(decF (bytesOf s) 8 1).toNat, by omega, by omega, Or.inl (by omega)⟩
    · exact ⟨3, by omega, by omega, Or.inr ⟨by omega, by omega⟩⟩
  obtain ⟨m, hm3, hmc, hmm⟩ := HM.out
  have HMC := Lib.hid hmc
  clear HM hmc hcz
  have HWA : Hid (∀ (v : Value) (B : Nat) (w : World), CdAt w B v c → B ≤ w.heap.size → Calls Tryz.prog 71 #[v] w fun e w' => e = .returned (.tuple #[.string (writeC c).1, .int .i64 (writeC c).2]) ∧ Below w.heap.size w w') := fun v B w hc hB => rwrite9_any v c B w hc hB
  obtain ⟨t, z, hw⟩ : ∃ t z, writeC c = (t, z) := ⟨_, _, rfl⟩
  rw [hw] at HWA HRC
  have HZ : Hid (z = 0 ∨ z = 1) := by
    show _ ∨ _
    cases hr : rightC c with
    | false => rw [writeC_no hr] at hw; injection hw with _ h; exact Or.inr h.symm
    | true => rw [writeC_ok hr] at hw; injection hw with _ h; exact Or.inl h.symm
  clear hw
  have H2 := Lib.hid h2
  have hs8 : 8 ≤ s.size := by omega
  have hs9 : (8 : Int) ≤ (s.size : Int) := by omega
  clear hlen hs hC h2
  go_enter Tryz.func70, Tryz.ntmps70
  go_wp2_with fail
  have HRr : Hid (CdRow ((w.alloc (.cells #[.int .i64 0, .int .i64 0, .int .i64 0, .int .i64 0, .slice none 0 0, .int .i64 0, .int .i64 0, .slice none 0 0, .int .i64 0] 40)).alloc (.cells #[.int .i64 0, .int .i64 0, .int .i64 0, .int .i64 0, .slice none 0 0, .int .i64 0, .int .i64 0, .slice none 0 0, .int .i64 0] 40)) w.heap.size zeroC none 0 0 none 0 0) := (CdRow.new w zeroC none 0 0 none 0 0).below ((Below.refl _ _).alloc (Nat.le_refl _) _) (by simp)
  have HGg : Hid (CdRow ((w.alloc (.cells #[.int .i64 0, .int .i64 0, .int .i64 0, .int .i64 0, .slice none 0 0, .int .i64 0, .int .i64 0, .slice none 0 0, .int .i64 0] 40)).alloc (.cells #[.int .i64 0, .int .i64 0, .int .i64 0, .int .i64 0, .slice none 0 0, .int .i64 0, .int .i64 0, .slice none 0 0, .int .i64 0] 40)) (w.heap.size + 1) zeroC none 0 0 none 0 0) := row_new1 w _ zeroC none 0 0 none 0 0
  have HBb : Hid (Below w.heap.size w ((w.alloc (.cells #[.int .i64 0, .int .i64 0, .int .i64 0, .int .i64 0, .slice none 0 0, .int .i64 0, .int .i64 0, .slice none 0 0, .int .i64 0] 40)).alloc (.cells #[.int .i64 0, .int .i64 0, .int .i64 0, .int .i64 0, .slice none 0 0, .int .i64 0, .int .i64 0, .slice none 0 0, .int .i64 0] 40))) := ((Below.refl _ _).alloc (Nat.le_refl _) _).alloc (by simp) _
  have HSs : Hid (((w.alloc (.cells #[.int .i64 0, .int .i64 0, .int .i64 0, .int .i64 0, .slice none 0 0, .int .i64 0, .int .i64 0, .slice none 0 0, .int .i64 0] 40)).alloc (.cells #[.int .i64 0, .int .i64 0, .int .i64 0, .int .i64 0, .slice none 0 0, .int .i64 0, .int .i64 0, .slice none 0 0, .int .i64 0] 40)).heap.size = w.heap.size + 1 + 1) := by show _ = _; simp
  generalize (w.alloc (.cells #[.int .i64 0, .int .i64 0, .int .i64 0, .int .i64 0, .slice none 0 0, .int .i64 0, .int .i64 0, .slice none 0 0, .int .i64 0] 40)).alloc (.cells #[.int .i64 0, .int .i64 0, .int .i64 0, .int .i64 0, .slice none 0 0, .int .i64 0, .int .i64 0, .slice none 0 0, .int .i64 0] 40) = w1 at *
  have I4 : IntsAt (w1.alloc (.cells #[.int .i64 1, .int .i64 1, .int .i64 2, .int .i64 4] 3)) (w1.heap.size + 1) (some ⟨w.heap.size + 1 + 1, 0, none⟩) 4 [1, 1, 2, 4] := by
    rw [← HSs.out]; exact ints_new (w := w1) [1, 1, 2, 4] (by decide)
  have I4' := Lib.hid I4
  clear I4
  (with_reducible refine (HRA.out _ _ _ _ _ I4'.out (by simp) (by decide)).mono ?_)
  rintro e w2 ⟨A2, n2, c2, rfl, hc2, fr2, i2, b2⟩
  have hn2 : 4 = n2 := i2.len
  subst hn2
  obtain ⟨b, o, rfl, hbw, -⟩ := i2.at_ (k := 0) (by omega)
  have hb2 : Below w1.heap.size w1 w2 := (Below.al (Below.refl w1.heap.size w1) (Nat.le_refl _)).trans (b2.mono (by simp))
  have HR2 := Lib.hid (HRr.out.below hb2 HRr.out.lt)
  have HG2 := Lib.hid (HGg.out.below hb2 HGg.out.lt)
  have HB2 := Lib.hid (HBb.out.trans (hb2.mono HBb.out.size))
  have hbf : w.heap.size + 1 < b := by have h1 := fr2 b o rfl; have h2 := HSs.out; simp only [World.size_alloc] at h1; omega
  have k0 : w2.cell? ⟨b, o, none⟩ = some (.int .i64 (decF (bytesOf s) 0 1)) := by
    obtain ⟨b', o', e, _, h⟩ := i2.at_ (k := 0) (by omega)
    cases e; exact h
  have k1 : w2.cell? ⟨b, o + 1, none⟩ = some (.int .i64 (decF (bytesOf s) 1 1)) := by
    obtain ⟨b', o', e, _, h⟩ := i2.at_ (k := 1) (by omega)
    cases e; exact h
  have k2 : w2.cell? ⟨b, o + 2, none⟩ = some (.int .i64 (decF (bytesOf s) 2 2)) := by
    obtain ⟨b', o', e, _, h⟩ := i2.at_ (k := 2) (by omega)
    cases e; exact h
  have k3 : w2.cell? ⟨b, o + 3, none⟩ = some (.int .i64 (decF (bytesOf s) 4 4)) := by
    obtain ⟨b', o', e, _, h⟩ := i2.at_ (k := 3) (by omega)
    cases e; exact h
  clear b2 hb2 i2 fr2 HRr HGg HBb HSs HRA
  rw [H2.out] at k0
  generalize bytesOf s = bs at *
  have F_kd := Lib.hid (HF.out 1 1 (by omega))
  have F_ln := Lib.hid (HF.out 2 2 (by omega))
  have F_sz := Lib.hid (HF.out 4 4 (by omega))
  clear H2
  generalize decF bs 1 1 = kd at *
  generalize decF bs 2 2 = ln at *
  generalize decF bs 4 4 = sz at *
  have hbn : ¬ b = w.heap.size + 1 := by omega
  have hbn' : ¬ w.heap.size + 1 = b := by omega
  obtain ⟨e0, e1, e2, e3, e4, e5, e6, e7, e8⟩ := HG2.out.cells
  have zg := HG2.out.fz
  go_upto_region 10 with fail
  have HG3 : Hid (CdRow ((((w2.setCell ⟨w.heap.size + 1, 0, none⟩ (.int .i64 2)).setCell ⟨w.heap.size + 1, 1, none⟩ (.int .i64 kd)).setCell ⟨w.heap.size + 1, 2, none⟩ (.int .i64 ln)).setCell ⟨w.heap.size + 1, 3, none⟩ (.int .i64 sz)) (w.heap.size + 1) ⟨2, kd, ln, sz, [], 0, 0, [], 0⟩ none 0 0 none 0 0) := set4_row HG2.out
  have hb3 : Below (w.heap.size + 1) w2 ((((w2.setCell ⟨w.heap.size + 1, 0, none⟩ (.int .i64 2)).setCell ⟨w.heap.size + 1, 1, none⟩ (.int .i64 kd)).setCell ⟨w.heap.size + 1, 2, none⟩ (.int .i64 ln)).setCell ⟨w.heap.size + 1, 3, none⟩ (.int .i64 sz)) := set4_below (Below.refl _ _) (Nat.le_refl _)
  have HR3 := Lib.hid (HR2.out.below hb3 (Nat.lt_succ_self _))
  have HB3 := Lib.hid (HB2.out.trans (hb3.mono (Nat.le_succ _)))
  have k0' : ((((w2.setCell ⟨w.heap.size + 1, 0, none⟩ (.int .i64 2)).setCell ⟨w.heap.size + 1, 1, none⟩ (.int .i64 kd)).setCell ⟨w.heap.size + 1, 2, none⟩ (.int .i64 ln)).setCell ⟨w.heap.size + 1, 3, none⟩ (.int .i64 sz)).cell? ⟨b, o, none⟩ = some (.int .i64 2) := (set4_cell hbn o).trans k0
  clear e0 e1 e2 e3 e4 e5 e6 e7 e8 zg hb3 k0 k1 k2 k3 HG2 HR2 HB2
  generalize ((((w2.setCell ⟨w.heap.size + 1, 0, none⟩ (.int .i64 2)).setCell ⟨w.heap.size + 1, 1, none⟩ (.int .i64 kd)).setCell ⟨w.heap.size + 1, 2, none⟩ (.int .i64 ln)).setCell ⟨w.heap.size + 1, 3, none⟩ (.int .i64 sz)) = w3 at *
  have hg3 := HG3.out.lt
  have I6 : Hid (IntsAt (w3.alloc (.cells #[.int .i64 1, .int .i64 2, .int .i64 2, .int .i64 2, .int .i64 2, .int .i64 2, .int .i64 2, .int .i64 2, .int .i64 2, .int .i64 2, .int .i64 2] 3)) (w3.heap.size + 1) (some ⟨w3.heap.size, 0, none⟩) 11 [1, 2, 2, 2, 2, 2, 2, 2, 2, 2, 2]) := ints_new (w := w3) [1, 2, 2, 2, 2, 2, 2, 2, 2, 2, 2] (by decide)
  go_wp2_with fail
  (with_reducible refine (HRP.out _ _ _ _ _ I6.out (by simp) (by decide)).mono ?_)
  rintro e w4 ⟨A4, n4, c4, rfl, hc4, fr4, i4, b4⟩
  have hn4 : 11 = n4 := i4.len
  subst hn4
  obtain ⟨b', o', rfl, hbw', -⟩ := i4.at_ (k := 0) (by omega)
  have hb4 : Below w3.heap.size w3 w4 := (Below.al (Below.refl w3.heap.size w3) (Nat.le_refl _)).trans (b4.mono (by simp))
  have HR4 := Lib.hid (HR3.out.below hb4 HR3.out.lt)
  have HG4 := Lib.hid (HG3.out.below hb4 hg3)
  have HB4 := Lib.hid (HB3.out.trans (hb4.mono HB3.out.size))
  have hbf' : w.heap.size + 1 < b' := by have h1 := fr4 b' o' rfl; simp only [World.size_alloc] at h1; omega
  have HCELL : Hid (∀ k, k < 11 → w4.cell? ⟨b', o' + k, none⟩ = some (.int .i64 ((fieldsN bs).getD k 0))) := fun k hk => by
    obtain ⟨b1, o1, e, _, h⟩ := i4.at_ hk
    cases e; exact h
  have hg4 := HG4.out.lt
  have HB0 : Hid (w4.heap.size ≤ w4.heap.size) := Nat.le_refl _
  obtain ⟨B0, hB0⟩ : ∃ B0, B0 = w4.heap.size := ⟨_, rfl⟩
  have hbB : b' < B0 := by omega
  have hgB : w.heap.size + 1 < B0 := by omega
  have HINI : Hid (RunSt2 w bs b' o' B0 m kd ln sz (.int .i64 0) w4) :=
    ⟨0, none, 0, Nat.zero_le _, rfl, HG4.out, World.ownsRow_nil _ _ _ _, HR4.out, ⟨by omega, HCELL.out⟩, HB4.out⟩
  have hn1 : ¬ b' = w.heap.size + 1 := by omega
  have hn1' : ¬ w.heap.size + 1 = b' := by omega
  clear b4 hb4 i4 fr4 HR3 HG3 HB3 HRP k0' I6 HR4 HG4 HB4 HCELL HB0 hB0 hbw' hg4 hg3
  have HFF := Lib.hid HF.out
  rcases hmm with hm | ⟨hm, h3⟩
  · have HK0 := Lib.hid hm
    clear hm
    go_wp2
    go_loopw [11] (fun u11 wr => RunSt2 w bs b' o' B0 m kd ln sz u11 wr) (fun i _ => m - (intOf i).toNat)
    case atStart => exact HINI.out
    case round =>
      clear HINI
      obtain ⟨j, A', k', hj, rfl, hg5, ho5, hr5, HK5, hb5⟩ := hrel
      have HG5 := Lib.hid hg5
      have HO5 := Lib.hid ho5
      have HR5 := Lib.hid hr5
      have HB5 := Lib.hid hb5
      have hgl := HG5.out.lt
      have hB0r := (HO5.out)
      clear hg5 ho5 hr5 hb5 hB0r
      have yz : wr.cell? ⟨b', o', none⟩ = some (.int .i64 (m : Int)) := (HK5.out.2 0 (by omega)).trans (by rw [show (fieldsN bs).getD 0 0 = decF bs 8 1 from rfl, HK0.out])
      have hB0s := HK5.out.1
      by_cases hlt : j < m
      · have y0 : wr.cell? ⟨b', o' + (1 + 3 * j), none⟩ = some (.int .i64 (decF bs (9 + 6 * j) 2)) := fldN0 HK5.out.2 (by omega)
        have y1 : wr.cell? ⟨b', o' + (2 + 3 * j), none⟩ = some (.int .i64 (decF bs (11 + 6 * j) 2)) := fldN1 HK5.out.2 (by omega)
        have y2 : wr.cell? ⟨b', o' + (3 + 3 * j), none⟩ = some (.int .i64 (decF bs (13 + 6 * j) 2)) := fldN2 HK5.out.2 (by omega)
        have HRS : Hid (runsD bs (j + 1) = runsD bs j ++ [⟨decF bs (9 + 6 * j) 2, decF bs (11 + 6 * j) 2, decF bs (13 + 6 * j) 2⟩]) := runsD_succ bs j
        generalize decF bs (9 + 6 * j) 2 = x at *
        generalize decF bs (11 + 6 * j) 2 = y at *
        generalize decF bs (13 + 6 * j) 2 = z9 at *
        have t7 := HG5.out.cells.2.2.2.2.2.2.2.1
        have tz := HG5.out.fz 7
        have x1 : IntKind.i64.wrap (3 * (j : Int)) = 3 * (j : Int) := IntWalk.i64_in _ (by omega)
        have x2 : IntKind.i64.wrap (1 + 3 * (j : Int)) = 1 + 3 * (j : Int) := IntWalk.i64_in _ (by omega)
        have x3 : IntKind.i64.wrap (2 + 3 * (j : Int)) = 2 + 3 * (j : Int) := IntWalk.i64_in _ (by omega)
        have x4 : IntKind.i64.wrap (3 + 3 * (j : Int)) = 3 + 3 * (j : Int) := IntWalk.i64_in _ (by omega)
        have x5 : (1 + 3 * (j : Int)).toNat = 1 + 3 * j := by omega
        have x6 : (2 + 3 * (j : Int)).toNat = 2 + 3 * j := by omega
        have x7 : (3 + 3 * (j : Int)).toNat = 3 + 3 * j := by omega
        have v1 : (0 : Int) ≤ 1 + 3 * (j : Int) := by omega
        have v2 : 1 + 3 * (j : Int) < 11 := by omega
        have v3 : (0 : Int) ≤ 2 + 3 * (j : Int) := by omega
        have v4 : 2 + 3 * (j : Int) < 11 := by omega
        have v5 : (0 : Int) ≤ 3 + 3 * (j : Int) := by omega
        have v6 : 3 + 3 * (j : Int) < 11 := by omega
        have jlt : (j : Int) < ((m : Int) : Int) := by omega
        have jl3 : (j : Int) < 3 := by omega
        go_wp2
        have a0 : (wr.alloc (.cells #[.int .i64 x, .int .i64 y, .int .i64 z9] 121)).cell? ⟨b', o' + (1 + 3 * j), none⟩ = some (.int .i64 x) := (World.cell?_alloc_lt wr _ ⟨b', o' + (1 + 3 * j), none⟩ (by show b' < wr.heap.size; omega)).trans y0
        have a1 : (wr.alloc (.cells #[.int .i64 x, .int .i64 y, .int .i64 z9] 121)).cell? ⟨b', o' + (2 + 3 * j), none⟩ = some (.int .i64 y) := (World.cell?_alloc_lt wr _ ⟨b', o' + (2 + 3 * j), none⟩ (by show b' < wr.heap.size; omega)).trans y1
        have a2 : (wr.alloc (.cells #[.int .i64 x, .int .i64 y, .int .i64 z9] 121)).cell? ⟨b', o' + (3 + 3 * j), none⟩ = some (.int .i64 z9) := (World.cell?_alloc_lt wr _ ⟨b', o' + (3 + 3 * j), none⟩ (by show b' < wr.heap.size; omega)).trans y2
        refine wp_region_held_drew (S := fun v => v.cell? ⟨b', o' + (1 + 3 * j), none⟩ = some (.int .i64 x) ∧ v.cell? ⟨b', o' + (2 + 3 * j), none⟩ = some (.int .i64 y) ∧ v.cell? ⟨b', o' + (3 + 3 * j), none⟩ = some (.int .i64 z9)) (by kernel_rfl) (⟨y0, y1, y2⟩) (fun hHeld => ?_)
        refine wpAnyH_take (i := 0) (oi := { dst := some 88, op := Op.fieldAddr 40 (Operand.tmp 4) 7, type := 0, pos := _, after := _, guard := none }) (v := ?va0) rfl (by kernel_rfl) (by kernel_rfl) (by kernel_rfl) (fun _ _ _ h => h) (Or.inl ⟨by rfl, ?hya0⟩) (by assumption) ?resta0
        case hya0 => (intro w hSw; (try dsimp only at hSw); go_simp <;> with_reducible rfl)
        simp only [Act.put, List.setIfInBounds_toArray, List.set_cons_zero, List.set_cons_succ]
        refine wpAnyH_take (i := 2) (oi := { dst := some 90, op := Op.move (Operand.tmp 9), type := 37, pos := _, after := _, guard := none }) (v := ?va2) rfl (by kernel_rfl) (by kernel_rfl) (by kernel_rfl) (fun _ _ _ h => h) (Or.inl ⟨by rfl, ?hya2⟩) (by assumption) ?resta2
        case hya2 => (intro w hSw; (try dsimp only at hSw); go_simp <;> with_reducible rfl)
        simp only [Act.put, List.setIfInBounds_toArray, List.set_cons_zero, List.set_cons_succ]
        refine wpAnyH_take (i := 3) (oi := { dst := some 91, op := Op.move (Operand.tmp 11), type := 3, pos := _, after := _, guard := none }) (v := ?va3) rfl (by kernel_rfl) (by kernel_rfl) (by kernel_rfl) (fun _ _ _ h => h) (Or.inl ⟨by rfl, ?hya3⟩) (by assumption) ?resta3
        case hya3 => (intro w hSw; (try dsimp only at hSw); go_simp <;> with_reducible rfl)
        simp only [Act.put, List.setIfInBounds_toArray, List.set_cons_zero, List.set_cons_succ]
        refine wpAnyH_take (i := 4) (oi := { dst := some 92, op := Op.binOp BinOp.mul 3 (Operand.const (Value.int IntKind.i64 3)) (Operand.tmp 91) 3, type := 3, pos := _, after := _, guard := none }) (v := ?va4) rfl (by kernel_rfl) (by kernel_rfl) (by kernel_rfl) (fun _ _ _ h => h) (Or.inl ⟨by rfl, ?hya4⟩) (by assumption) ?resta4
        case hya4 => (intro w hSw; (try dsimp only at hSw); go_simp <;> with_reducible rfl)
        simp only [Act.put, List.setIfInBounds_toArray, List.set_cons_zero, List.set_cons_succ]
        refine wpAnyH_take (i := 5) (oi := { dst := some 93, op := Op.binOp BinOp.add 3 (Operand.const (Value.int IntKind.i64 1)) (Operand.tmp 92) 3, type := 3, pos := _, after := _, guard := none }) (v := ?va5) rfl (by kernel_rfl) (by kernel_rfl) (by kernel_rfl) (fun _ _ _ h => h) (Or.inl ⟨by rfl, ?hya5⟩) (by assumption) ?resta5
        case hya5 => (intro w hSw; (try dsimp only at hSw); go_simp <;> with_reducible rfl)
        simp only [Act.put, List.setIfInBounds_toArray, List.set_cons_zero, List.set_cons_succ]
        refine wpAnyH_take (i := 6) (oi := { dst := some 94, op := Op.indexAddr 37 (Operand.tmp 90) (Operand.tmp 93), type := 0, pos := _, after := _, guard := none }) (v := ?va6) rfl (by kernel_rfl) (by kernel_rfl) (by kernel_rfl) (fun _ _ _ h => h) (Or.inl ⟨by rfl, ?hya6⟩) (by assumption) ?resta6
        case hya6 => (intro w hSw; (try dsimp only at hSw); go_simp <;> with_reducible rfl)
        simp only [Act.put, List.setIfInBounds_toArray, List.set_cons_zero, List.set_cons_succ]
        refine wpAnyH_take (i := 7) (oi := { dst := some 95, op := Op.load 3 (Operand.tmp 94), type := 3, pos := _, after := _, guard := none }) (v := ?va7) rfl (by kernel_rfl) (by kernel_rfl) (by kernel_rfl) (fun _ _ _ h => h) (Or.inl ⟨by rfl, ?hya7⟩) (by assumption) ?resta7
        case hya7 => (intro w hSw; (try dsimp only at hSw); go_simp <;> with_reducible rfl)
        simp only [Act.put, List.setIfInBounds_toArray, List.set_cons_zero, List.set_cons_succ]
        refine wpAnyH_take (i := 8) (oi := { dst := some 96, op := Op.move (Operand.tmp 9), type := 37, pos := _, after := _, guard := none }) (v := ?va8) rfl (by kernel_rfl) (by kernel_rfl) (by kernel_rfl) (fun _ _ _ h => h) (Or.inl ⟨by rfl, ?hya8⟩) (by assumption) ?resta8
        case hya8 => (intro w hSw; (try dsimp only at hSw); go_simp <;> with_reducible rfl)
        simp only [Act.put, List.setIfInBounds_toArray, List.set_cons_zero, List.set_cons_succ]
        refine wpAnyH_take (i := 9) (oi := { dst := some 97, op := Op.move (Operand.tmp 11), type := 3, pos := _, after := _, guard := none }) (v := ?va9) rfl (by kernel_rfl) (by kernel_rfl) (by kernel_rfl) (fun _ _ _ h => h) (Or.inl ⟨by rfl, ?hya9⟩) (by assumption) ?resta9
        case hya9 => (intro w hSw; (try dsimp only at hSw); go_simp <;> with_reducible rfl)
        simp only [Act.put, List.setIfInBounds_toArray, List.set_cons_zero, List.set_cons_succ]
        refine wpAnyH_take (i := 10) (oi := { dst := some 98, op := Op.binOp BinOp.mul 3 (Operand.const (Value.int IntKind.i64 3)) (Operand.tmp 97) 3, type := 3, pos := _, after := _, guard := none }) (v := ?va10) rfl (by kernel_rfl) (by kernel_rfl) (by kernel_rfl) (fun _ _ _ h => h) (Or.inl ⟨by rfl, ?hya10⟩) (by assumption) ?resta10
        case hya10 => (intro w hSw; (try dsimp only at hSw); go_simp <;> with_reducible rfl)
        simp only [Act.put, List.setIfInBounds_toArray, List.set_cons_zero, List.set_cons_succ]
        refine wpAnyH_take (i := 11) (oi := { dst := some 99, op := Op.binOp BinOp.add 3 (Operand.const (Value.int IntKind.i64 2)) (Operand.tmp 98) 3, type := 3, pos := _, after := _, guard := none }) (v := ?va11) rfl (by kernel_rfl) (by kernel_rfl) (by kernel_rfl) (fun _ _ _ h => h) (Or.inl ⟨by rfl, ?hya11⟩) (by assumption) ?resta11
        case hya11 => (intro w hSw; (try dsimp only at hSw); go_simp <;> with_reducible rfl)
        simp only [Act.put, List.setIfInBounds_toArray, List.set_cons_zero, List.set_cons_succ]
        refine wpAnyH_take (i := 12) (oi := { dst := some 100, op := Op.indexAddr 37 (Operand.tmp 96) (Operand.tmp 99), type := 0, pos := _, after := _, guard := none }) (v := ?va12) rfl (by kernel_rfl) (by kernel_rfl) (by kernel_rfl) (fun _ _ _ h => h) (Or.inl ⟨by rfl, ?hya12⟩) (by assumption) ?resta12
        case hya12 => (intro w hSw; (try dsimp only at hSw); go_simp <;> with_reducible rfl)
        simp only [Act.put, List.setIfInBounds_toArray, List.set_cons_zero, List.set_cons_succ]
        refine wpAnyH_take (i := 13) (oi := { dst := some 101, op := Op.load 3 (Operand.tmp 100), type := 3, pos := _, after := _, guard := none }) (v := ?va13) rfl (by kernel_rfl) (by kernel_rfl) (by kernel_rfl) (fun _ _ _ h => h) (Or.inl ⟨by rfl, ?hya13⟩) (by assumption) ?resta13
        case hya13 => (intro w hSw; (try dsimp only at hSw); go_simp <;> with_reducible rfl)
        simp only [Act.put, List.setIfInBounds_toArray, List.set_cons_zero, List.set_cons_succ]
        refine wpAnyH_take (i := 14) (oi := { dst := some 102, op := Op.move (Operand.tmp 9), type := 37, pos := _, after := _, guard := none }) (v := ?va14) rfl (by kernel_rfl) (by kernel_rfl) (by kernel_rfl) (fun _ _ _ h => h) (Or.inl ⟨by rfl, ?hya14⟩) (by assumption) ?resta14
        case hya14 => (intro w hSw; (try dsimp only at hSw); go_simp <;> with_reducible rfl)
        simp only [Act.put, List.setIfInBounds_toArray, List.set_cons_zero, List.set_cons_succ]
        refine wpAnyH_take (i := 15) (oi := { dst := some 103, op := Op.move (Operand.tmp 11), type := 3, pos := _, after := _, guard := none }) (v := ?va15) rfl (by kernel_rfl) (by kernel_rfl) (by kernel_rfl) (fun _ _ _ h => h) (Or.inl ⟨by rfl, ?hya15⟩) (by assumption) ?resta15
        case hya15 => (intro w hSw; (try dsimp only at hSw); go_simp <;> with_reducible rfl)
        simp only [Act.put, List.setIfInBounds_toArray, List.set_cons_zero, List.set_cons_succ]
        refine wpAnyH_take (i := 16) (oi := { dst := some 104, op := Op.binOp BinOp.mul 3 (Operand.const (Value.int IntKind.i64 3)) (Operand.tmp 103) 3, type := 3, pos := _, after := _, guard := none }) (v := ?va16) rfl (by kernel_rfl) (by kernel_rfl) (by kernel_rfl) (fun _ _ _ h => h) (Or.inl ⟨by rfl, ?hya16⟩) (by assumption) ?resta16
        case hya16 => (intro w hSw; (try dsimp only at hSw); go_simp <;> with_reducible rfl)
        simp only [Act.put, List.setIfInBounds_toArray, List.set_cons_zero, List.set_cons_succ]
        refine wpAnyH_take (i := 17) (oi := { dst := some 105, op := Op.binOp BinOp.add 3 (Operand.const (Value.int IntKind.i64 3)) (Operand.tmp 104) 3, type := 3, pos := _, after := _, guard := none }) (v := ?va17) rfl (by kernel_rfl) (by kernel_rfl) (by kernel_rfl) (fun _ _ _ h => h) (Or.inl ⟨by rfl, ?hya17⟩) (by assumption) ?resta17
        case hya17 => (intro w hSw; (try dsimp only at hSw); go_simp <;> with_reducible rfl)
        simp only [Act.put, List.setIfInBounds_toArray, List.set_cons_zero, List.set_cons_succ]
        refine wpAnyH_take (i := 18) (oi := { dst := some 106, op := Op.indexAddr 37 (Operand.tmp 102) (Operand.tmp 105), type := 0, pos := _, after := _, guard := none }) (v := ?va18) rfl (by kernel_rfl) (by kernel_rfl) (by kernel_rfl) (fun _ _ _ h => h) (Or.inl ⟨by rfl, ?hya18⟩) (by assumption) ?resta18
        case hya18 => (intro w hSw; (try dsimp only at hSw); go_simp <;> with_reducible rfl)
        simp only [Act.put, List.setIfInBounds_toArray, List.set_cons_zero, List.set_cons_succ]
        refine wpAnyH_take (i := 19) (oi := { dst := some 107, op := Op.load 3 (Operand.tmp 106), type := 3, pos := _, after := _, guard := none }) (v := ?va19) rfl (by kernel_rfl) (by kernel_rfl) (by kernel_rfl) (fun _ _ _ h => h) (Or.inl ⟨by rfl, ?hya19⟩) (by assumption) ?resta19
        case hya19 => (intro w hSw; (try dsimp only at hSw); go_simp <;> with_reducible rfl)
        simp only [Act.put, List.setIfInBounds_toArray, List.set_cons_zero, List.set_cons_succ]
        refine wpAnyH_take (i := 20) (oi := { dst := some 108, op := Op.build 121 #[(0, Operand.tmp 95), (1, Operand.tmp 101), (2, Operand.tmp 107)], type := 121, pos := _, after := _, guard := none }) (v := ?va20) rfl (by kernel_rfl) (by kernel_rfl) (by kernel_rfl) (fun _ _ _ h => h) (Or.inl ⟨by rfl, ?hya20⟩) (by assumption) ?resta20
        case hya20 => (intro w hSw; (try dsimp only at hSw); go_simp <;> with_reducible rfl)
        simp only [Act.put, List.setIfInBounds_toArray, List.set_cons_zero, List.set_cons_succ]
        refine wpAnyH_ready (rs := [1, 21]) (by kernel_rfl) (by simp) ?_
        refine AllReadyH.cons (o := { dst := some 89, op := Op.load 38 (Operand.tmp 88), type := 38, pos := _, after := _, guard := none }) rfl (fun K' hK => ?_) (AllReadyH.cons (o := { dst := some 109, op := Op.buildSlice 38 1 #[(0, Operand.tmp 108)], type := 38, pos := _, after := _, guard := none }) rfl (fun K' hK => ?_) AllReadyH.nil)
        · go_simp
          refine hK.out _ _ (⟨y0, y1, y2⟩) (fun hHeld => ?_)
          clear hK K'
          refine wpAnyH_ready (rs := [21]) (by kernel_rfl) (by simp) ?_
          refine AllReadyH.cons (o := { dst := some 109, op := Op.buildSlice 38 1 #[(0, Operand.tmp 108)], type := 38, pos := _, after := _, guard := none }) rfl (fun K' hK => ?_) AllReadyH.nil
          go_simp
          refine hK.out _ _ (⟨a0, a1, a2⟩) (fun hHeld => ?_)
          clear hK K'
          refine wpAnyH_ready (rs := [22]) (by kernel_rfl) (by simp) ?_
          refine AllReadyH.cons (o := { dst := some 110, op := Op.call { callee := Callee.builtin Builtin.append, args := #[Operand.tmp 89, Operand.tmp 109], argTypes := #[38, 38] }, type := 38, pos := _, after := _, guard := none }) rfl (fun K' hK => ?_) AllReadyH.nil
          refine step_push rfl (.tmp 89) (.tmp 109) rfl B0 wr.drew (.slice A' j k') (runsD bs j) ⟨x, y, z9⟩ rfl rfl (by rw [runsD_len]; exact HO5.out) (by rw [runsD_len]; omega) (by show B0 ≤ wr.heap.size; omega) ?_
          intro u9 w6 ho6 hb6
          simp only [List.length_append, runsD_len, List.length_cons, List.length_nil, Nat.zero_add] at ho6
          obtain ⟨A6, c6, rfl, -⟩ := own_sps ho6
          have HG6 := Lib.hid (CdRow.below (w' := w6) HG5.out.dr hb6 hgB)
          have t7' := HG6.out.cells.2.2.2.2.2.2.2.1
          have tz' := HG6.out.fz 7
          have y0' := (hb6.cell (p := ⟨b', o' + (1 + 3 * j), none⟩) hbB).trans y0
          have y1' := (hb6.cell (p := ⟨b', o' + (2 + 3 * j), none⟩) hbB).trans y1
          have y2' := (hb6.cell (p := ⟨b', o' + (3 + 3 * j), none⟩) hbB).trans y2
          refine hK.out _ _ (⟨y0', y1', y2'⟩) (fun hHeld => ?_)
          clear hK K'
          refine wpAnyH_take (i := 23) (oi := { dst := some 111, op := Op.fieldAddr 40 (Operand.tmp 4) 7, type := 0, pos := _, after := _, guard := none }) (v := ?vap23) rfl (by kernel_rfl) (by kernel_rfl) (by kernel_rfl) (fun _ _ _ h => h) (Or.inl ⟨by rfl, ?hyap23⟩) (by assumption) ?restap23
          case hyap23 => (intro w hSw; (try dsimp only at hSw); go_simp <;> with_reducible rfl)
          simp only [Act.put, List.setIfInBounds_toArray, List.set_cons_zero, List.set_cons_succ]
          refine wpAnyH_ready (rs := [24]) (by kernel_rfl) (by simp) ?_
          refine AllReadyH.cons (o := { dst := none, op := Op.store 38 (Operand.tmp 111) (Operand.tmp 110), type := 0, pos := _, after := _, guard := none }) rfl (fun K' hK => ?_) AllReadyH.nil
          go_simp
          refine hK.out _ _ (⟨(set_cell_ne hn1 _).trans y0', (set_cell_ne hn1 _).trans y1', (set_cell_ne hn1 _).trans y2'⟩) (fun hHeld => ?_)
          clear hK K'
          refine wpAnyH_done (by kernel_rfl) ?_ _
          have HG7 : Hid (CdRow (w6.setCell ⟨w.heap.size + 1, 7, none⟩ (.slice A6 (j + 1) c6)) (w.heap.size + 1) ⟨2, kd, ln, sz, [], 0, 0, [], 0⟩ none 0 0 A6 (j + 1) c6) := row_set HG6.out rfl
          have hb7 : Below (w.heap.size + 1) wr (w6.setCell ⟨w.heap.size + 1, 7, none⟩ (.slice A6 (j + 1) c6)) := Below.setCell (p := ⟨w.heap.size + 1, 7, none⟩) (Below.und (hb6.mono (Nat.le_of_lt hgB))) (Nat.le_refl _) _
          have HO7 : Hid ((w6.setCell ⟨w.heap.size + 1, 7, none⟩ (.slice A6 (j + 1) c6)).ownsRow B0 121 3 (.slice A6 (j + 1) c6) (j + 1) (spsCells (runsD bs (j + 1)))) := by
            show World.ownsRow _ _ _ _ _ _ _
            rw [HRS.out]; exact own_set ho6 (w.heap.size + 1) 7 _ hgB
          have HK7 : Hid (B0 ≤ (w6.setCell ⟨w.heap.size + 1, 7, none⟩ (.slice A6 (j + 1) c6)).heap.size ∧ ∀ k, k < 11 → (w6.setCell ⟨w.heap.size + 1, 7, none⟩ (.slice A6 (j + 1) c6)).cell? ⟨b', o' + k, none⟩ = some (.int .i64 ((fieldsN bs).getD k 0))) :=
            ⟨Nat.le_trans hB0s hb7.size, fun k hk => (set_cell_ne hn1 _).trans ((hb6.cell (p := ⟨b', o' + k, none⟩) hbB).trans (HK5.out.2 k hk))⟩
          have HR7 := Lib.hid (HR5.out.below hb7 (Nat.lt_succ_self _))
          have HB7 := Lib.hid (HB5.out.trans (hb7.mono (Nat.le_succ _)))
          clear y0' y1' y2' t7' tz' hb6 hb7 ho6 hHeld
          generalize (w6.setCell ⟨w.heap.size + 1, 7, none⟩ (.slice A6 (j + 1) c6)) = w7 at *
          clear x1 x2 x3 x4 x5 x6 x7
          go_wp2
          go_roundw
          case rel => exact ⟨j + 1, A6, c6, by omega, by go_num, HG7.out, HO7.out, HR7.out, HK7.out, HB7.out⟩
          case measure => simp [intOf]; omega
        · go_simp
          refine hK.out _ _ (⟨a0, a1, a2⟩) (fun hHeld => ?_)
          clear hK K'
          refine wpAnyH_ready (rs := [1]) (by kernel_rfl) (by simp) ?_
          refine AllReadyH.cons (o := { dst := some 89, op := Op.load 38 (Operand.tmp 88), type := 38, pos := _, after := _, guard := none }) rfl (fun K' hK => ?_) AllReadyH.nil
          go_simp
          refine hK.out _ _ (⟨a0, a1, a2⟩) (fun hHeld => ?_)
          clear hK K'
          refine wpAnyH_ready (rs := [22]) (by kernel_rfl) (by simp) ?_
          refine AllReadyH.cons (o := { dst := some 110, op := Op.call { callee := Callee.builtin Builtin.append, args := #[Operand.tmp 89, Operand.tmp 109], argTypes := #[38, 38] }, type := 38, pos := _, after := _, guard := none }) rfl (fun K' hK => ?_) AllReadyH.nil
          refine step_push rfl (.tmp 89) (.tmp 109) rfl B0 wr.drew (.slice A' j k') (runsD bs j) ⟨x, y, z9⟩ rfl rfl (by rw [runsD_len]; exact HO5.out) (by rw [runsD_len]; omega) (by show B0 ≤ wr.heap.size; omega) ?_
          intro u9 w6 ho6 hb6
          simp only [List.length_append, runsD_len, List.length_cons, List.length_nil, Nat.zero_add] at ho6
          obtain ⟨A6, c6, rfl, -⟩ := own_sps ho6
          have HG6 := Lib.hid (CdRow.below (w' := w6) HG5.out.dr hb6 hgB)
          have t7' := HG6.out.cells.2.2.2.2.2.2.2.1
          have tz' := HG6.out.fz 7
          have y0' := (hb6.cell (p := ⟨b', o' + (1 + 3 * j), none⟩) hbB).trans y0
          have y1' := (hb6.cell (p := ⟨b', o' + (2 + 3 * j), none⟩) hbB).trans y1
          have y2' := (hb6.cell (p := ⟨b', o' + (3 + 3 * j), none⟩) hbB).trans y2
          refine hK.out _ _ (⟨y0', y1', y2'⟩) (fun hHeld => ?_)
          clear hK K'
          refine wpAnyH_take (i := 23) (oi := { dst := some 111, op := Op.fieldAddr 40 (Operand.tmp 4) 7, type := 0, pos := _, after := _, guard := none }) (v := ?vaq23) rfl (by kernel_rfl) (by kernel_rfl) (by kernel_rfl) (fun _ _ _ h => h) (Or.inl ⟨by rfl, ?hyaq23⟩) (by assumption) ?restaq23
          case hyaq23 => (intro w hSw; (try dsimp only at hSw); go_simp <;> with_reducible rfl)
          simp only [Act.put, List.setIfInBounds_toArray, List.set_cons_zero, List.set_cons_succ]
          refine wpAnyH_ready (rs := [24]) (by kernel_rfl) (by simp) ?_
          refine AllReadyH.cons (o := { dst := none, op := Op.store 38 (Operand.tmp 111) (Operand.tmp 110), type := 0, pos := _, after := _, guard := none }) rfl (fun K' hK => ?_) AllReadyH.nil
          go_simp
          refine hK.out _ _ (⟨(set_cell_ne hn1 _).trans y0', (set_cell_ne hn1 _).trans y1', (set_cell_ne hn1 _).trans y2'⟩) (fun hHeld => ?_)
          clear hK K'
          refine wpAnyH_done (by kernel_rfl) ?_ _
          have HG7 : Hid (CdRow (w6.setCell ⟨w.heap.size + 1, 7, none⟩ (.slice A6 (j + 1) c6)) (w.heap.size + 1) ⟨2, kd, ln, sz, [], 0, 0, [], 0⟩ none 0 0 A6 (j + 1) c6) := row_set HG6.out rfl
          have hb7 : Below (w.heap.size + 1) wr (w6.setCell ⟨w.heap.size + 1, 7, none⟩ (.slice A6 (j + 1) c6)) := Below.setCell (p := ⟨w.heap.size + 1, 7, none⟩) (Below.und (hb6.mono (Nat.le_of_lt hgB))) (Nat.le_refl _) _
          have HO7 : Hid ((w6.setCell ⟨w.heap.size + 1, 7, none⟩ (.slice A6 (j + 1) c6)).ownsRow B0 121 3 (.slice A6 (j + 1) c6) (j + 1) (spsCells (runsD bs (j + 1)))) := by
            show World.ownsRow _ _ _ _ _ _ _
            rw [HRS.out]; exact own_set ho6 (w.heap.size + 1) 7 _ hgB
          have HK7 : Hid (B0 ≤ (w6.setCell ⟨w.heap.size + 1, 7, none⟩ (.slice A6 (j + 1) c6)).heap.size ∧ ∀ k, k < 11 → (w6.setCell ⟨w.heap.size + 1, 7, none⟩ (.slice A6 (j + 1) c6)).cell? ⟨b', o' + k, none⟩ = some (.int .i64 ((fieldsN bs).getD k 0))) :=
            ⟨Nat.le_trans hB0s hb7.size, fun k hk => (set_cell_ne hn1 _).trans ((hb6.cell (p := ⟨b', o' + k, none⟩) hbB).trans (HK5.out.2 k hk))⟩
          have HR7 := Lib.hid (HR5.out.below hb7 (Nat.lt_succ_self _))
          have HB7 := Lib.hid (HB5.out.trans (hb7.mono (Nat.le_succ _)))
          clear y0' y1' y2' t7' tz' hb6 hb7 ho6 hHeld
          generalize (w6.setCell ⟨w.heap.size + 1, 7, none⟩ (.slice A6 (j + 1) c6)) = w7 at *
          clear x1 x2 x3 x4 x5 x6 x7
          go_wp2
          go_roundw
          case rel => exact ⟨j + 1, A6, c6, by omega, by go_num, HG7.out, HO7.out, HR7.out, HK7.out, HB7.out⟩
          case measure => simp [intOf]; omega
      · obtain rfl : j = m := by omega
        have yo : wr.cell? ⟨b', o' + 10, none⟩ = some (.int .i64 (decF bs 27 2)) := HK5.out.2 10 (by omega)
        have HOV := Lib.hid (HFF.out 27 2 (by omega))
        rw [HMC.out] at HCE
        have HFI := Lib.hid (runsD_fit bs HFF.out j)
        have HRL := Lib.hid (runsD_len bs j)
        generalize decF bs 27 2 = ov at *
        have t8 := HG5.out.cells.2.2.2.2.2.2.2.2
        have tz := HG5.out.fz 8
        have jnl : ¬ (j : Int) < (j : Int) ∨ ¬ (j : Int) < 3 := by omega
        go_upto_region 22 with fail
        have HG7 : Hid (CdRow (wr.setCell ⟨w.heap.size + 1, 8, none⟩ (.int .i64 ov)) (w.heap.size + 1) ⟨2, kd, ln, sz, [], 0, 0, runsD bs j, ov⟩ none 0 0 A' j k') := row_set HG5.out rfl
        have hb7 : Below (w.heap.size + 1) wr (wr.setCell ⟨w.heap.size + 1, 8, none⟩ (.int .i64 ov)) := Below.setCell (p := ⟨w.heap.size + 1, 8, none⟩) (Below.refl _ wr) (Nat.le_refl _) _
        have HO7 : Hid ((wr.setCell ⟨w.heap.size + 1, 8, none⟩ (.int .i64 ov)).ownsRow B0 121 3 (.slice A' j k') j (spsCells (runsD bs j))) := own_set HO5.out (w.heap.size + 1) 8 _ hgB
        have HR7 := Lib.hid (HR5.out.below hb7 (Nat.lt_succ_self _))
        have HB7 := Lib.hid (HB5.out.trans (hb7.mono (Nat.le_succ _)))
        clear hb7 t8 tz yo yz jnl
        generalize (wr.setCell ⟨w.heap.size + 1, 8, none⟩ (.int .i64 ov)) = w7 at *
        have HC7 : Hid (CdAt w7 w7.heap.size (cdv ⟨2, kd, ln, sz, [], 0, 0, runsD bs j, ov⟩ none 0 0 A' j k') c) := by
          show CdAt _ _ _ c
          rw [HCE.out]
          refine ⟨none, 0, 0, A', j, k', rfl, ⟨rfl, by simp, fun k hk => absurd hk (by omega)⟩, ?_, by omega, by omega, (by show Fit 2; decide), F_kd.out, F_ln.out, F_sz.out, (by show Fit 0; decide), (by show Fit 0; decide), HOV.out⟩
          have h := HO7.out
          have hl := HRL.out
          generalize runsD bs j = rs at *
          subst hl
          exact SpsAt.of_own h rfl HFI.out
        have HFQ : Hid (Fresh (w.heap.size + 1) A') := own_fresh HO7.out (by omega)
        generalize runsD bs j = rs at *
        obtain ⟨e0, e1, e2, e3, e4, e5, e6, e7, e8⟩ := HG7.out.cells
        simp only at e0 e1 e2 e3 e4 e5 e6 e7 e8
        go_wp2_with fail
        refine (HWA.out _ w7.heap.size w7 HC7.out (Nat.le_refl _)).mono ?_
        rintro e wz ⟨rfl, bz⟩
        have HGz := Lib.hid (HG7.out.below bz HG7.out.lt)
        have HCz := Lib.hid ((HC7.out.below bz (Nat.le_refl _)).more bz.size)
        have HRz := Lib.hid (HR7.out.below bz HR7.out.lt)
        have HBz := Lib.hid (HB7.out.trans (bz.mono HB7.out.size))
        clear e0 e1 e2 e3 e4 e5 e6 e7 e8 bz
        obtain ⟨e0, e1, e2, e3, e4, e5, e6, e7, e8⟩ := HGz.out.cells
        simp only at e0 e1 e2 e3 e4 e5 e6 e7 e8
        obtain ⟨r0, r1, r2, r3, r4, r5, r6, r7, r8⟩ := HRz.out.cells
        have zr := HRz.out.fz
        rcases HZ.out with rfl | rfl
        · by_cases hts : t = s
          · subst hts
            have HE : Hid (readC t = (c, 0)) := by show _ = _; rw [HRC.out, if_pos rfl]
            clear HRC
            go_wp2
            clear e0 e1 e2 e3 e4 e5 e6 e7 e8 r0 r1 r2 r3 r4 r5 r6 r7 r8 zr
            have HR8 : Hid (CdRow (put9 wz w.heap.size ⟨2, kd, ln, sz, [], 0, 0, rs, ov⟩ none 0 0 A' j k') w.heap.size ⟨2, kd, ln, sz, [], 0, 0, rs, ov⟩ none 0 0 A' j k') := put9_row HRz.out
            have HB8 : Hid (Below w.heap.size w (put9 wz w.heap.size ⟨2, kd, ln, sz, [], 0, 0, rs, ov⟩ none 0 0 A' j k')) := put9_below HBz.out (Nat.le_refl _)
            have HC8 : Hid (CdAt (put9 wz w.heap.size ⟨2, kd, ln, sz, [], 0, 0, rs, ov⟩ none 0 0 A' j k') (put9 wz w.heap.size ⟨2, kd, ln, sz, [], 0, 0, rs, ov⟩ none 0 0 A' j k').heap.size (cdv ⟨2, kd, ln, sz, [], 0, 0, rs, ov⟩ none 0 0 A' j k') c) := by
              have h := HCz.out
              rw [HCE.out] at h
              show CdAt _ _ _ c
              rw [HCE.out]
              exact cd_put9 h (Nat.le_refl _) (Fresh.none _) (HFQ.out)
            unfold put9 at HR8 HB8 HC8
            simp only at HR8 HB8 HC8
            generalize World.setCell _ ⟨w.heap.size, 8, none⟩ _ = w8 at *
            obtain ⟨r0, r1, r2, r3, r4, r5, r6, r7, r8⟩ := HR8.out.cells
            refine bodyPost_ret (v := .tuple #[cdv ⟨2, kd, ln, sz, [], 0, 0, rs, ov⟩ none 0 0 A' j k', .int .i64 0]) (by simp [results, Tryz.results70, go_sem, r0, r1, r2, r3, r4, r5, r6, r7, r8]) rfl ?_
            rw [HE.out]
            exact ⟨_, rfl, cd_new HC8.out (Fresh.none _) (fun b o e => by have := HFQ.out b o e; omega), HB8.out⟩
          · have HE : Hid (readC s = (zeroC, 15)) := by show _ = _; rw [HRC.out, if_neg (fun h => hts (by injection h))]
            have hl : t.toList ≠ s.toList := fun h => hts (ByteArray.ext (Array.ext' (by rw [ByteArray.toList_eq, ByteArray.toList_eq] at h; exact h)))
            have q1 : (t.toList == s.toList) = false := by simpa using hl
            have q2 : (t.toList != s.toList) = true := by simpa using hl
            clear HRC hts hl
            go_wp2
            clear e0 e1 e2 e3 e4 e5 e6 e7 e8 r0 r1 r2 r3 r4 r5 r6 r7 r8 zr
            have HR8 : Hid (CdRow (put9 wz w.heap.size zeroC none 0 0 none 0 0) w.heap.size zeroC none 0 0 none 0 0) := put9_row HRz.out
            have HB8 : Hid (Below w.heap.size w (put9 wz w.heap.size zeroC none 0 0 none 0 0)) := put9_below HBz.out (Nat.le_refl _)
            unfold put9 zeroC at HR8 HB8
            simp only at HR8 HB8
            generalize World.setCell _ ⟨w.heap.size, 8, none⟩ _ = w8 at *
            obtain ⟨r0, r1, r2, r3, r4, r5, r6, r7, r8⟩ := HR8.out.cells
            refine bodyPost_ret (v := .tuple #[cdv zeroC none 0 0 none 0 0, .int .i64 15]) (by simp [results, Tryz.results70, go_sem, r0, r1, r2, r3, r4, r5, r6, r7, r8, zeroC]) rfl ?_
            rw [HE.out]
            exact ⟨_, rfl, cdn_zero _ _, HB8.out⟩
        · have HE : Hid (readC s = (zeroC, 15)) := by show _ = _; rw [HRC.out, if_neg (fun h => by injection h with _ h; cases h)]
          clear HRC
          go_wp2
          clear e0 e1 e2 e3 e4 e5 e6 e7 e8 r0 r1 r2 r3 r4 r5 r6 r7 r8 zr
          have HR8 : Hid (CdRow (put9 wz w.heap.size zeroC none 0 0 none 0 0) w.heap.size zeroC none 0 0 none 0 0) := put9_row HRz.out
          have HB8 : Hid (Below w.heap.size w (put9 wz w.heap.size zeroC none 0 0 none 0 0)) := put9_below HBz.out (Nat.le_refl _)
          unfold put9 zeroC at HR8 HB8
          simp only at HR8 HB8
          generalize World.setCell _ ⟨w.heap.size, 8, none⟩ _ = w8 at *
          obtain ⟨r0, r1, r2, r3, r4, r5, r6, r7, r8⟩ := HR8.out.cells
          refine bodyPost_ret (v := .tuple #[cdv zeroC none 0 0 none 0 0, .int .i64 15]) (by simp [results, Tryz.results70, go_sem, r0, r1, r2, r3, r4, r5, r6, r7, r8, zeroC]) rfl ?_
          rw [HE.out]
          exact ⟨_, rfl, cdn_zero _ _, HB8.out⟩

  · obtain ⟨cz, hcz⟩ : ∃ cz, decF bs 8 1 = cz := ⟨_, rfl⟩
    rw [hcz] at hm
    have HK0 := Lib.hid hcz
    clear hcz
    go_wp2
    go_loopw [11] (fun u11 wr => RunSt2 w bs b' o' B0 m kd ln sz u11 wr) (fun i _ => m - (intOf i).toNat)
    case atStart => exact HINI.out
    case round =>
      clear HINI
      obtain ⟨j, A', k', hj, rfl, hg5, ho5, hr5, HK5, hb5⟩ := hrel
      have HG5 := Lib.hid hg5
      have HO5 := Lib.hid ho5
      have HR5 := Lib.hid hr5
      have HB5 := Lib.hid hb5
      have hgl := HG5.out.lt
      have hB0r := (HO5.out)
      clear hg5 ho5 hr5 hb5 hB0r
      have yz : wr.cell? ⟨b', o', none⟩ = some (.int .i64 cz) := (HK5.out.2 0 (by omega)).trans (by rw [show (fieldsN bs).getD 0 0 = decF bs 8 1 from rfl, HK0.out])
      have hB0s := HK5.out.1
      by_cases hlt : j < m
      · have y0 : wr.cell? ⟨b', o' + (1 + 3 * j), none⟩ = some (.int .i64 (decF bs (9 + 6 * j) 2)) := fldN0 HK5.out.2 (by omega)
        have y1 : wr.cell? ⟨b', o' + (2 + 3 * j), none⟩ = some (.int .i64 (decF bs (11 + 6 * j) 2)) := fldN1 HK5.out.2 (by omega)
        have y2 : wr.cell? ⟨b', o' + (3 + 3 * j), none⟩ = some (.int .i64 (decF bs (13 + 6 * j) 2)) := fldN2 HK5.out.2 (by omega)
        have HRS : Hid (runsD bs (j + 1) = runsD bs j ++ [⟨decF bs (9 + 6 * j) 2, decF bs (11 + 6 * j) 2, decF bs (13 + 6 * j) 2⟩]) := runsD_succ bs j
        generalize decF bs (9 + 6 * j) 2 = x at *
        generalize decF bs (11 + 6 * j) 2 = y at *
        generalize decF bs (13 + 6 * j) 2 = z9 at *
        have t7 := HG5.out.cells.2.2.2.2.2.2.2.1
        have tz := HG5.out.fz 7
        have x1 : IntKind.i64.wrap (3 * (j : Int)) = 3 * (j : Int) := IntWalk.i64_in _ (by omega)
        have x2 : IntKind.i64.wrap (1 + 3 * (j : Int)) = 1 + 3 * (j : Int) := IntWalk.i64_in _ (by omega)
        have x3 : IntKind.i64.wrap (2 + 3 * (j : Int)) = 2 + 3 * (j : Int) := IntWalk.i64_in _ (by omega)
        have x4 : IntKind.i64.wrap (3 + 3 * (j : Int)) = 3 + 3 * (j : Int) := IntWalk.i64_in _ (by omega)
        have x5 : (1 + 3 * (j : Int)).toNat = 1 + 3 * j := by omega
        have x6 : (2 + 3 * (j : Int)).toNat = 2 + 3 * j := by omega
        have x7 : (3 + 3 * (j : Int)).toNat = 3 + 3 * j := by omega
        have v1 : (0 : Int) ≤ 1 + 3 * (j : Int) := by omega
        have v2 : 1 + 3 * (j : Int) < 11 := by omega
        have v3 : (0 : Int) ≤ 2 + 3 * (j : Int) := by omega
        have v4 : 2 + 3 * (j : Int) < 11 := by omega
        have v5 : (0 : Int) ≤ 3 + 3 * (j : Int) := by omega
        have v6 : 3 + 3 * (j : Int) < 11 := by omega
        have jlt : (j : Int) < (cz : Int) := by omega
        have jl3 : (j : Int) < 3 := by omega
        go_wp2
        have a0 : (wr.alloc (.cells #[.int .i64 x, .int .i64 y, .int .i64 z9] 121)).cell? ⟨b', o' + (1 + 3 * j), none⟩ = some (.int .i64 x) := (World.cell?_alloc_lt wr _ ⟨b', o' + (1 + 3 * j), none⟩ (by show b' < wr.heap.size; omega)).trans y0
        have a1 : (wr.alloc (.cells #[.int .i64 x, .int .i64 y, .int .i64 z9] 121)).cell? ⟨b', o' + (2 + 3 * j), none⟩ = some (.int .i64 y) := (World.cell?_alloc_lt wr _ ⟨b', o' + (2 + 3 * j), none⟩ (by show b' < wr.heap.size; omega)).trans y1
        have a2 : (wr.alloc (.cells #[.int .i64 x, .int .i64 y, .int .i64 z9] 121)).cell? ⟨b', o' + (3 + 3 * j), none⟩ = some (.int .i64 z9) := (World.cell?_alloc_lt wr _ ⟨b', o' + (3 + 3 * j), none⟩ (by show b' < wr.heap.size; omega)).trans y2
        refine wp_region_held_drew (S := fun v => v.cell? ⟨b', o' + (1 + 3 * j), none⟩ = some (.int .i64 x) ∧ v.cell? ⟨b', o' + (2 + 3 * j), none⟩ = some (.int .i64 y) ∧ v.cell? ⟨b', o' + (3 + 3 * j), none⟩ = some (.int .i64 z9)) (by kernel_rfl) (⟨y0, y1, y2⟩) (fun hHeld => ?_)
        refine wpAnyH_take (i := 0) (oi := { dst := some 88, op := Op.fieldAddr 40 (Operand.tmp 4) 7, type := 0, pos := _, after := _, guard := none }) (v := ?vb0) rfl (by kernel_rfl) (by kernel_rfl) (by kernel_rfl) (fun _ _ _ h => h) (Or.inl ⟨by rfl, ?hyb0⟩) (by assumption) ?restb0
        case hyb0 => (intro w hSw; (try dsimp only at hSw); go_simp <;> with_reducible rfl)
        simp only [Act.put, List.setIfInBounds_toArray, List.set_cons_zero, List.set_cons_succ]
        refine wpAnyH_take (i := 2) (oi := { dst := some 90, op := Op.move (Operand.tmp 9), type := 37, pos := _, after := _, guard := none }) (v := ?vb2) rfl (by kernel_rfl) (by kernel_rfl) (by kernel_rfl) (fun _ _ _ h => h) (Or.inl ⟨by rfl, ?hyb2⟩) (by assumption) ?restb2
        case hyb2 => (intro w hSw; (try dsimp only at hSw); go_simp <;> with_reducible rfl)
        simp only [Act.put, List.setIfInBounds_toArray, List.set_cons_zero, List.set_cons_succ]
        refine wpAnyH_take (i := 3) (oi := { dst := some 91, op := Op.move (Operand.tmp 11), type := 3, pos := _, after := _, guard := none }) (v := ?vb3) rfl (by kernel_rfl) (by kernel_rfl) (by kernel_rfl) (fun _ _ _ h => h) (Or.inl ⟨by rfl, ?hyb3⟩) (by assumption) ?restb3
        case hyb3 => (intro w hSw; (try dsimp only at hSw); go_simp <;> with_reducible rfl)
        simp only [Act.put, List.setIfInBounds_toArray, List.set_cons_zero, List.set_cons_succ]
        refine wpAnyH_take (i := 4) (oi := { dst := some 92, op := Op.binOp BinOp.mul 3 (Operand.const (Value.int IntKind.i64 3)) (Operand.tmp 91) 3, type := 3, pos := _, after := _, guard := none }) (v := ?vb4) rfl (by kernel_rfl) (by kernel_rfl) (by kernel_rfl) (fun _ _ _ h => h) (Or.inl ⟨by rfl, ?hyb4⟩) (by assumption) ?restb4
        case hyb4 => (intro w hSw; (try dsimp only at hSw); go_simp <;> with_reducible rfl)
        simp only [Act.put, List.setIfInBounds_toArray, List.set_cons_zero, List.set_cons_succ]
        refine wpAnyH_take (i := 5) (oi := { dst := some 93, op := Op.binOp BinOp.add 3 (Operand.const (Value.int IntKind.i64 1)) (Operand.tmp 92) 3, type := 3, pos := _, after := _, guard := none }) (v := ?vb5) rfl (by kernel_rfl) (by kernel_rfl) (by kernel_rfl) (fun _ _ _ h => h) (Or.inl ⟨by rfl, ?hyb5⟩) (by assumption) ?restb5
        case hyb5 => (intro w hSw; (try dsimp only at hSw); go_simp <;> with_reducible rfl)
        simp only [Act.put, List.setIfInBounds_toArray, List.set_cons_zero, List.set_cons_succ]
        refine wpAnyH_take (i := 6) (oi := { dst := some 94, op := Op.indexAddr 37 (Operand.tmp 90) (Operand.tmp 93), type := 0, pos := _, after := _, guard := none }) (v := ?vb6) rfl (by kernel_rfl) (by kernel_rfl) (by kernel_rfl) (fun _ _ _ h => h) (Or.inl ⟨by rfl, ?hyb6⟩) (by assumption) ?restb6
        case hyb6 => (intro w hSw; (try dsimp only at hSw); go_simp <;> with_reducible rfl)
        simp only [Act.put, List.setIfInBounds_toArray, List.set_cons_zero, List.set_cons_succ]
        refine wpAnyH_take (i := 7) (oi := { dst := some 95, op := Op.load 3 (Operand.tmp 94), type := 3, pos := _, after := _, guard := none }) (v := ?vb7) rfl (by kernel_rfl) (by kernel_rfl) (by kernel_rfl) (fun _ _ _ h => h) (Or.inl ⟨by rfl, ?hyb7⟩) (by assumption) ?restb7
        case hyb7 => (intro w hSw; (try dsimp only at hSw); go_simp <;> with_reducible rfl)
        simp only [Act.put, List.setIfInBounds_toArray, List.set_cons_zero, List.set_cons_succ]
        refine wpAnyH_take (i := 8) (oi := { dst := some 96, op := Op.move (Operand.tmp 9), type := 37, pos := _, after := _, guard := none }) (v := ?vb8) rfl (by kernel_rfl) (by kernel_rfl) (by kernel_rfl) (fun _ _ _ h => h) (Or.inl ⟨by rfl, ?hyb8⟩) (by assumption) ?restb8
        case hyb8 => (intro w hSw; (try dsimp only at hSw); go_simp <;> with_reducible rfl)
        simp only [Act.put, List.setIfInBounds_toArray, List.set_cons_zero, List.set_cons_succ]
        refine wpAnyH_take (i := 9) (oi := { dst := some 97, op := Op.move (Operand.tmp 11), type := 3, pos := _, after := _, guard := none }) (v := ?vb9) rfl (by kernel_rfl) (by kernel_rfl) (by kernel_rfl) (fun _ _ _ h => h) (Or.inl ⟨by rfl, ?hyb9⟩) (by assumption) ?restb9
        case hyb9 => (intro w hSw; (try dsimp only at hSw); go_simp <;> with_reducible rfl)
        simp only [Act.put, List.setIfInBounds_toArray, List.set_cons_zero, List.set_cons_succ]
        refine wpAnyH_take (i := 10) (oi := { dst := some 98, op := Op.binOp BinOp.mul 3 (Operand.const (Value.int IntKind.i64 3)) (Operand.tmp 97) 3, type := 3, pos := _, after := _, guard := none }) (v := ?vb10) rfl (by kernel_rfl) (by kernel_rfl) (by kernel_rfl) (fun _ _ _ h => h) (Or.inl ⟨by rfl, ?hyb10⟩) (by assumption) ?restb10
        case hyb10 => (intro w hSw; (try dsimp only at hSw); go_simp <;> with_reducible rfl)
        simp only [Act.put, List.setIfInBounds_toArray, List.set_cons_zero, List.set_cons_succ]
        refine wpAnyH_take (i := 11) (oi := { dst := some 99, op := Op.binOp BinOp.add 3 (Operand.const (Value.int IntKind.i64 2)) (Operand.tmp 98) 3, type := 3, pos := _, after := _, guard := none }) (v := ?vb11) rfl (by kernel_rfl) (by kernel_rfl) (by kernel_rfl) (fun _ _ _ h => h) (Or.inl ⟨by rfl, ?hyb11⟩) (by assumption) ?restb11
        case hyb11 => (intro w hSw; (try dsimp only at hSw); go_simp <;> with_reducible rfl)
        simp only [Act.put, List.setIfInBounds_toArray, List.set_cons_zero, List.set_cons_succ]
        refine wpAnyH_take (i := 12) (oi := { dst := some 100, op := Op.indexAddr 37 (Operand.tmp 96) (Operand.tmp 99), type := 0, pos := _, after := _, guard := none }) (v := ?vb12) rfl (by kernel_rfl) (by kernel_rfl) (by kernel_rfl) (fun _ _ _ h => h) (Or.inl ⟨by rfl, ?hyb12⟩) (by assumption) ?restb12
        case hyb12 => (intro w hSw; (try dsimp only at hSw); go_simp <;> with_reducible rfl)
        simp only [Act.put, List.setIfInBounds_toArray, List.set_cons_zero, List.set_cons_succ]
        refine wpAnyH_take (i := 13) (oi := { dst := some 101, op := Op.load 3 (Operand.tmp 100), type := 3, pos := _, after := _, guard := none }) (v := ?vb13) rfl (by kernel_rfl) (by kernel_rfl) (by kernel_rfl) (fun _ _ _ h => h) (Or.inl ⟨by rfl, ?hyb13⟩) (by assumption) ?restb13
        case hyb13 => (intro w hSw; (try dsimp only at hSw); go_simp <;> with_reducible rfl)
        simp only [Act.put, List.setIfInBounds_toArray, List.set_cons_zero, List.set_cons_succ]
        refine wpAnyH_take (i := 14) (oi := { dst := some 102, op := Op.move (Operand.tmp 9), type := 37, pos := _, after := _, guard := none }) (v := ?vb14) rfl (by kernel_rfl) (by kernel_rfl) (by kernel_rfl) (fun _ _ _ h => h) (Or.inl ⟨by rfl, ?hyb14⟩) (by assumption) ?restb14
        case hyb14 => (intro w hSw; (try dsimp only at hSw); go_simp <;> with_reducible rfl)
        simp only [Act.put, List.setIfInBounds_toArray, List.set_cons_zero, List.set_cons_succ]
        refine wpAnyH_take (i := 15) (oi := { dst := some 103, op := Op.move (Operand.tmp 11), type := 3, pos := _, after := _, guard := none }) (v := ?vb15) rfl (by kernel_rfl) (by kernel_rfl) (by kernel_rfl) (fun _ _ _ h => h) (Or.inl ⟨by rfl, ?hyb15⟩) (by assumption) ?restb15
        case hyb15 => (intro w hSw; (try dsimp only at hSw); go_simp <;> with_reducible rfl)
        simp only [Act.put, List.setIfInBounds_toArray, List.set_cons_zero, List.set_cons_succ]
        refine wpAnyH_take (i := 16) (oi := { dst := some 104, op := Op.binOp BinOp.mul 3 (Operand.const (Value.int IntKind.i64 3)) (Operand.tmp 103) 3, type := 3, pos := _, after := _, guard := none }) (v := ?vb16) rfl (by kernel_rfl) (by kernel_rfl) (by kernel_rfl) (fun _ _ _ h => h) (Or.inl ⟨by rfl, ?hyb16⟩) (by assumption) ?restb16
        case hyb16 => (intro w hSw; (try dsimp only at hSw); go_simp <;> with_reducible rfl)
        simp only [Act.put, List.setIfInBounds_toArray, List.set_cons_zero, List.set_cons_succ]
        refine wpAnyH_take (i := 17) (oi := { dst := some 105, op := Op.binOp BinOp.add 3 (Operand.const (Value.int IntKind.i64 3)) (Operand.tmp 104) 3, type := 3, pos := _, after := _, guard := none }) (v := ?vb17) rfl (by kernel_rfl) (by kernel_rfl) (by kernel_rfl) (fun _ _ _ h => h) (Or.inl ⟨by rfl, ?hyb17⟩) (by assumption) ?restb17
        case hyb17 => (intro w hSw; (try dsimp only at hSw); go_simp <;> with_reducible rfl)
        simp only [Act.put, List.setIfInBounds_toArray, List.set_cons_zero, List.set_cons_succ]
        refine wpAnyH_take (i := 18) (oi := { dst := some 106, op := Op.indexAddr 37 (Operand.tmp 102) (Operand.tmp 105), type := 0, pos := _, after := _, guard := none }) (v := ?vb18) rfl (by kernel_rfl) (by kernel_rfl) (by kernel_rfl) (fun _ _ _ h => h) (Or.inl ⟨by rfl, ?hyb18⟩) (by assumption) ?restb18
        case hyb18 => (intro w hSw; (try dsimp only at hSw); go_simp <;> with_reducible rfl)
        simp only [Act.put, List.setIfInBounds_toArray, List.set_cons_zero, List.set_cons_succ]
        refine wpAnyH_take (i := 19) (oi := { dst := some 107, op := Op.load 3 (Operand.tmp 106), type := 3, pos := _, after := _, guard := none }) (v := ?vb19) rfl (by kernel_rfl) (by kernel_rfl) (by kernel_rfl) (fun _ _ _ h => h) (Or.inl ⟨by rfl, ?hyb19⟩) (by assumption) ?restb19
        case hyb19 => (intro w hSw; (try dsimp only at hSw); go_simp <;> with_reducible rfl)
        simp only [Act.put, List.setIfInBounds_toArray, List.set_cons_zero, List.set_cons_succ]
        refine wpAnyH_take (i := 20) (oi := { dst := some 108, op := Op.build 121 #[(0, Operand.tmp 95), (1, Operand.tmp 101), (2, Operand.tmp 107)], type := 121, pos := _, after := _, guard := none }) (v := ?vb20) rfl (by kernel_rfl) (by kernel_rfl) (by kernel_rfl) (fun _ _ _ h => h) (Or.inl ⟨by rfl, ?hyb20⟩) (by assumption) ?restb20
        case hyb20 => (intro w hSw; (try dsimp only at hSw); go_simp <;> with_reducible rfl)
        simp only [Act.put, List.setIfInBounds_toArray, List.set_cons_zero, List.set_cons_succ]
        refine wpAnyH_ready (rs := [1, 21]) (by kernel_rfl) (by simp) ?_
        refine AllReadyH.cons (o := { dst := some 89, op := Op.load 38 (Operand.tmp 88), type := 38, pos := _, after := _, guard := none }) rfl (fun K' hK => ?_) (AllReadyH.cons (o := { dst := some 109, op := Op.buildSlice 38 1 #[(0, Operand.tmp 108)], type := 38, pos := _, after := _, guard := none }) rfl (fun K' hK => ?_) AllReadyH.nil)
        · go_simp
          refine hK.out _ _ (⟨y0, y1, y2⟩) (fun hHeld => ?_)
          clear hK K'
          refine wpAnyH_ready (rs := [21]) (by kernel_rfl) (by simp) ?_
          refine AllReadyH.cons (o := { dst := some 109, op := Op.buildSlice 38 1 #[(0, Operand.tmp 108)], type := 38, pos := _, after := _, guard := none }) rfl (fun K' hK => ?_) AllReadyH.nil
          go_simp
          refine hK.out _ _ (⟨a0, a1, a2⟩) (fun hHeld => ?_)
          clear hK K'
          refine wpAnyH_ready (rs := [22]) (by kernel_rfl) (by simp) ?_
          refine AllReadyH.cons (o := { dst := some 110, op := Op.call { callee := Callee.builtin Builtin.append, args := #[Operand.tmp 89, Operand.tmp 109], argTypes := #[38, 38] }, type := 38, pos := _, after := _, guard := none }) rfl (fun K' hK => ?_) AllReadyH.nil
          refine step_push rfl (.tmp 89) (.tmp 109) rfl B0 wr.drew (.slice A' j k') (runsD bs j) ⟨x, y, z9⟩ rfl rfl (by rw [runsD_len]; exact HO5.out) (by rw [runsD_len]; omega) (by show B0 ≤ wr.heap.size; omega) ?_
          intro u9 w6 ho6 hb6
          simp only [List.length_append, runsD_len, List.length_cons, List.length_nil, Nat.zero_add] at ho6
          obtain ⟨A6, c6, rfl, -⟩ := own_sps ho6
          have HG6 := Lib.hid (CdRow.below (w' := w6) HG5.out.dr hb6 hgB)
          have t7' := HG6.out.cells.2.2.2.2.2.2.2.1
          have tz' := HG6.out.fz 7
          have y0' := (hb6.cell (p := ⟨b', o' + (1 + 3 * j), none⟩) hbB).trans y0
          have y1' := (hb6.cell (p := ⟨b', o' + (2 + 3 * j), none⟩) hbB).trans y1
          have y2' := (hb6.cell (p := ⟨b', o' + (3 + 3 * j), none⟩) hbB).trans y2
          refine hK.out _ _ (⟨y0', y1', y2'⟩) (fun hHeld => ?_)
          clear hK K'
          refine wpAnyH_take (i := 23) (oi := { dst := some 111, op := Op.fieldAddr 40 (Operand.tmp 4) 7, type := 0, pos := _, after := _, guard := none }) (v := ?vbp23) rfl (by kernel_rfl) (by kernel_rfl) (by kernel_rfl) (fun _ _ _ h => h) (Or.inl ⟨by rfl, ?hybp23⟩) (by assumption) ?restbp23
          case hybp23 => (intro w hSw; (try dsimp only at hSw); go_simp <;> with_reducible rfl)
          simp only [Act.put, List.setIfInBounds_toArray, List.set_cons_zero, List.set_cons_succ]
          refine wpAnyH_ready (rs := [24]) (by kernel_rfl) (by simp) ?_
          refine AllReadyH.cons (o := { dst := none, op := Op.store 38 (Operand.tmp 111) (Operand.tmp 110), type := 0, pos := _, after := _, guard := none }) rfl (fun K' hK => ?_) AllReadyH.nil
          go_simp
          refine hK.out _ _ (⟨(set_cell_ne hn1 _).trans y0', (set_cell_ne hn1 _).trans y1', (set_cell_ne hn1 _).trans y2'⟩) (fun hHeld => ?_)
          clear hK K'
          refine wpAnyH_done (by kernel_rfl) ?_ _
          have HG7 : Hid (CdRow (w6.setCell ⟨w.heap.size + 1, 7, none⟩ (.slice A6 (j + 1) c6)) (w.heap.size + 1) ⟨2, kd, ln, sz, [], 0, 0, [], 0⟩ none 0 0 A6 (j + 1) c6) := row_set HG6.out rfl
          have hb7 : Below (w.heap.size + 1) wr (w6.setCell ⟨w.heap.size + 1, 7, none⟩ (.slice A6 (j + 1) c6)) := Below.setCell (p := ⟨w.heap.size + 1, 7, none⟩) (Below.und (hb6.mono (Nat.le_of_lt hgB))) (Nat.le_refl _) _
          have HO7 : Hid ((w6.setCell ⟨w.heap.size + 1, 7, none⟩ (.slice A6 (j + 1) c6)).ownsRow B0 121 3 (.slice A6 (j + 1) c6) (j + 1) (spsCells (runsD bs (j + 1)))) := by
            show World.ownsRow _ _ _ _ _ _ _
            rw [HRS.out]; exact own_set ho6 (w.heap.size + 1) 7 _ hgB
          have HK7 : Hid (B0 ≤ (w6.setCell ⟨w.heap.size + 1, 7, none⟩ (.slice A6 (j + 1) c6)).heap.size ∧ ∀ k, k < 11 → (w6.setCell ⟨w.heap.size + 1, 7, none⟩ (.slice A6 (j + 1) c6)).cell? ⟨b', o' + k, none⟩ = some (.int .i64 ((fieldsN bs).getD k 0))) :=
            ⟨Nat.le_trans hB0s hb7.size, fun k hk => (set_cell_ne hn1 _).trans ((hb6.cell (p := ⟨b', o' + k, none⟩) hbB).trans (HK5.out.2 k hk))⟩
          have HR7 := Lib.hid (HR5.out.below hb7 (Nat.lt_succ_self _))
          have HB7 := Lib.hid (HB5.out.trans (hb7.mono (Nat.le_succ _)))
          clear y0' y1' y2' t7' tz' hb6 hb7 ho6 hHeld
          generalize (w6.setCell ⟨w.heap.size + 1, 7, none⟩ (.slice A6 (j + 1) c6)) = w7 at *
          clear x1 x2 x3 x4 x5 x6 x7
          go_wp2
          go_roundw
          case rel => exact ⟨j + 1, A6, c6, by omega, by go_num, HG7.out, HO7.out, HR7.out, HK7.out, HB7.out⟩
          case measure => simp [intOf]; omega
        · go_simp
          refine hK.out _ _ (⟨a0, a1, a2⟩) (fun hHeld => ?_)
          clear hK K'
          refine wpAnyH_ready (rs := [1]) (by kernel_rfl) (by simp) ?_
          refine AllReadyH.cons (o := { dst := some 89, op := Op.load 38 (Operand.tmp 88), type := 38, pos := _, after := _, guard := none }) rfl (fun K' hK => ?_) AllReadyH.nil
          go_simp
          refine hK.out _ _ (⟨a0, a1, a2⟩) (fun hHeld => ?_)
          clear hK K'
          refine wpAnyH_ready (rs := [22]) (by kernel_rfl) (by simp) ?_
          refine AllReadyH.cons (o := { dst := some 110, op := Op.call { callee := Callee.builtin Builtin.append, args := #[Operand.tmp 89, Operand.tmp 109], argTypes := #[38, 38] }, type := 38, pos := _, after := _, guard := none }) rfl (fun K' hK => ?_) AllReadyH.nil
          refine step_push rfl (.tmp 89) (.tmp 109) rfl B0 wr.drew (.slice A' j k') (runsD bs j) ⟨x, y, z9⟩ rfl rfl (by rw [runsD_len]; exact HO5.out) (by rw [runsD_len]; omega) (by show B0 ≤ wr.heap.size; omega) ?_
          intro u9 w6 ho6 hb6
          simp only [List.length_append, runsD_len, List.length_cons, List.length_nil, Nat.zero_add] at ho6
          obtain ⟨A6, c6, rfl, -⟩ := own_sps ho6
          have HG6 := Lib.hid (CdRow.below (w' := w6) HG5.out.dr hb6 hgB)
          have t7' := HG6.out.cells.2.2.2.2.2.2.2.1
          have tz' := HG6.out.fz 7
          have y0' := (hb6.cell (p := ⟨b', o' + (1 + 3 * j), none⟩) hbB).trans y0
          have y1' := (hb6.cell (p := ⟨b', o' + (2 + 3 * j), none⟩) hbB).trans y1
          have y2' := (hb6.cell (p := ⟨b', o' + (3 + 3 * j), none⟩) hbB).trans y2
          refine hK.out _ _ (⟨y0', y1', y2'⟩) (fun hHeld => ?_)
          clear hK K'
          refine wpAnyH_take (i := 23) (oi := { dst := some 111, op := Op.fieldAddr 40 (Operand.tmp 4) 7, type := 0, pos := _, after := _, guard := none }) (v := ?vbq23) rfl (by kernel_rfl) (by kernel_rfl) (by kernel_rfl) (fun _ _ _ h => h) (Or.inl ⟨by rfl, ?hybq23⟩) (by assumption) ?restbq23
          case hybq23 => (intro w hSw; (try dsimp only at hSw); go_simp <;> with_reducible rfl)
          simp only [Act.put, List.setIfInBounds_toArray, List.set_cons_zero, List.set_cons_succ]
          refine wpAnyH_ready (rs := [24]) (by kernel_rfl) (by simp) ?_
          refine AllReadyH.cons (o := { dst := none, op := Op.store 38 (Operand.tmp 111) (Operand.tmp 110), type := 0, pos := _, after := _, guard := none }) rfl (fun K' hK => ?_) AllReadyH.nil
          go_simp
          refine hK.out _ _ (⟨(set_cell_ne hn1 _).trans y0', (set_cell_ne hn1 _).trans y1', (set_cell_ne hn1 _).trans y2'⟩) (fun hHeld => ?_)
          clear hK K'
          refine wpAnyH_done (by kernel_rfl) ?_ _
          have HG7 : Hid (CdRow (w6.setCell ⟨w.heap.size + 1, 7, none⟩ (.slice A6 (j + 1) c6)) (w.heap.size + 1) ⟨2, kd, ln, sz, [], 0, 0, [], 0⟩ none 0 0 A6 (j + 1) c6) := row_set HG6.out rfl
          have hb7 : Below (w.heap.size + 1) wr (w6.setCell ⟨w.heap.size + 1, 7, none⟩ (.slice A6 (j + 1) c6)) := Below.setCell (p := ⟨w.heap.size + 1, 7, none⟩) (Below.und (hb6.mono (Nat.le_of_lt hgB))) (Nat.le_refl _) _
          have HO7 : Hid ((w6.setCell ⟨w.heap.size + 1, 7, none⟩ (.slice A6 (j + 1) c6)).ownsRow B0 121 3 (.slice A6 (j + 1) c6) (j + 1) (spsCells (runsD bs (j + 1)))) := by
            show World.ownsRow _ _ _ _ _ _ _
            rw [HRS.out]; exact own_set ho6 (w.heap.size + 1) 7 _ hgB
          have HK7 : Hid (B0 ≤ (w6.setCell ⟨w.heap.size + 1, 7, none⟩ (.slice A6 (j + 1) c6)).heap.size ∧ ∀ k, k < 11 → (w6.setCell ⟨w.heap.size + 1, 7, none⟩ (.slice A6 (j + 1) c6)).cell? ⟨b', o' + k, none⟩ = some (.int .i64 ((fieldsN bs).getD k 0))) :=
            ⟨Nat.le_trans hB0s hb7.size, fun k hk => (set_cell_ne hn1 _).trans ((hb6.cell (p := ⟨b', o' + k, none⟩) hbB).trans (HK5.out.2 k hk))⟩
          have HR7 := Lib.hid (HR5.out.below hb7 (Nat.lt_succ_self _))
          have HB7 := Lib.hid (HB5.out.trans (hb7.mono (Nat.le_succ _)))
          clear y0' y1' y2' t7' tz' hb6 hb7 ho6 hHeld
          generalize (w6.setCell ⟨w.heap.size + 1, 7, none⟩ (.slice A6 (j + 1) c6)) = w7 at *
          clear x1 x2 x3 x4 x5 x6 x7
          go_wp2
          go_roundw
          case rel => exact ⟨j + 1, A6, c6, by omega, by go_num, HG7.out, HO7.out, HR7.out, HK7.out, HB7.out⟩
          case measure => simp [intOf]; omega
      · obtain rfl : j = m := by omega
        have yo : wr.cell? ⟨b', o' + 10, none⟩ = some (.int .i64 (decF bs 27 2)) := HK5.out.2 10 (by omega)
        have HOV := Lib.hid (HFF.out 27 2 (by omega))
        rw [HMC.out] at HCE
        have HFI := Lib.hid (runsD_fit bs HFF.out j)
        have HRL := Lib.hid (runsD_len bs j)
        generalize decF bs 27 2 = ov at *
        have t8 := HG5.out.cells.2.2.2.2.2.2.2.2
        have tz := HG5.out.fz 8
        have jnl : ¬ (j : Int) < (cz : Int) ∨ ¬ (j : Int) < 3 := by omega
        go_upto_region 22 with fail
        have HG7 : Hid (CdRow (wr.setCell ⟨w.heap.size + 1, 8, none⟩ (.int .i64 ov)) (w.heap.size + 1) ⟨2, kd, ln, sz, [], 0, 0, runsD bs j, ov⟩ none 0 0 A' j k') := row_set HG5.out rfl
        have hb7 : Below (w.heap.size + 1) wr (wr.setCell ⟨w.heap.size + 1, 8, none⟩ (.int .i64 ov)) := Below.setCell (p := ⟨w.heap.size + 1, 8, none⟩) (Below.refl _ wr) (Nat.le_refl _) _
        have HO7 : Hid ((wr.setCell ⟨w.heap.size + 1, 8, none⟩ (.int .i64 ov)).ownsRow B0 121 3 (.slice A' j k') j (spsCells (runsD bs j))) := own_set HO5.out (w.heap.size + 1) 8 _ hgB
        have HR7 := Lib.hid (HR5.out.below hb7 (Nat.lt_succ_self _))
        have HB7 := Lib.hid (HB5.out.trans (hb7.mono (Nat.le_succ _)))
        clear hb7 t8 tz yo yz jnl
        generalize (wr.setCell ⟨w.heap.size + 1, 8, none⟩ (.int .i64 ov)) = w7 at *
        have HC7 : Hid (CdAt w7 w7.heap.size (cdv ⟨2, kd, ln, sz, [], 0, 0, runsD bs j, ov⟩ none 0 0 A' j k') c) := by
          show CdAt _ _ _ c
          rw [HCE.out]
          refine ⟨none, 0, 0, A', j, k', rfl, ⟨rfl, by simp, fun k hk => absurd hk (by omega)⟩, ?_, by omega, by omega, (by show Fit 2; decide), F_kd.out, F_ln.out, F_sz.out, (by show Fit 0; decide), (by show Fit 0; decide), HOV.out⟩
          have h := HO7.out
          have hl := HRL.out
          generalize runsD bs j = rs at *
          subst hl
          exact SpsAt.of_own h rfl HFI.out
        have HFQ : Hid (Fresh (w.heap.size + 1) A') := own_fresh HO7.out (by omega)
        generalize runsD bs j = rs at *
        obtain ⟨e0, e1, e2, e3, e4, e5, e6, e7, e8⟩ := HG7.out.cells
        simp only at e0 e1 e2 e3 e4 e5 e6 e7 e8
        go_wp2_with fail
        refine (HWA.out _ w7.heap.size w7 HC7.out (Nat.le_refl _)).mono ?_
        rintro e wz ⟨rfl, bz⟩
        have HGz := Lib.hid (HG7.out.below bz HG7.out.lt)
        have HCz := Lib.hid ((HC7.out.below bz (Nat.le_refl _)).more bz.size)
        have HRz := Lib.hid (HR7.out.below bz HR7.out.lt)
        have HBz := Lib.hid (HB7.out.trans (bz.mono HB7.out.size))
        clear e0 e1 e2 e3 e4 e5 e6 e7 e8 bz
        obtain ⟨e0, e1, e2, e3, e4, e5, e6, e7, e8⟩ := HGz.out.cells
        simp only at e0 e1 e2 e3 e4 e5 e6 e7 e8
        obtain ⟨r0, r1, r2, r3, r4, r5, r6, r7, r8⟩ := HRz.out.cells
        have zr := HRz.out.fz
        rcases HZ.out with rfl | rfl
        · by_cases hts : t = s
          · subst hts
            have HE : Hid (readC t = (c, 0)) := by show _ = _; rw [HRC.out, if_pos rfl]
            clear HRC
            go_wp2
            clear e0 e1 e2 e3 e4 e5 e6 e7 e8 r0 r1 r2 r3 r4 r5 r6 r7 r8 zr
            have HR8 : Hid (CdRow (put9 wz w.heap.size ⟨2, kd, ln, sz, [], 0, 0, rs, ov⟩ none 0 0 A' j k') w.heap.size ⟨2, kd, ln, sz, [], 0, 0, rs, ov⟩ none 0 0 A' j k') := put9_row HRz.out
            have HB8 : Hid (Below w.heap.size w (put9 wz w.heap.size ⟨2, kd, ln, sz, [], 0, 0, rs, ov⟩ none 0 0 A' j k')) := put9_below HBz.out (Nat.le_refl _)
            have HC8 : Hid (CdAt (put9 wz w.heap.size ⟨2, kd, ln, sz, [], 0, 0, rs, ov⟩ none 0 0 A' j k') (put9 wz w.heap.size ⟨2, kd, ln, sz, [], 0, 0, rs, ov⟩ none 0 0 A' j k').heap.size (cdv ⟨2, kd, ln, sz, [], 0, 0, rs, ov⟩ none 0 0 A' j k') c) := by
              have h := HCz.out
              rw [HCE.out] at h
              show CdAt _ _ _ c
              rw [HCE.out]
              exact cd_put9 h (Nat.le_refl _) (Fresh.none _) (HFQ.out)
            unfold put9 at HR8 HB8 HC8
            simp only at HR8 HB8 HC8
            generalize World.setCell _ ⟨w.heap.size, 8, none⟩ _ = w8 at *
            obtain ⟨r0, r1, r2, r3, r4, r5, r6, r7, r8⟩ := HR8.out.cells
            refine bodyPost_ret (v := .tuple #[cdv ⟨2, kd, ln, sz, [], 0, 0, rs, ov⟩ none 0 0 A' j k', .int .i64 0]) (by simp [results, Tryz.results70, go_sem, r0, r1, r2, r3, r4, r5, r6, r7, r8]) rfl ?_
            rw [HE.out]
            exact ⟨_, rfl, cd_new HC8.out (Fresh.none _) (fun b o e => by have := HFQ.out b o e; omega), HB8.out⟩
          · have HE : Hid (readC s = (zeroC, 15)) := by show _ = _; rw [HRC.out, if_neg (fun h => hts (by injection h))]
            have hl : t.toList ≠ s.toList := fun h => hts (ByteArray.ext (Array.ext' (by rw [ByteArray.toList_eq, ByteArray.toList_eq] at h; exact h)))
            have q1 : (t.toList == s.toList) = false := by simpa using hl
            have q2 : (t.toList != s.toList) = true := by simpa using hl
            clear HRC hts hl
            go_wp2
            clear e0 e1 e2 e3 e4 e5 e6 e7 e8 r0 r1 r2 r3 r4 r5 r6 r7 r8 zr
            have HR8 : Hid (CdRow (put9 wz w.heap.size zeroC none 0 0 none 0 0) w.heap.size zeroC none 0 0 none 0 0) := put9_row HRz.out
            have HB8 : Hid (Below w.heap.size w (put9 wz w.heap.size zeroC none 0 0 none 0 0)) := put9_below HBz.out (Nat.le_refl _)
            unfold put9 zeroC at HR8 HB8
            simp only at HR8 HB8
            generalize World.setCell _ ⟨w.heap.size, 8, none⟩ _ = w8 at *
            obtain ⟨r0, r1, r2, r3, r4, r5, r6, r7, r8⟩ := HR8.out.cells
            refine bodyPost_ret (v := .tuple #[cdv zeroC none 0 0 none 0 0, .int .i64 15]) (by simp [results, Tryz.results70, go_sem, r0, r1, r2, r3, r4, r5, r6, r7, r8, zeroC]) rfl ?_
            rw [HE.out]
            exact ⟨_, rfl, cdn_zero _ _, HB8.out⟩
        · have HE : Hid (readC s = (zeroC, 15)) := by show _ = _; rw [HRC.out, if_neg (fun h => by injection h with _ h; cases h)]
          clear HRC
          go_wp2
          clear e0 e1 e2 e3 e4 e5 e6 e7 e8 r0 r1 r2 r3 r4 r5 r6 r7 r8 zr
          have HR8 : Hid (CdRow (put9 wz w.heap.size zeroC none 0 0 none 0 0) w.heap.size zeroC none 0 0 none 0 0) := put9_row HRz.out
          have HB8 : Hid (Below w.heap.size w (put9 wz w.heap.size zeroC none 0 0 none 0 0)) := put9_below HBz.out (Nat.le_refl _)
          unfold put9 zeroC at HR8 HB8
          simp only at HR8 HB8
          generalize World.setCell _ ⟨w.heap.size, 8, none⟩ _ = w8 at *
          obtain ⟨r0, r1, r2, r3, r4, r5, r6, r7, r8⟩ := HR8.out.cells
          refine bodyPost_ret (v := .tuple #[cdv zeroC none 0 0 none 0 0, .int .i64 15]) (by simp [results, Tryz.results70, go_sem, r0, r1, r2, r3, r4, r5, r6, r7, r8, zeroC]) rfl ?_
          rw [HE.out]
          exact ⟨_, rfl, cdn_zero _ _, HB8.out⟩

end Go.Proofs.YtapjbffhihhnbaaGreat

namespace Go.Proofs.YtapjbffhihhnbaaGreat
open Go.RowKit

set_option maxRecDepth 100000 in
set_option maxHeartbeats 1000000 in
theorem rread9_new (s : ByteArray) (w : World) (_hsz : s.size ≤ 9223372036854775807) : Calls Tryz.prog 70 #[.string s] w (RetCN w (readC s).1 (readC s).2) := by
  by_cases h32 : s.size = 32
  · by_cases h0 : decF (bytesOf s) 0 1 = 0
    · exact rread0_new s w h32 h0
    · by_cases h1 : decF (bytesOf s) 0 1 = 1
      · exact rread1_new s w h32 h1
      · by_cases h2 : decF (bytesOf s) 0 1 = 2
        · exact rread2_new s w h32 h2
        · exact rreadX_new s w h32 h0 h1 h2
  · have hne : ((s.size : Int) != 32) = true := bne_iff_ne.2 (by omega)
    have HE : Hid (readC s = (zeroC, 15)) := by show _ = _; unfold readC; rw [if_neg (fun h => h32 h.1)]
    have HB : Hid (∀ o : Obj, Below w.heap.size w (w.alloc o)) := fun o => (Below.refl _ _).alloc (Nat.le_refl _) _
    clear h32
    go_enter Tryz.func70, Tryz.ntmps70
    go_wp2
    refine bodyPost_ret (v := .tuple #[cdv zeroC none 0 0 none 0 0, .int .i64 15]) (by simp [results, Tryz.results70, go_sem, zeroC]) rfl ?_
    rw [HE.out]
    exact ⟨_, rfl, cdn_zero _ _, HB.out _⟩
theorem rread9_any (s : ByteArray) (w : World) (hsz : s.size ≤ 9223372036854775807) : Calls Tryz.prog 70 #[.string s] w (RetCE w (readC s).1 (readC s).2) := (rread9_new s w hsz).mono fun _ _ h => h.ce
end Go.Proofs.YtapjbffhihhnbaaGreat
