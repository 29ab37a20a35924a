/-
  WALKS: Card and SetCard of a deal. Condition: a deal on a calm slab.
-/
import Derived.Test.YtapjbffhihhnbaaGreatDG
import Derived.Test.YtapjbffhihhnbaaGreatBJ
import Derived.Test.YtapjbffhihhnbaaGreatBQ
set_option linter.unusedVariables false
set_option linter.unusedSimpArgs false
set_option maxRecDepth 100000
set_option maxHeartbeats 4000000
namespace Go.Proofs.YtapjbffhihhnbaaGreat.Dl
open Go.RowKit
open Sl (Turns SlabAt)
open Lg (Ch chCells chsCells FS LogAt Whole setL setL_len ownB bcell)

def crdB (V : List ByteArray) (n : Nat) : ByteArray := (V.getD (43 + n / 4) ⟨#[]⟩).extract (32 * (n % 4)) (32 * (n % 4) + 32)
def crdC (V : List ByteArray) (n : Int) : Cd := if Kr.inB n 0 31 = true then (readC (crdB V n.toNat)).1 else zeroC
def crdE (V : List ByteArray) (n : Int) : Int := if Kr.inB n 0 31 = true then (readC (crdB V n.toNat)).2 else 5
def plc (V : List ByteArray) (n : Nat) (c : Cd) : ByteArray := (V.getD (43 + n / 4) ⟨#[]⟩).extract 0 (32 * (n % 4)) ++ (writeC c).1 ++ (V.getD (43 + n / 4) ⟨#[]⟩).extract (32 * (n % 4) + 32) 128
def sdOk (n : Int) (c : Cd) : Bool := Kr.inB n 0 31 && rightC c
def sdE (n : Int) (c : Cd) : Int := if Kr.inB n 0 31 = true then (writeC c).2 else 5
def sdV (V : List ByteArray) (n : Int) (c : Cd) : List ByteArray := if sdOk n c = true then V.set (43 + n.toNat / 4) (plc V n.toNat c) else V

theorem isP_card {s : ByteArray} (hs : s.size = 128) (n : Nat) : isP s ((n : Int) % 4) = true := by
  have h1 : (0 : Int) ≤ (n : Int) % 4 := by omega
  have h2 : (n : Int) % 4 ≤ 3 := by omega
  unfold isP
  rw [hs, decide_eq_true h1, decide_eq_true h2]; rfl
theorem has_card {N n : Nat} (h : 64 ≤ N) (hn : n ≤ 31) : hasB N (43 + (n : Int) / 4) = true := hasB_t.2 (by omega)
theorem rd_card {V : List ByteArray} (hN : 64 ≤ V.length) {n : Nat} (hn : n ≤ 31) : rdB V (43 + (n : Int) / 4) = V.getD (43 + n / 4) ⟨#[]⟩ := by
  unfold rdB
  rw [if_pos (has_card hN hn), show (43 + (n : Int) / 4).toNat = 43 + n / 4 by omega]
theorem pick_card {V : List ByteArray} (hw : Whole V) (hN : 64 ≤ V.length) {n : Nat} (hn : n ≤ 31) : pickR (V.getD (43 + n / 4) ⟨#[]⟩) ((n : Int) % 4) = (crdB V n, 0) := by
  have hs := hw.get (k := 43 + n / 4) (by omega)
  unfold pickR crdB
  rw [if_pos (isP_card hs n), show ((n : Int) % 4).toNat = n % 4 by omega]
theorem crdB_size {V : List ByteArray} (hw : Whole V) (hN : 64 ≤ V.length) {n : Nat} (hn : n ≤ 31) : (crdB V n).size = 32 := by
  have hs := hw.get (k := 43 + n / 4) (by omega)
  unfold crdB
  rw [ByteArray.size_extract, hs]; omega
theorem place_card {V : List ByteArray} (hw : Whole V) (hN : 64 ≤ V.length) {n : Nat} (hn : n ≤ 31) {c : Cd} (hc : rightC c = true) : placeR (V.getD (43 + n / 4) ⟨#[]⟩) ((n : Int) % 4) (writeC c).1 = (plc V n c, 0) := by
  have hs := hw.get (k := 43 + n / 4) (by omega)
  unfold placeR plc
  rw [if_pos ⟨isP_card hs n, writeC_size hc⟩, show ((n : Int) % 4).toNat = n % 4 by omega]
theorem plc_size {V : List ByteArray} (hw : Whole V) (hN : 64 ≤ V.length) {n : Nat} (hn : n ≤ 31) {c : Cd} (hc : rightC c = true) : (plc V n c).size = 128 := by
  have hs := hw.get (k := 43 + n / 4) (by omega)
  unfold plc
  rw [ByteArray.size_append, ByteArray.size_append, ByteArray.size_extract, ByteArray.size_extract, hs, writeC_size hc]; omega
theorem wr_card {V : List ByteArray} (hw : Whole V) (hN : 64 ≤ V.length) {n : Nat} (hn : n ≤ 31) {c : Cd} (hc : rightC c = true) :
    wrE V (43 + (n : Int) / 4) (plc V n c) = 0 ∧ wrV V (43 + (n : Int) / 4) (plc V n c) = V.set (43 + n / 4) (plc V n c) := by
  have hz := plc_size hw hN hn hc
  have e : wrOk V (43 + (n : Int) / 4) (plc V n c) = true := by unfold wrOk; rw [has_card hN hn, hz]; rfl
  unfold wrE wrV
  rw [if_pos e, if_pos e, Lg.padS_full hz, show (43 + (n : Int) / 4).toNat = 43 + n / 4 by omega]
  exact ⟨rfl, rfl⟩

theorem card_dv (B d q p pd pm k c : Nat) (D V : List ByteArray) (v : Value) (n : Int) (w : World) (h : DV w B d q p pd pm k c D V v) :
    Calls Tryz.prog 24 #[.pointer (some ⟨d, 0, none⟩), .int .i64 n] w (RetCN w (crdC V n) (crdE V n)) := by
  have HX0 : Hid (CdRow (w.alloc (.cells (cells9 zeroC none 0 0 none 0 0) 40)) w.heap.size zeroC none 0 0 none 0 0) := CdRow.new w zeroC none 0 0 none 0 0
  have HB0 : Hid (Below w.heap.size w (w.alloc (.cells (cells9 zeroC none 0 0 none 0 0) 40))) := (Below.refl _ _).alloc (Nat.le_refl _) _
  unfold crdC crdE
  cases hi : Kr.inB n 0 31 with
  | false =>
    have HC := Lib.hid (fun W => Kr.card_no n W hi)
    rw [if_neg (by decide), if_neg (by decide)]
    clear h hi
    unfold cells9 zeroC at HB0 HX0
    simp only at HB0 HX0
    go_enter Tryz.func24, Tryz.ntmps24
    go_wp2_with fail
    refine (HC.out _).mono ?_
    rintro e w2 ⟨rfl, h2⟩
    rw [h2] at HX0 HB0
    clear h2
    obtain ⟨r0, r1, r2, r3, r4, r5, r6, r7, r8⟩ := HX0.out.cells
    have zr := HX0.out.fz
    go_wp2
    clear r0 r1 r2 r3 r4 r5 r6 r7 r8 zr
    have HR8 : Hid (CdRow (put9 w2 w.heap.size zeroC none 0 0 none 0 0) w.heap.size zeroC none 0 0 none 0 0) := put9_row HX0.out
    have HB8 : Hid (Below w.heap.size w (put9 w2 w.heap.size zeroC none 0 0 none 0 0)) := put9_below HB0.out (Nat.le_refl _)
    unfold put9 zeroC at HR8 HB8
    simp only at HR8 HB8
    generalize World.setCell _ ⟨w.heap.size, 8, none⟩ _ = w8 at *
    obtain ⟨r0, r1, r2, r3, r4, r5, r6, r7, r8⟩ := HR8.out.cells
    refine bodyPost_ret (v := .tuple #[cdv zeroC none 0 0 none 0 0, .int .i64 5]) (by simp [results, Tryz.results24, go_sem, r0, r1, r2, r3, r4, r5, r6, r7, r8, zeroC]) rfl ?_
    exact ⟨_, rfl, cdn_zero _ _, HB8.out⟩
  | true =>
    obtain ⟨h0, h1⟩ := Kr.inB_t hi
    obtain ⟨n, rfl⟩ := Int.eq_ofNat_of_zero_le h0
    have hn : n ≤ 31 := by omega
    have HC := Lib.hid (fun W => Kr.card_ok n W hn)
    have hN : 64 ≤ V.length := by rw [h.len]; exact h.least
    rw [if_pos rfl, if_pos rfl, show ((n : Int)).toNat = n by omega]
    have HRD := Lib.hid (fun (W : World) (hW : Below w.heap.size w W) => read_dv B d q p pd pm k c D V v (43 + (n : Int) / 4) W (h.below hW))
    rw [rd_card hN hn] at HRD
    have HPK := Lib.hid (fun W => pick_any (V.getD (43 + n / 4) ⟨#[]⟩) ((n : Int) % 4) W)
    rw [pick_card h.whole hN hn] at HPK
    have hsz := crdB_size h.whole hN hn
    have HR9 := Lib.hid (fun W => read9_new (crdB V n) W (by omega))
    simp only at HPK
    generalize crdB V n = s at *
    generalize V.getD (43 + n / 4) ⟨#[]⟩ = b at *
    generalize rdE V (43 + (n : Int) / 4) = ze at *
    generalize (readC s).1 = cd at *
    generalize (readC s).2 = z at *
    generalize hki : 43 + (n : Int) / 4 = ki at *
    generalize hkm : (n : Int) % 4 = km at *
    clear h h0 h1 hi hn hN hsz hki hkm
    unfold cells9 zeroC at HB0 HX0
    simp only at HB0 HX0
    go_enter Tryz.func24, Tryz.ntmps24
    go_wp2_with fail
    refine (HC.out _).mono ?_
    rintro e w2 ⟨rfl, h2⟩
    rw [h2] at HX0 HB0
    clear h2
    go_wp2_with (first
      | (go_at_call 20; refine (HRD.out _ HB0.out).mono ?_; rintro e w3 ⟨rfl, b3⟩
         have HB3 := Lib.hid (HB0.out.trans (b3.mono HB0.out.size))
         have HX3 := Lib.hid (HX0.out.below b3 HX0.out.lt)
         clear b3 HX0 HB0)
      | (go_at_call 53; refine (HPK.out _).mono ?_; rintro e w4 ⟨rfl, b4⟩
         have HB4 := Lib.hid (HB3.out.trans (b4.mono HB3.out.size))
         have HX4 := Lib.hid (HX3.out.below b4 HX3.out.lt)
         clear b4 HX3 HB3)
      | (go_at_call 54; refine (HR9.out _).mono ?_; rintro e w5 ⟨v5, rfl, n5, b5⟩
         obtain ⟨A, m, l, A', m', l', q1, q2, rfl, i5, s5, bm, bm', f5⟩ := n5
         have HQ1 : Hid (Fresh (w.heap.size + 1) A) := fun b o e => by have := q1 b o e; have := HX4.out.lt; omega
         have HQ2 : Hid (Fresh (w.heap.size + 1) A') := fun b o e => by have := q2 b o e; have := HX4.out.lt; omega
         have HC5 : Hid (CdAt w5 w5.heap.size (cdv cd A m l A' m' l') cd) := ⟨A, m, l, A', m', l', rfl, i5, s5, bm, bm', f5⟩
         have HB5 := Lib.hid (HB4.out.trans (b5.mono HB4.out.size))
         have HX5 := Lib.hid (HX4.out.below b5 HX4.out.lt)
         clear b5 HX4 HB4 q1 q2 i5 s5 bm bm' f5
         obtain ⟨r0, r1, r2, r3, r4, r5, r6, r7, r8⟩ := HX5.out.cells
         have zr := HX5.out.fz))
    clear r0 r1 r2 r3 r4 r5 r6 r7 r8 zr
    have HR8 : Hid (CdRow (put9 w5 w.heap.size cd A m l A' m' l') w.heap.size cd A m l A' m' l') := put9_row HX5.out
    have HB8 : Hid (Below w.heap.size w (put9 w5 w.heap.size cd A m l A' m' l')) := put9_below HB5.out (Nat.le_refl _)
    have HC8 : Hid (CdAt (put9 w5 w.heap.size cd A m l A' m' l') (put9 w5 w.heap.size cd A m l A' m' l').heap.size (cdv cd A m l A' m' l') cd) := cd_put9 HC5.out (Nat.le_refl _) HQ1.out HQ2.out
    unfold put9 at HR8 HB8 HC8
    generalize World.setCell _ ⟨w.heap.size, 8, none⟩ _ = w8 at *
    obtain ⟨r0, r1, r2, r3, r4, r5, r6, r7, r8⟩ := HR8.out.cells
    refine bodyPost_ret (v := .tuple #[cdv cd A m l A' m' l', .int .i64 z]) (by simp [results, Tryz.results24, go_sem, r0, r1, r2, r3, r4, r5, r6, r7, r8]) rfl ?_
    exact ⟨_, rfl, cd_new HC8.out (fun b o e => by have := HQ1.out b o e; omega) (fun b o e => by have := HQ2.out b o e; omega), HB8.out⟩
theorem card_nil (n : Int) (w : World) : Calls Tryz.prog 24 #[.pointer none, .int .i64 n] w fun e w' => e = .returned (.tuple #[cdv zeroC none 0 0 none 0 0, .int .i64 1]) ∧ Below w.heap.size w w' := by
  have HB0 : Hid (Below w.heap.size w (w.alloc (.cells (cells9 zeroC none 0 0 none 0 0) 40))) := (Below.refl _ _).alloc (Nat.le_refl _) _
  unfold cells9 zeroC at HB0
  simp only at HB0
  go_enter Tryz.func24, Tryz.ntmps24
  go_wp2
  refine bodyPost_ret (v := .tuple #[cdv zeroC none 0 0 none 0 0, .int .i64 1]) (by simp [results, Tryz.results24, go_sem, zeroC]) rfl ?_
  exact ⟨rfl, HB0.out⟩

theorem setcard_dv (B d q p pd pm k c : Nat) (D V : List ByteArray) (v vc : Value) (n : Int) (cd : Cd) (BC : Nat) (w : World) (h : DV w B d q p pd pm k c D V v) (hc : CdAt w BC vc cd) (hBC : BC ≤ w.heap.size) :
    Calls Tryz.prog 25 #[.pointer (some ⟨d, 0, none⟩), .int .i64 n, vc] w fun e w' => e = .returned (.int .i64 (sdE n cd)) ∧ WroteV w B d q p pd pm k c D (sdV V n cd) v w' := by
  obtain ⟨A, m, l, A', m', l', rfl, hc'⟩ := hc
  have HC0 : Hid (CdAt w BC (cdv cd A m l A' m' l') cd) := ⟨A, m, l, A', m', l', rfl, hc'⟩
  have HX0 : Hid (CdRow (w.alloc (.cells (cells9 cd A m l A' m' l') 40)) w.heap.size cd A m l A' m' l') := CdRow.new w cd A m l A' m' l'
  have HB0 : Hid (Below w.heap.size w (w.alloc (.cells (cells9 cd A m l A' m' l') 40))) := (Below.refl _ _).alloc (Nat.le_refl _) _
  have HD := Lib.hid h
  unfold sdE sdV sdOk
  clear hc'
  cases hi : Kr.inB n 0 31 with
  | false =>
    have HC := Lib.hid (fun W => Kr.card_no n W hi)
    rw [Bool.false_and, if_neg (by decide), if_neg (by decide)]
    clear h hi
    unfold cells9 at HB0 HX0
    go_enter Tryz.func25, Tryz.ntmps25
    go_wp2_with (go_at_call 52; refine (HC.out _).mono ?_; rintro e w1 ⟨rfl, h1⟩; rw [h1] at HB0; clear h1)
    go_ret
    exact ⟨rfl, v, HD.out.below HB0.out, Turns.of_below _ HB0.out⟩
  | true =>
    obtain ⟨h0, h1⟩ := Kr.inB_t hi
    obtain ⟨n, rfl⟩ := Int.eq_ofNat_of_zero_le h0
    have hn : n ≤ 31 := by omega
    have HC := Lib.hid (fun W => Kr.card_ok n W hn)
    have hN : 64 ≤ V.length := by rw [h.len]; exact h.least
    have hw := h.whole
    have HWR := Lib.hid (fun (W : World) (hW : Below w.heap.size w W) => write9_any (cdv cd A m l A' m' l') cd BC W (HC0.out.below hW hBC) (Nat.le_trans hBC hW.size))
    rw [if_pos rfl, Bool.true_and, show ((n : Int)).toNat = n by omega]
    cases hr : rightC cd with
    | false =>
      rw [writeC_no hr] at HWR ⊢
      rw [if_neg (by decide)]
      generalize 43 + (n : Int) / 4 = ki at *
      generalize (n : Int) % 4 = km at *
      clear h hi h0 h1 hn hN hw hr
      unfold cells9 at HB0 HX0
      go_enter Tryz.func25, Tryz.ntmps25
      go_wp2_with fail
      refine (HC.out _).mono ?_
      rintro e w2 ⟨rfl, h2⟩
      rw [h2] at HX0 HB0
      clear h2
      obtain ⟨r0, r1, r2, r3, r4, r5, r6, r7, r8⟩ := HX0.out.cells
      go_wp2_with (go_at_call 55; refine (HWR.out _ HB0.out).mono ?_; rintro e w3 ⟨rfl, b3⟩)
      go_ret
      have hb := HB0.out.trans (b3.mono HB0.out.size)
      exact ⟨rfl, v, HD.out.below hb, Turns.of_below _ hb⟩
    | true =>
      rw [if_pos rfl]
      have HRD := Lib.hid (fun (W : World) (hW : Below w.heap.size w W) => read_dv B d q p pd pm k c D V v (43 + (n : Int) / 4) W (h.below hW))
      rw [rd_card hN hn] at HRD
      have HPL := Lib.hid (fun W => place_any (V.getD (43 + n / 4) ⟨#[]⟩) ((n : Int) % 4) (writeC cd).1 W)
      rw [place_card hw hN hn hr] at HPL
      have hz := plc_size hw hN hn hr
      have HWD := Lib.hid (fun (W : World) (hW : Below w.heap.size w W) => write_dv B d q p pd pm k c D V v (43 + (n : Int) / 4) (plc V n cd) W (h.below hW) (by omega))
      obtain ⟨e1, e2⟩ := wr_card hw hN hn hr
      rw [e1, e2] at HWD
      rw [show (writeC cd).2 = 0 by rw [writeC_ok hr]]
      rw [show (writeC cd).2 = 0 by rw [writeC_ok hr]] at HWR
      simp only at HPL
      generalize V.set (43 + n / 4) (plc V n cd) = V' at *
      generalize plc V n cd = pz at *
      generalize V.getD (43 + n / 4) ⟨#[]⟩ = b at *
      generalize rdE V (43 + (n : Int) / 4) = ze at *
      generalize (writeC cd).1 = s at *
      generalize hki : 43 + (n : Int) / 4 = ki at *
      generalize hkm : (n : Int) % 4 = km at *
      clear h hi h0 h1 hn hN hw hr e1 e2 hz hki hkm
      unfold cells9 at HB0 HX0
      go_enter Tryz.func25, Tryz.ntmps25
      go_wp2_with fail
      refine (HC.out _).mono ?_
      rintro e w2 ⟨rfl, h2⟩
      rw [h2] at HX0 HB0
      clear h2
      obtain ⟨r0, r1, r2, r3, r4, r5, r6, r7, r8⟩ := HX0.out.cells
      go_wp2_with (first
        | (go_at_call 55; refine (HWR.out _ HB0.out).mono ?_; rintro e w3 ⟨rfl, b3⟩
           have HB3 := Lib.hid (HB0.out.trans (b3.mono HB0.out.size))
           clear b3 r0 r1 r2 r3 r4 r5 r6 r7 r8)
        | (go_at_call 20; refine (HRD.out _ HB3.out).mono ?_; rintro e w4 ⟨rfl, b4⟩
           have HB4 := Lib.hid (HB3.out.trans (b4.mono HB3.out.size))
           clear b4)
        | (go_at_call 56; refine (HPL.out _).mono ?_; rintro e w5 ⟨rfl, b5⟩
           have HB5 := Lib.hid (HB4.out.trans (b5.mono HB4.out.size))
           clear b5)
        | (go_at_call 31; refine (HWD.out _ HB5.out).mono ?_; rintro e w6 ⟨rfl, v6, d6, t6⟩))
      go_ret
      exact ⟨rfl, v6, d6, (Turns.of_below _ HB5.out).trans t6⟩
theorem setcard_nil (n : Int) (cd : Cd) (A : Option Addr) (m l : Nat) (A' : Option Addr) (m' l' : Nat) (w : World) : Calls Tryz.prog 25 #[.pointer none, .int .i64 n, cdv cd A m l A' m' l'] w fun e w' => e = .returned (.int .i64 1) ∧ Below w.heap.size w w' := by
  have HB0 : Hid (Below w.heap.size w (w.alloc (.cells (cells9 cd A m l A' m' l') 40))) := (Below.refl _ _).alloc (Nat.le_refl _) _
  unfold cells9 at HB0
  go_enter Tryz.func25, Tryz.ntmps25
  go_wp2
  go_ret
  exact ⟨rfl, HB0.out⟩

/-! ### Changed, Undo and Commit, of views -/
theorem changed_dv (B d q p pd pm k c : Nat) (D V : List ByteArray) (v : Value) (w : World) (h : DV w B d q p pd pm k c D V v) :
    Calls Tryz.prog 14 #[.pointer (some ⟨d, 0, none⟩)] w fun e w' => ∃ g, e = .returned (.slice (some ⟨g, 0, none⟩) (diffL V D).length (diffL V D).length) ∧ w.heap.size ≤ g ∧ Lg.IntRow w' g (diffL V D) ∧ Below w.heap.size w w' := by
  have ho := fun i (_ : i < D.length) (hi : ownB (i : Int) = true) => h.own hi
  have hl := h.len
  obtain ⟨l, h, rfl⟩ := h
  have e := chgs_diff (D := D) (base := D) (now := setL D l) h.inv hl (fun _ _ _ => rfl) (fun _ _ _ => rfl) ho
  refine (changed_any B d q p pd pm k c D l v w h).mono ?_
  rintro e' w' ⟨g, rfl, hg, hr, hb⟩
  rw [e] at hr
  have e2 : (chgs D l).length = (diffL (setL D l) D).length := by rw [← e, Lg.bks_len]
  rw [e2]
  exact ⟨g, rfl, hg, hr, hb⟩
theorem undo_dv (B d q p pd pm k c : Nat) (D V : List ByteArray) (v : Value) (w : World) (h : DV w B d q p pd pm k c D V v) :
    Calls Tryz.prog 30 #[.pointer (some ⟨d, 0, none⟩)] w fun e w' => e = .returned (.tuple #[]) ∧ DV w' B d q p pd pm k c D D (.slice none 0 0) ∧ Turns [d] w w' := by
  obtain ⟨l, h, rfl⟩ := h
  refine (undo_any B d q p pd pm k c D l v w h).mono ?_
  rintro e w' ⟨rfl, h1, t1⟩
  exact ⟨rfl, ⟨[], h1, rfl⟩, t1⟩
/-- the disk behind a commit: as the view was, but for the log. -/
def Cmt (D V D' : List ByteArray) : Prop := D'.length = D.length ∧ ∀ i : Nat, ownB (i : Int) = false → D'.getD i ⟨#[]⟩ = V.getD i ⟨#[]⟩
theorem commit_dv (B d q p pd pm k c : Nat) (D V : List ByteArray) (v : Value) (w : World) (h : DV w B d q p pd pm k c D V v) (hc : c ≤ 600000) (hk : k ≤ 1000000) :
    Calls Tryz.prog 23 #[.pointer (some ⟨d, 0, none⟩)] w fun e w' =>
      (40 < (diffL V D).length → e = .returned (.int .i64 13) ∧ Below w.heap.size w w') ∧
      (¬ 40 < (diffL V D).length → e = .returned (.int .i64 0) ∧ ∃ k' c' D', k' ≤ k + 1 ∧ c' ≤ c + 100 ∧ Cmt D V D' ∧ DV w' B d q p pd pm k' c' D' D' (.slice none 0 0) ∧ Turns [d, q, p, pd, pm] w w') := by
  have ho := fun i (_ : i < D.length) (hi : ownB (i : Int) = true) => h.own hi
  have hl := h.len
  obtain ⟨l, h, rfl⟩ := h
  have e := chgs_diff (D := D) (base := D) (now := setL D l) h.inv hl (fun _ _ _ => rfl) (fun _ _ _ => rfl) ho
  have e2 : (diffL (setL D l) D).length = (chgs D l).length := by rw [← e, Lg.bks_len]
  rw [e2]
  refine (commit_deal B d q p pd pm k c D l v w h hc hk).mono ?_
  rintro e' w' ⟨rfl, h1, h2⟩
  refine ⟨fun hx => ⟨by unfold cmE; rw [if_pos hx], h1 hx⟩, fun hx => ⟨by unfold cmE; rw [if_neg hx], ?_⟩⟩
  obtain ⟨k', c', hk', hc', d', t'⟩ := h2 hx
  exact ⟨k', c', newB D l, hk', hc', ⟨newB_len D l, fun i hi => newB_get h.inv hx hi⟩, ⟨[], d', rfl⟩, t'⟩
end Go.Proofs.YtapjbffhihhnbaaGreat.Dl
