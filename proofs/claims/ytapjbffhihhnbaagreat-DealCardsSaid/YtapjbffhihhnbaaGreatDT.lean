/-
  WALKS of the reference's deal: Card and SetCard. Condition: 64 to 1000 blocks of 128 bytes.
-/
import Derived.Test.YtapjbffhihhnbaaGreatDR
import Derived.Test.YtapjbffhihhnbaaGreatDH
import Derived.Test.YtapjbffhihhnbaaGreatBP
set_option linter.unusedVariables false
set_option linter.unusedSimpArgs false
set_option maxRecDepth 100000
set_option maxHeartbeats 4000000
namespace Go.Proofs.YtapjbffhihhnbaaGreat.Dl
open Go.RowKit
open Sl (Turns SlabAt)
open Lg (Ch chCells chsCells FS LogAt Whole setL setL_len ownB bcell SsAt strs strs_len strs_get ownS_set copyS_law)

theorem inB_no {n : Int} (h : Kr.inB n 0 31 = false) : n < 0 ∨ 32 ≤ n := by
  by_cases h0 : n < 0
  · exact .inl h0
  · by_cases h1 : 32 ≤ n
    · exact .inr h1
    · exfalso
      have : Kr.inB n 0 31 = true := by simp [Kr.inB]; omega
      rw [h] at this; cases this

theorem rcard_any (R r gb cb gn cn N : Nat) (base now : List ByteArray) (n : Int) (w : World) (h : RD w R r gb cb gn cn N base now) (hN : 64 ≤ N) (hw : Whole now) :
    Calls Tryz.prog 39 #[.pointer (some ⟨r, 0, none⟩), .int .i64 n] w (RetCN w (crdC now n) (crdE now n)) := by
  have HX0 : Hid (CdRow (w.alloc (.cells (cells9 zeroC none 0 0 none 0 0) 40)) w.heap.size zeroC none 0 0 none 0 0) := CdRow.new w zeroC none 0 0 none 0 0
  have HB0 : Hid (Below w.heap.size w (w.alloc (.cells (cells9 zeroC none 0 0 none 0 0) 40))) := (Below.refl _ _).alloc (Nat.le_refl _) _
  unfold crdC crdE
  cases hi : Kr.inB n 0 31 with
  | false =>
    rw [if_neg (by decide), if_neg (by decide)]
    have h2 := inB_no hi
    have HB : Hid (∀ o : Obj, Below w.heap.size w (w.alloc o)) := fun o => (Below.refl _ _).alloc (Nat.le_refl _) _
    clear h hi HX0 HB0
    rcases h2 with h2 | h2
    all_goals
      go_enter Tryz.func39, Tryz.ntmps39
      go_wp2
      refine bodyPost_ret (v := .tuple #[cdv zeroC none 0 0 none 0 0, .int .i64 5]) (by simp [results, Tryz.results39, go_sem, zeroC]) rfl ?_
      exact ⟨_, rfl, cdn_zero _ _, HB.out _⟩
  | true =>
    obtain ⟨h0, h1⟩ := Kr.inB_t hi
    obtain ⟨n, rfl⟩ := Int.eq_ofNat_of_zero_le h0
    have hn : n ≤ 31 := by omega
    rw [if_pos rfl, if_pos rfl, show ((n : Int)).toNat = n by omega]
    have hsz := crdB_size hw (by rw [h.ln]; exact hN) hn
    have HR9 := Lib.hid (fun W => rread9_new (crdB now n) W (by omega))
    have hbz := hw.get (k := 43 + n / 4) (by rw [h.ln]; omega)
    have hcr : crdB now n = (now.getD (43 + n / 4) ⟨#[]⟩).extract (32 * (n % 4)) (32 * (n % 4) + 32) := rfl
    have d0 := bcell HB0.out (h.cell (k := 43 + n / 4) (by omega)) h.gn_ge.2
    have c1 := bcell HB0.out h.c1 h.lt
    obtain ⟨q, hq⟩ : ∃ q : Nat, n / 4 = q := ⟨_, rfl⟩
    have hqi : (n : Int) / 4 = (q : Int) := by omega
    have i1 : (n : Int) < 32 := by omega
    have i0 : (0 : Int) ≤ (n : Int) := by omega
    have i2 : (43 : Int) + (q : Int) < (N : Int) := by omega
    have i3 : (0 : Int) ≤ (43 : Int) + (q : Int) := by omega
    have i4 : ((43 : Int) + (q : Int)).toNat = 43 + q := by omega
    have hm : n % 4 = 0 ∨ n % 4 = 1 ∨ n % 4 = 2 ∨ n % 4 = 3 := by omega
    generalize (readC (crdB now n)).1 = cd at *
    generalize (readC (crdB now n)).2 = z at *
    rw [hcr] at HR9
    rw [hq] at HR9 d0 hbz
    generalize now.getD (43 + q) ⟨#[]⟩ = b at *
    have b0 : (32 : Int) ≤ (b.size : Int) := by omega
    have b1 : (64 : Int) ≤ (b.size : Int) := by omega
    have b2 : (96 : Int) ≤ (b.size : Int) := by omega
    have b3 : (128 : Int) ≤ (b.size : Int) := by omega
    have HNB : Hid (∀ (W : World) (o : Obj), Below W.heap.size W (W.alloc o)) := fun W o => (Below.refl _ _).alloc (Nat.le_refl _) _
    clear h h0 h1 hi hw hn hN hcr hsz hbz
    unfold cells9 zeroC at HB0 HX0 d0 c1
    simp only at HB0 HX0 d0 c1
    have hmi : (n : Int) % 4 = 0 ∨ (n : Int) % 4 = 1 ∨ (n : Int) % 4 = 2 ∨ (n : Int) % 4 = 3 := by omega
    rcases hmi with hmi | hmi | hmi | hmi
    all_goals
      have hm2 : n % 4 = ((n : Int) % 4).toNat := by omega
      rw [hm2, hmi] at HR9
      simp only [Int.reduceToNat, Nat.reduceMul, Nat.reduceAdd] at HR9
      clear hm hq hm2
      go_enter Tryz.func39, Tryz.ntmps39
      go_wp2_with fail
      refine (HR9.out _).mono ?_
      rintro e w5 ⟨v5, rfl, n5, b5⟩
      obtain ⟨A, m, l, A', m', l', q1, q2, rfl, i5, s5, bm, bm', f5⟩ := n5
      have HX5 := Lib.hid (HX0.out.below b5 HX0.out.lt)
      have HB5 := Lib.hid (HB0.out.trans (b5.mono HB0.out.size))
      have HQ1 : Hid (Fresh (w.heap.size + 1) A) := fun b o e => by have := q1 b o e; have := HX0.out.lt; omega
      have HQ2 : Hid (Fresh (w.heap.size + 1) A') := fun b o e => by have := q2 b o e; have := HX0.out.lt; omega
      have HC5 : Hid (CdAt w5 w5.heap.size (cdv cd A m l A' m' l') cd) := ⟨A, m, l, A', m', l', rfl, i5, s5, bm, bm', f5⟩
      have hg5 := HX5.out.lt
      clear b5 q1 q2 i5 s5 bm bm' f5 d0 c1
      go_upto_region 5 with fail
      have HG3 : Hid (CdRow (w5.alloc (.cells #[.int .i64 cd.fm, .int .i64 cd.kd, .int .i64 cd.ln, .int .i64 cd.sz, .slice A m l, .int .i64 cd.sg, .int .i64 cd.db, .slice A' m' l', .int .i64 cd.ov] 40)) w5.heap.size cd A m l A' m' l') := CdRow.new w5 cd A m l A' m' l'
      have b3 : Below w5.heap.size w5 (w5.alloc (.cells #[.int .i64 cd.fm, .int .i64 cd.kd, .int .i64 cd.ln, .int .i64 cd.sz, .slice A m l, .int .i64 cd.sg, .int .i64 cd.db, .slice A' m' l', .int .i64 cd.ov] 40)) := HNB.out _ _
      have HC3 := Lib.hid ((HC5.out.below b3 (Nat.le_refl _)).more b3.size)
      have HX3 := Lib.hid (HX5.out.below b3 hg5)
      have HB3 := Lib.hid (HB5.out.trans (b3.mono HB5.out.size))
      clear b3 HC5 HX5 HB5
      generalize w5.alloc (.cells #[.int .i64 cd.fm, .int .i64 cd.kd, .int .i64 cd.ln, .int .i64 cd.sz, .slice A m l, .int .i64 cd.sg, .int .i64 cd.db, .slice A' m' l', .int .i64 cd.ov] 40) = w3 at *
      generalize w5.heap.size = g at *
      obtain ⟨e0, e1, e2, e3, e4, e5, e6, e7, e8⟩ := HG3.out.cells
      obtain ⟨r0, r1, r2, r3, r4, r5, r6, r7, r8⟩ := HX3.out.cells
      have zr := HX3.out.fz
      go_wp2
      clear e0 e1 e2 e3 e4 e5 e6 e7 e8 r0 r1 r2 r3 r4 r5 r6 r7 r8 zr
      have HR8 : Hid (CdRow (put9 w3 w.heap.size cd A m l A' m' l') w.heap.size cd A m l A' m' l') := put9_row HX3.out
      have HB8 : Hid (Below w.heap.size w (put9 w3 w.heap.size cd A m l A' m' l')) := put9_below HB3.out (Nat.le_refl _)
      have HC8 : Hid (CdAt (put9 w3 w.heap.size cd A m l A' m' l') (put9 w3 w.heap.size cd A m l A' m' l').heap.size (cdv cd A m l A' m' l') cd) := cd_put9 HC3.out (Nat.le_refl _) HQ1.out HQ2.out
      unfold put9 at HR8 HB8 HC8
      generalize World.setCell _ ⟨w.heap.size, 8, none⟩ _ = w8 at *
      obtain ⟨r0, r1, r2, r3, r4, r5, r6, r7, r8⟩ := HR8.out.cells
      refine bodyPost_ret (v := .tuple #[cdv cd A m l A' m' l', .int .i64 z]) (by simp [results, Tryz.results39, go_sem, r0, r1, r2, r3, r4, r5, r6, r7, r8]) rfl ?_
      exact ⟨_, rfl, cd_new HC8.out (fun b o e => by have := HQ1.out b o e; omega) (fun b o e => by have := HQ2.out b o e; omega), HB8.out⟩

theorem rsetcard_any (R r gb cb gn cn N : Nat) (base now : List ByteArray) (vc : Value) (n : Int) (cd : Cd) (BC : Nat) (w : World) (h : RD w R r gb cb gn cn N base now) (hN : 64 ≤ N) (hw : Whole now) (hc : CdAt w BC vc cd) (hBC : BC ≤ w.heap.size) :
    Calls Tryz.prog 40 #[.pointer (some ⟨r, 0, none⟩), .int .i64 n, vc] w fun e w' => e = .returned (.int .i64 (sdE n cd)) ∧ RD w' R r gb cb gn cn N base (sdV now n cd) ∧ Turns [gn] w w' := by
  obtain ⟨A, m, l, A', m', l', rfl, hc'⟩ := hc
  have HC0 : Hid (CdAt w BC (cdv cd A m l A' m' l') cd) := ⟨A, m, l, A', m', l', rfl, hc'⟩
  have HX0 : Hid (CdRow (w.alloc (.cells (cells9 cd A m l A' m' l') 40)) w.heap.size cd A m l A' m' l') := CdRow.new w cd A m l A' m' l'
  have HB0 : Hid (Below w.heap.size w (w.alloc (.cells (cells9 cd A m l A' m' l') 40))) := (Below.refl _ _).alloc (Nat.le_refl _) _
  have HD := Lib.hid h
  unfold sdE sdV sdOk
  clear hc'
  cases hi : Kr.inB n 0 31 with
  | false =>
    rw [Bool.false_and, if_neg (by decide), if_neg (by decide)]
    have h2 := inB_no hi
    clear h hi
    unfold cells9 at HB0 HX0
    rcases h2 with h2 | h2
    all_goals
      go_enter Tryz.func40, Tryz.ntmps40
      go_wp2
      go_ret
      exact ⟨rfl, HD.out.below HB0.out, Turns.of_below _ HB0.out⟩
  | true =>
    obtain ⟨h0, h1⟩ := Kr.inB_t hi
    obtain ⟨n, rfl⟩ := Int.eq_ofNat_of_zero_le h0
    have hn : n ≤ 31 := by omega
    have i1 : (n : Int) < 32 := by omega
    have i0 : (0 : Int) ≤ (n : Int) := by omega
    have HWR := Lib.hid (fun (W : World) (hW : Below w.heap.size w W) => rwrite9_any (cdv cd A m l A' m' l') cd BC W (HC0.out.below hW hBC) (Nat.le_trans hBC hW.size))
    rw [if_pos rfl, Bool.true_and, show ((n : Int)).toNat = n by omega]
    cases hr : rightC cd with
    | false =>
      rw [writeC_no hr] at HWR ⊢
      rw [if_neg (by decide)]
      clear h hi h0 h1 hn hN hw hr
      unfold cells9 at HB0 HX0
      go_enter Tryz.func40, Tryz.ntmps40
      obtain ⟨r0, r1, r2, r3, r4, r5, r6, r7, r8⟩ := HX0.out.cells
      go_wp2_with (go_at_call 71; refine (HWR.out _ HB0.out).mono ?_; rintro e w3 ⟨rfl, b3⟩)
      go_ret
      have hb := HB0.out.trans (b3.mono HB0.out.size)
      exact ⟨rfl, HD.out.below hb, Turns.of_below _ hb⟩
    | true =>
      rw [if_pos rfl]
      have hz := writeC_size hr
      have hbz := hw.get (k := 43 + n / 4) (by rw [h.ln]; omega)
      rw [show (writeC cd).2 = 0 by rw [writeC_ok hr]]
      rw [show (writeC cd).2 = 0 by rw [writeC_ok hr]] at HWR
      have hpl : plc now n cd = (now.getD (43 + n / 4) ⟨#[]⟩).extract 0 (32 * (n % 4)) ++ (writeC cd).1 ++ (now.getD (43 + n / 4) ⟨#[]⟩).extract (32 * (n % 4) + 32) 128 := rfl
      have HPT := Lib.hid (fun (W : World) (hW : Below w.heap.size w W) => (h.below hW).put (43 + n / 4) (plc now n cd))
      have HFZ := Lib.hid (fun (W : World) (hW : Below w.heap.size w W) => (h.below hW).fzn (43 + n / 4))
      have d0 := h.cell (k := 43 + n / 4) (by omega)
      have c1 := h.c1
      have hrl := h.lt
      have hgl := h.gn_ge.2
      rw [hpl] at HPT ⊢
      obtain ⟨q, hq⟩ : ∃ q : Nat, n / 4 = q := ⟨_, rfl⟩
      have hqi : (n : Int) / 4 = (q : Int) := by omega
      have i2 : (43 : Int) + (q : Int) < (N : Int) := by omega
      have i2n : 43 + q < N := by omega
      have i3 : (0 : Int) ≤ (43 : Int) + (q : Int) := by omega
      have i4 : ((43 : Int) + (q : Int)).toNat = 43 + q := by omega
      have hmi : (n : Int) % 4 = 0 ∨ (n : Int) % 4 = 1 ∨ (n : Int) % 4 = 2 ∨ (n : Int) % 4 = 3 := by omega
      rw [hq] at HPT HFZ d0 hbz ⊢
      generalize now.getD (43 + q) ⟨#[]⟩ = b at *
      generalize (writeC cd).1 = s at *
      have b0 : (32 : Int) ≤ (b.size : Int) := by omega
      have b1 : (64 : Int) ≤ (b.size : Int) := by omega
      have b2 : (96 : Int) ≤ (b.size : Int) := by omega
      have b3 : (128 : Int) ≤ (b.size : Int) := by omega
      have HBZ := Lib.hid hbz
      have HSZ := Lib.hid hz
      clear h h0 h1 hi hw hn hN hr hpl hbz hz
      unfold cells9 at HB0 HX0
      rcases hmi with hmi | hmi | hmi | hmi
      all_goals
        have hm2 : n % 4 = ((n : Int) % 4).toNat := by omega
        rw [hm2, hmi] at HPT ⊢
        simp only [Int.reduceToNat, Nat.reduceMul, Nat.reduceAdd] at HPT ⊢
        clear hq hm2
        go_enter Tryz.func40, Tryz.ntmps40
        obtain ⟨r0, r1, r2, r3, r4, r5, r6, r7, r8⟩ := HX0.out.cells
        go_wp2_with (first
          | (go_at_call 71; refine (HWR.out _ HB0.out).mono ?_; rintro e w3 ⟨rfl, b3'⟩
             have HB3 := Lib.hid (HB0.out.trans (b3'.mono HB0.out.size))
             have c3 := bcell HB3.out c1 hrl
             have d3 := bcell HB3.out d0 hgl
             have f3 := HFZ.out _ HB3.out
             clear b3' r0 r1 r2 r3 r4 r5 r6 r7 r8))
        have c4 : w3.drew.cell? ⟨r, 1, none⟩ = some (.slice (some ⟨gn, 0, none⟩) N cn) := c3
        have d4 : w3.drew.cell? ⟨gn, 43 + q, none⟩ = some (.string b) := d3
        have f4 : w3.drew.frozen? ⟨gn, 43 + q, none⟩ = false := f3
        have x0 : IntKind.i64.wrap 0 = 0 := IntWalk.i64_in _ (by omega)
        have x32 : IntKind.i64.wrap 32 = 32 := IntWalk.i64_in _ (by omega)
        have x64 : IntKind.i64.wrap 64 = 64 := IntWalk.i64_in _ (by omega)
        have x96 : IntKind.i64.wrap 96 = 96 := IntWalk.i64_in _ (by omega)
        have x128 : IntKind.i64.wrap 128 = 128 := IntWalk.i64_in _ (by omega)
        have xq0 : (n : Int).tdiv 4 = (q : Int) := by rw [Int.tdiv_eq_ediv_of_nonneg i0]; exact hqi
        have xq : IntKind.i64.wrap (q : Int) = (q : Int) := IntWalk.i64_in _ (by omega)
        have x43 : IntKind.i64.wrap (43 + (q : Int)) = 43 + (q : Int) := IntWalk.i64_in _ (by omega)
        have hb1 : b.size ≤ 128 := by rw [HBZ.out]; omega
        have hb2 : 128 ≤ b.size := by rw [HBZ.out]; omega
        have hs1 : s.size ≤ 32 := by rw [HSZ.out]; omega
        go_region
        all_goals
          clear x0 x32 x64 x96 x128 xq0 xq x43 c3 c4 d3 d4 f3 f4
          go_wp2
          go_ret
          have hp := HPT.out w3 HB3.out
          have hz0 : b.extract 0 0 ++ s = s := by apply ByteArray.ext; simp
          try rw [hz0] at hp ⊢
          clear hz0
          refine ⟨rfl, ?_, (Turns.of_below _ HB3.out).trans ((Turns.setCell _ (by simp) _).trans (Sl.drew_turns _ _))⟩
          rw [HBZ.out]
          exact hp.turns (Sl.drew_turns [] _) (by simp) (by simp) (by simp)
end Go.Proofs.YtapjbffhihhnbaaGreat.Dl
