/-
  LAW RunsBack: for all maps that are saved one behind another: each is loaded again, its lists are used and none is there twice; with an error nothing is changed. No condition.
-/
import Derived.Test.YtgdlfiejjnjcpaaGreatHO
import Derived.Test.YtgdlfiejjnjcpaaGreatIA
import Derived.BigQuiet
set_option linter.unusedVariables false
set_option linter.unusedSimpArgs false
set_option maxRecDepth 100000
set_option maxHeartbeats 16000000
namespace Go.Proofs.YtgdlfiejjnjcpaaGreat.Dl.runsBack
open Go.ChangeShapes Go.WideShapes Go.ChangeAt Go.RowKit
open Go.ChangeMaps (open_string shut_string)
open Mk
open Sl (Turns SlabAt)
open Lg (FS LogAt Whole newD newD_len newD_whole newD_get)
open Kr (crv rightK blockK kf kb kc KBox cells3 I64 inB marksK bit_marks marks_size)
open La (own laidOut lists_open i64_of_wf)

theorem asc_at {l : List Int} (h : l.Pairwise (· < ·)) {i j : Nat} (hij : i < j) (hj : j < l.length) : l.getD i 0 < l.getD j 0 := asc_ne h hij hj
theorem diff_len (V D : List ByteArray) : (diffL V D).length ≤ V.length := by
  unfold diffL
  rw [List.length_map]
  exact Nat.le_trans (List.length_filter_le _ _) (by simp)
theorem ints_at0 {w : World} {B g o n k : Nat} {l : List Int} (h : IntsAt w B (some ⟨g, o, none⟩) n l) (hk : k < n) : w.cell? ⟨g, o + k, none⟩ = some (.int .i64 (l.getD k 0)) := by
  obtain ⟨b, o', e, hB, hc⟩ := h.at_ hk
  injection e with e
  injection e with e1 e2
  subst e1; subst e2
  exact hc
theorem rsame_dk {w0 w wb : World} {B d q p pd pm k c : Nat} {F : Bxs} {N : Nat} {D V : List ByteArray} {g1 g2 : Nat} (h : Dk w0 w B d q p pd pm k c F N D V) (r1 : Lg.IntRow w g1 (diffL V D)) (hb : Below w.heap.size w wb) (r2 : Lg.IntRow wb g2 (diffL V D)) :
    Calls Tryz.prog 15 #[.slice (some ⟨g1, 0, none⟩) (diffL V D).length (diffL V D).length, .slice (some ⟨g2, 0, none⟩) (diffL V D).length (diffL V D).length] wb fun e w' => e = .returned (.bool true) ∧ Dk w0 w' B d q p pd pm k c F N D V := by
  have h1 := diff_len V D
  have h2 := h.lenV
  have h3 := h.most
  refine (rsame_ints _ _ _ _ _ _ wb.heap.size wb.heap.size _ _ true wb (by simp) ((r1.below hb r1.lt).ints (diff_fit h) (Nat.lt_of_lt_of_le r1.lt hb.size)) (r2.ints (diff_fit h) r2.lt) (by omega) (by omega)).mono fun e w' ⟨he, hd⟩ => ⟨he, (h.below hb).below (Lg.Below.drews (Below.refl _ _) hd)⟩
theorem nums {fr nd nz ll : Nat} (h1 : fr ≤ 400) (h2 : nd ≤ 6) (h3 : nz ≤ 6) (h4 : ll = nz) : (¬ (nd : Int) < 0) ∧ wrap64 ((fr : Int) + (nz : Int)) = ((fr + nz : Nat) : Int) ∧ (¬ nd ≤ fr + ll → (nd : Int) > ((fr + nz : Nat) : Int)) ∧ (nd ≤ fr + ll → ¬ (nd : Int) > ((fr + nz : Nat) : Int)) := ⟨by omega, by unfold wrap64; omega, fun h => by omega, fun h => by omega⟩
theorem numsub {fr f2 nd nz ll l2 tot : Nat} (h1 : fr ≤ 400) (h2 : nd ≤ 6) (h3 : nz ≤ 6) (h4 : ll = nz) (h : tot = fr + nz) (hn : f2 + nd = fr + ll) (hl : l2 = nd) : wrap64 ((tot : Int) - (l2 : Int)) = (f2 : Int) := by unfold wrap64; omega
section
variable {w0 w : World} {B d q p pd pm k c : Nat} {E E5 E6 E7 : Bxs} {N : Nat} {D V : List ByteArray} {x : Nat × Array Value × TypeId}
theorem mixE (h : Dk w0 w B d q p pd pm k c (x :: (E6 ++ E)) N D V) (hE : Bxs.fit E5 w) : Dk w0 w B d q p pd pm k c (x :: (E5 ++ E)) N D V := h.with fun z hz => by
  rcases List.mem_cons.1 hz with e | e
  · exact h.fx z (by rw [e]; exact List.mem_cons_self ..)
  · rcases List.mem_append.1 e with e | e
    · exact hE z e
    · exact h.fx z (List.mem_cons_of_mem _ (List.mem_append_right _ e))
theorem swapE (h : Dk w0 w B d q p pd pm k c (E7 ++ (x :: (E5 ++ E))) N D V) : Dk w0 w B d q p pd pm k c (x :: (E7 ++ E5)) N D V := h.with (h.fx.sub fun z hz => by
  simp only [List.mem_cons, List.mem_append] at hz ⊢
  rcases hz with e | e | e <;> simp [e])
theorem fit7 (h : Dk w0 w B d q p pd pm k c (E7 ++ (x :: (E5 ++ E))) N D V) : Bxs.fit E7 w := h.fx.sub fun z hz => List.mem_append_left _ hz
theorem fitE5 (h : Dk w0 w B d q p pd pm k c (E7 ++ (x :: (E5 ++ E))) N D V) : Bxs.fit E5 w := h.fx.sub fun z hz => List.mem_append_right _ (List.mem_cons_of_mem _ (List.mem_append_left _ hz))
theorem fitE (h : Dk w0 w B d q p pd pm k c (E7 ++ (x :: (E5 ++ E))) N D V) : Bxs.fit E w := h.fx.sub fun z hz => List.mem_append_right _ (List.mem_cons_of_mem _ (List.mem_append_right _ hz))
theorem fitL (h : Dk w0 w B d q p pd pm k c (x :: (E6 ++ E)) N D V) : Bxs.fit E6 w := h.fx.sub fun z hz => List.mem_cons_of_mem _ (List.mem_append_left _ hz)
theorem fitR (h : Dk w0 w B d q p pd pm k c (x :: (E6 ++ E)) N D V) : Bxs.fit E w := h.fx.sub fun z hz => List.mem_cons_of_mem _ (List.mem_append_right _ hz)
end

theorem walk (a : Option Addr) (len cap : Nat) (l : List (Option (List Int))) (n1 : Int) (w : World) (h1 : La.ListsAt w w.heap.size a len l) (_hn : -9223372036854775808 ≤ n1 ∧ n1 ≤ 9223372036854775807) :
    Calls Tryz.prog 3 #[.slice a len cap, .int .i64 n1] w fun e w' => e = .returned (.bool true) ∧ Below w.heap.size w w' := by
  obtain ⟨j, hj⟩ : ∃ j : Nat, (n1 % 18446744073709551616) % 337 = (j : Int) := Int.eq_ofNat_of_zero_le (Int.emod_nonneg _ (by decide))
  have hj2 : j < 337 := by have := Int.emod_lt_of_pos (n1 % 18446744073709551616) (show (0 : Int) < 337 by decide); omega
  have HJ : Hid (wrap64 ((IntKind.u64.wrap n1).tmod 337) = (j : Int)) := by show _ = _; rw [mod_num _ _ (by decide), hj]
  obtain ⟨n, hn⟩ : ∃ n : Nat, n = 64 + j := ⟨_, rfl⟩
  have HJ2 : Hid (wrap64 (64 + wrap64 ((IntKind.u64.wrap n1).tmod 337)) = (n : Int)) := by show _ = _; rw [HJ.out]; unfold wrap64; omega
  have hj1 := HJ2.out
  have hN1 : 64 ≤ n := by omega
  have hN2 : n ≤ 400 := by omega
  have HN := Lib.hid (⟨hN1, hN2⟩ : 64 ≤ n ∧ n ≤ 400)
  have HLV := Lib.hid (lives15_any w)
  have HBG := Lib.hid (fun W => begin15_any n W hN1 hN2)
  unfold RetBg at HBG
  have HFR := Lib.hid fresh_any
  rw [frC_is] at HFR
  have HLS := Lib.hid h1
  have HIN := Lib.hid (fun W A k cp Bz zs hA hB => inside_any n A k cp Bz zs W hA hB hN1 hN2)
  have HP := Lib.hid (fun zs => inzL_ok (n := n) hN1 zs)
  have HCR := Lib.hid (V0_crd (n := n) hN1 hN2)
  have HFN := Lib.hid (FlAt.new (b := n) (V0 n) (marksK (n : Int)) hN2)
  clear hn hj hj2 h1 hN1 hN2
  go_enter Tryz.func3, Tryz.ntmps3
  go_wp2_with (first
    | (go_at_call 7; refine HLV.out.mono ?_; rintro e w1 ⟨rfl, b1⟩; have HB1 := Lib.hid b1; clear b1)
    | (go_at_call 8; refine (HBG.out w1).mono ?_; rintro e w2 ⟨B, d, q, p, pd, pm, rfl, d2⟩; have HD2 := Lib.hid (d2.from HB1.out); clear d2)
    | (go_at_call 9; refine (HFR.out w2).mono ?_; rintro e w3 ⟨rfl, b3⟩
       have HD3 := Lib.hid (HD2.out.below b3)
       have HBS : Hid (B ≤ w3.heap.size) := HD3.out.hBs
       clear b3))
  have HC4 : Hid (CdRow (w3.alloc (.cells (cells9 (mkC [] 0) none 0 0 none 0 0) 30)) w3.heap.size (mkC [] 0) none 0 0 none 0 0) := CdRow.new _ _ _ _ _ _ _ _
  have HD4 : Hid (Dk w (w3.alloc (.cells (cells9 (mkC [] 0) none 0 0 none 0 0) 30)) B d q p pd pm 0 0 (cbox w3.heap.size none 0 0 [] 0 :: ([] ++ [])) n (newD n) (V0 n)) := (HD3.out.below ((Below.refl w3.heap.size w3).alloc (Nat.le_refl _) _)).add (show _ = _ from HC4.out) (by decide)
  clear HC4 HD3 HD2 HBG HFR HLV
  unfold cells9 at HD4
  generalize w3.alloc _ = w4 at *
  generalize w3.heap.size = cb at *
  go_loopw [7, 8] (fun nv i wr => ∃ (t : Nat) (V : List ByteArray) (m : ByteArray) (Q : Option Addr) (j p1 : Nat) (zs : List Int) (ov : Int) (L : List Int) (E6 E : Bxs), t ≤ 12 ∧ t ≤ len ∧ i = .int .i64 (t : Int) ∧ Hid (Dk w wr B d q p pd pm 0 0 (cbox cb Q j p1 zs ov :: (E6 ++ E)) n (newD n) V) ∧ Hid (Crd V n m) ∧ Hid (FlAt V n m zs ov L) ∧ Hid (zs.length ≤ 200) ∧ Hid (KpI E nv zs) ∧ Hid (KpC E6 Q j p1 zs) ∧ Hid (∀ y ∈ E, y.1 ≠ cb)) (fun _ i _ => 12 - (intOf i).toNat)
  case atStart => exact ⟨0, V0 n, marksK (n : Int), none, 0, 0, [], 0, [], [], [], by omega, by omega, rfl, HD4.out, HCR.out, HFN.out, Nat.zero_le _, KpI.nil, KpC.new, (fun y hy => by cases hy)⟩
  case round =>
    clear HD4 HCR HFN
    obtain ⟨t, V, m, Q, j, p1, zs, ov, L, E6, E, ht, htl, rfl, hd, hc, hf, hzl, hk, hkc, hcb⟩ := hrel
    obtain ⟨An, cn, rfl, hcn, han, hkn⟩ := hk.out
    have HKN := Lib.hid hkn
    have HAN := Lib.hid han
    clear hkn han
    by_cases hgo : t < len ∧ t < 12
    · obtain ⟨g1, g2⟩ := hgo
      have g1' : (t : Int) < (len : Int) := by omega
      have g2' : (t : Int) < 12 := by omega
      obtain ⟨bb, o, u, rfl, hbB, hu, hl⟩ := HLS.out.2 t g1
      obtain ⟨Am, cm, rfl, hcm, him, _⟩ := hl.read
      have hu' : wr.cell? ⟨bb, o + t, none⟩ = some (.slice Am ((l.getD t none).getD []).length cm) := (hd.out.hb.cell hbB).trans hu
      have HIN3 := Lib.hid (HIN.out wr Am _ cm w.heap.size _ (him.below hd.out.hb (Nat.le_refl _)) hd.out.hb.size)
      have HPM := Lib.hid (HP.out ((l.getD t none).getD []))
      have HML := Lib.hid (inzL_len (n : Int) ((l.getD t none).getD []))
      generalize hms : inzL (n : Int) ((l.getD t none).getD []) = ms at *
      generalize ((l.getD t none).getD []).length = lm at *
      have HMF := Lib.hid (pts_fit (by have := HN.out; omega) HPM.out)
      clear hms hl him hu hcm
      cases hE : smB ms with
      | true =>
        by_cases hroom : need ms ≤ fcn m n + L.length
        · have HSE := Lib.hid hE
          have HRM := Lib.hid hroom
          have HCW : Hid (CdRow wr cb (mkC zs ov) none 0 0 Q j p1) := hd.out.box
          unfold mkC at HCW
          have HNW : Hid (w.heap.size ≤ wr.heap.size) := hd.out.hb.size
          have hfl : fcn m n ≤ 400 := Nat.le_trans (fcn_le m n) HN.out.2
          have hn1 := need6 HN.out.2 HPM.out HSE.out (by have := HML.out; omega)
          have hn2 := need_le hf.out.rt
          have hnu := nums hfl hn1 hn2 hf.out.lnn
          have HNB : Hid (fcn m n ≤ 400 ∧ need ms ≤ 6 ∧ need zs ≤ 6 ∧ L.length = need zs) := ⟨hfl, hn1, hn2, hf.out.lnn⟩
          obtain ⟨hd0, hsum, hg1, hg2⟩ := hnu
          have hgt := hg2 hroom
          have HTT : Hid (∃ tot : Nat, tot = fcn m n + need zs) := ⟨_, rfl⟩
          obtain ⟨tot, htot⟩ := HTT.out
          rw [← htot] at hsum hgt
          clear HTT hg1 hg2 hfl hn1 hn2
          have HTT := Lib.hid htot
          clear hE hroom htot
          go_upto_region 28 with (first
            | (go_at_call 14; refine HRZ.out.mono ?_; rintro e wz ⟨rfl, bz⟩
               have HDZ := Lib.hid (HDY.out.below bz)
               have HXZ := Lib.hid (HXY.out.below bz HXY.out.lt)
               have HCZ : Hid (CdRow wz cb (mkC zs ov) none 0 0 Q j p1) := crow_mem HDZ.out.fx (List.mem_append_right _ (List.mem_cons_self ..))
               obtain ⟨x0, x1, x2, x3, x4, x5, x6, x7, x8⟩ := HXZ.out.cells
               have hcz := HCZ.out
               unfold mkC at hcz
               obtain ⟨r0, r1, r2, r3, r4, r5, r6, r7, r8⟩ := hcz.cells
               have zr := HCZ.out.fz
               simp only at r0 r1 r2 r3 r4 r5 r6 r7 r8
               clear hcz
               clear bz)
            | (go_at_call 12; refine HFE2.out.mono ?_; rintro e wa ⟨rfl, ba⟩
               have HDY := Lib.hid (HD9.out.below ba)
               have HXY := Lib.hid (HX9.out.below ba HX9.out.lt)
               have HRZ := Lib.hid (rlists_any An zs.length cn _ zs wa (HKN.out _ (fitE HDY.out)) (Nat.le_refl _) (by have := hzl.out; omega))
               rw [if_pos hf.out.sm] at HRZ
               clear ba)
            | (go_at_call 14; refine HRL.out.mono ?_; rintro e w9 ⟨rfl, b9⟩
               have HD9 := Lib.hid (HD8.out.below b9)
               have HX9 := Lib.hid (HX8.out.below b9 HX8.out.lt)
               have HFE2 := Lib.hid (free_fl HD9.out HCM.out)
               clear b9)
            | (go_at_call 13; refine HSV.out.mono ?_; rintro e w8 ⟨Q2, j2, p2, E7, ov2, L2, V2, m2, rfl, d8, k8, g8, c8, f8, hn8, -⟩
               have hal := (Below.refl w8.heap.size w8).alloc (Nat.le_refl _) (.cells (cells9 (mkC ms ov2) none 0 0 Q2 j2 p2) 30)
               have HX8 : Hid (CdRow (w8.alloc (.cells (cells9 (mkC ms ov2) none 0 0 Q2 j2 p2) 30)) w8.heap.size (mkC ms ov2) none 0 0 Q2 j2 p2) := CdRow.new _ _ _ _ _ _ _ _
               have HD8 := Lib.hid (d8.below hal)
               have HK7 := Lib.hid k8
               have HG7 : Hid (∀ y ∈ E7, y.2.2 = 85) := fun y hy => (g8 y hy).2
               have HCM := Lib.hid c8
               have HFM := Lib.hid f8
               have HRL := Lib.hid (rlists_any A5 ms.length c5 _ ms _ (HK5.out _ (fitE5 HD8.out)) (Nat.le_refl _) (by have := HML.out; omega))
               rw [if_pos HSE.out] at HRL
               have hln := f8.lnn
               have hsub : wrap64 (((tot : Nat) : Int) - ((L2.length : Nat) : Int)) = ((fcn m2 n : Nat) : Int) := numsub HNB.out.1 HNB.out.2.1 HNB.out.2.2.1 HNB.out.2.2.2 HTT.out hn8 hln
               have HL10 : Hid (L2.length ≤ 10) := by show _ ≤ _; rw [hln]; have := HNB.out.2.1; omega
               rw [← hln] at hd0 hgt HRL
               clear hln
               unfold cells9 mkC at HX8 HD8 HRL
               simp only at HX8 HD8 HRL
               clear d8 k8 g8 c8 f8 hn8 hal)
            | (go_at_call 10; refine HIN3.out.mono ?_; rintro e w5 ⟨v5, rfl, ow5, b5⟩
               obtain ⟨E5, hE1, hE2, A5, c5, rfl, hc5, ha5, hk5⟩ := KpI.of_own ow5 HMF.out
               have HK5 : Hid (∀ W, Bxs.fit E5 W → IntsAt W W.heap.size A5 ms.length ms) := hk5
               have HE5 := Lib.hid hE1
               have HEB := Lib.hid hE2
               have HD5 := Lib.hid (hd.out.below b5)
               have HC5 := Lib.hid (HCW.out.below b5 HCW.out.lt)
               have HWS : Hid (wr.heap.size ≤ w5.heap.size) := b5.size
               have HCH := Lib.hid (changed_dk HD5.out)
               clear ow5 b5 hk5 hE1 hE2)
            | (go_at_call 11; refine HCH.out.mono ?_; rintro e w6 ⟨gc, rfl, hgc, rc, b6⟩
               have HRC := Lib.hid rc
               have HE6 := Lib.hid (HE5.out.below b6)
               have HD6 := Lib.hid (HD5.out.below b6)
               have HC6 := Lib.hid (HC5.out.below b6 HC5.out.lt)
               have HX6 := Lib.hid b6
               have HFE := Lib.hid (free_fl HD6.out hc.out)
               clear rc b6 hgc)
            | (go_at_call 12; refine HFE.out.mono ?_; rintro e w7 ⟨rfl, b7⟩
               have HE7 := Lib.hid (HE6.out.below b7)
               have HD7 := Lib.hid (HD6.out.below b7)
               have HC7 := Lib.hid (HC6.out.below b7 HC6.out.lt)
               have HRC7 := Lib.hid (HRC.out.below b7 HRC.out.lt)
               obtain ⟨e0, e1, e2, e3, e4, e5, e6, e7, e8⟩ := HC7.out.cells
               simp only at e0 e1 e2 e3 e4 e5 e6 e7 e8
               have HDF : Hid (Dk w w7 B d q p pd pm 0 0 (cbox cb Q j p1 zs ov :: (E5 ++ E)) n (newD n) V) := mixE HD7.out HE7.out
               have HSV := Lib.hid (save_fl HDF.out hc.out hf.out hkc.out (fitL HD7.out) A5 ha5 ms.length c5 w7.heap.size ms (HK5.out _ HE7.out) (Nat.le_refl _) (by have := HML.out; omega) hc5 HSE.out HPM.out HRM.out)
               have HA5 := Lib.hid ha5
               unfold cdv mkC at HSV
               simp only at HSV
               clear b7 HFE))
          clear x0 x1 x2 x3 x4 x5 x6 x7 x8 r0 r1 r2 r3 r4 r5 r6 r7 r8 zr
          have hDs : Dk w wz B d q p pd pm 0 0 (cbox cb Q j p1 zs ov :: (E7 ++ E5)) n (newD n) V2 := swapE HDZ.out
          have HEN : Hid (∀ y ∈ E5, y.1 ≠ cb) := fun z e => Nat.ne_of_gt (Nat.lt_of_lt_of_le HCW.out.lt (HEB.out z e))
          have HE7 : Hid (∀ y ∈ E7, y.1 ≠ cb) := tags_ne (fit7 HDZ.out) HG7.out HCZ.out
          have HD13 : Hid (Dk w (put9 wz cb (mkC ms ov2) none 0 0 Q2 j2 p2) B d q p pd pm 0 0 (cbox cb Q2 j2 p2 ms ov2 :: (E7 ++ E5)) n (newD n) V2) := hDs.put9H HBS.out (fun z hz => by
            rcases List.mem_append.1 hz with e | e
            · exact HE7.out z e
            · exact HEN.out z e)
          have HR13 : Hid (CdRow (put9 wz cb (mkC ms ov2) none 0 0 Q2 j2 p2) cb (mkC ms ov2) none 0 0 Q2 j2 p2) := put9_row HCZ.out
          unfold put9 mkC at HD13 HR13
          simp only at HD13 HR13
          clear hDs
          generalize World.setCell _ ⟨cb, 8, none⟩ _ = w13 at *
          obtain ⟨r0, r1, r2, r3, r4, r5, r6, r7, r8⟩ := HR13.out.cells
          have HLD := Lib.hid (load_of HD13.out HCM.out (HFM.out.at_ HK7.out (fitL HD13.out)))
          unfold cdv mkC at HLD
          simp only at HLD r0 r1 r2 r3 r4 r5 r6 r7 r8
          go_wp2_with (first
            | (go_at_call 15; refine HSM2.out.mono ?_; rintro e w17 ⟨rfl, dw⟩
               have hbd := Lg.Below.drews (Below.refl w16.heap.size w16) dw
               have HD17 := Lib.hid (HD16.out.below hbd)
               have HIL17 := Lib.hid (HIL16.out.below hbd HLE16.out)
               have HLE17 : Hid (w15.heap.size ≤ w17.heap.size) := Nat.le_trans HLE16.out hbd.size
               clear dw hbd)
            | (go_at_call 18; refine HWD.out.mono ?_; rintro e w16 ⟨gw, hgw, rfl, roww, b16⟩
               have HD16 := Lib.hid (HD15.out.below b16)
               have HIL16 := Lib.hid (HIL.out.below b16 (Nat.le_refl _))
               have HLE16 : Hid (w15.heap.size ≤ w16.heap.size) := b16.size
               have HSM2 := Lib.hid (rsame_ints (some ⟨gm, 0, none⟩) (some ⟨gw, 0, none⟩) 120 120 120 120 w16.heap.size w16.heap.size (whole ms) (whole ms) true w16 (by simp) (whole_ints (HROWM.out.below b16 (Nat.le_refl _))) (row_ints roww (whole_fit HN.out.2 HPM.out) (whole_len _)) (by omega) (by omega))
               clear roww b16 hgw)
            | (go_at_call 17; refine HLS2.out.mono ?_; rintro e w15 ⟨v15, rfl, ow15, b15⟩
               obtain ⟨A15, c15, rfl, hc15, -⟩ := own_form ow15
               have HD15 := Lib.hid (HD14.out.below b15)
               have HIL := Lib.hid (Lg.IntsAt.of_own ow15 rfl (fun z hz => by have h1 := HFM.out.fl.us z hz; have h2 := HN.out.2; unfold Lg.Fit; omega))
               have HROWM := Lib.hid (HROWL.out.below b15 (Nat.le_refl _))
               have HWD := Lib.hid (wide_any A5 ms.length c5 _ ms w15 (HK5.out _ (fitR HD15.out)) (Nat.le_refl _) (by have := HML.out; omega))
               clear b15 ow15)
            | (go_at_call 16; refine HLD.out.mono ?_; rintro e w14 ⟨gm, hgm, rfl, rowm, b14⟩
               have HD14 := Lib.hid (HD13.out.below b14)
               have HROWL := Lib.hid rowm
               have HR14 := Lib.hid (HR13.out.below b14 HR13.out.lt)
               have HLS2 := Lib.hid (lists_of HD14.out HCM.out (HFM.out.at_ HK7.out (fitL HD14.out)))
               unfold cdv mkC at HLS2
               simp only at HLS2
               clear r0 r1 r2 r3 r4 r5 r6 r7 r8
               obtain ⟨r0, r1, r2, r3, r4, r5, r6, r7, r8⟩ := HR14.out.cells
               simp only at r0 r1 r2 r3 r4 r5 r6 r7 r8
               clear rowm b14 hgm))
          go_loopw [23] (fun kv wq => ∃ k : Nat, k ≤ L2.length ∧ kv = .int .i64 (k : Int) ∧ Hid (Below w17.heap.size w17 wq)) (fun kv _ => L2.length - (intOf kv).toNat)
          case atStart => exact ⟨0, Nat.zero_le _, rfl, Below.refl _ _⟩
          case round =>
            obtain ⟨k, hk, rfl, hb⟩ := hrel
            have hl10 := HL10.out
            by_cases hlt : k < L2.length
            · have hlt2 : (k : Int) < (L2.length : Int) := by omega
              obtain ⟨bl, ol, rfl, -, hcell⟩ := (HIL17.out.below hb.out HLE17.out).at_ hlt
              have HUS := Lib.hid (used_fl (HD17.out.below hb.out) HCM.out HFM.out k hlt)
              generalize L2.getD k 0 = y0 at *
              go_wp2_with (go_at_call 19; refine HUS.out.mono ?_; rintro e ws ⟨rfl, bs⟩; have HBQ := Lib.hid (hb.out.trans (bs.mono hb.out.size)); clear bs)
              clear hcell
              go_loopw [26] (fun qv wy => ∃ q2 : Nat, q2 ≤ k ∧ qv = .int .i64 (q2 : Int) ∧ Hid (Below w17.heap.size w17 wy)) (fun qv _ => k - (intOf qv).toNat)
              case atStart => exact ⟨0, Nat.zero_le _, rfl, HBQ.out⟩
              case round =>
                obtain ⟨q2, hq, rfl, hbz⟩ := hrel
                by_cases hqk : q2 < k
                · have hqk2 : (q2 : Int) < (k : Int) := by omega
                  have hq3 : (q2 : Int) < (L2.length : Int) := by omega
                  have c1 := ints_at0 (HIL17.out.below hbz.out HLE17.out) (Nat.lt_trans hqk hlt)
                  have c2 := ints_at0 (HIL17.out.below hbz.out HLE17.out) hlt
                  have hne4 : (L2.getD q2 0 == L2.getD k 0) = false := by
                    have := asc_at HFM.out.fl.asc hqk hlt
                    rw [beq_eq_false_iff_ne]
                    omega
                  generalize L2.getD q2 0 = y1 at *
                  generalize L2.getD k 0 = y2 at *
                  go_wp2
                  go_quiet (fail)
                  go_wp2
                  go_roundw
                  case rel => exact ⟨q2 + 1, by omega, by go_num, Lg.Below.drews hbz.out ⟨_, rfl⟩⟩
                  case measure => simp [intOf]; omega
                · obtain rfl : q2 = k := by omega
                  go_wp2
                  go_roundw
                  case rel => exact ⟨q2 + 1, by omega, by go_num, hbz.out⟩
                  case measure => simp [intOf]; omega
            · obtain rfl : k = L2.length := by omega
              go_wp2
              go_roundw
              case rel => exact ⟨t + 1, V2, m2, Q2, j2, p2, ms, ov2, L2, E7, E5, by omega, by omega, by go_num, HD17.out.below hb.out, HCM.out, HFM.out, HML.out, ⟨A5, c5, rfl, hc5, HA5.out, HK5.out⟩, HK7.out, HEN.out⟩
              case measure => simp [intOf]; omega
        · have HSE := Lib.hid hE
          have HRM := Lib.hid hroom
          have HCW : Hid (CdRow wr cb (mkC zs ov) none 0 0 Q j p1) := hd.out.box
          unfold mkC at HCW
          have HNW : Hid (w.heap.size ≤ wr.heap.size) := hd.out.hb.size
          have hfl : fcn m n ≤ 400 := Nat.le_trans (fcn_le m n) HN.out.2
          have hn1 := need6 HN.out.2 HPM.out HSE.out (by have := HML.out; omega)
          have hn2 := need_le hf.out.rt
          have hnu := nums hfl hn1 hn2 hf.out.lnn
          have HNB : Hid (fcn m n ≤ 400 ∧ need ms ≤ 6 ∧ need zs ≤ 6 ∧ L.length = need zs) := ⟨hfl, hn1, hn2, hf.out.lnn⟩
          obtain ⟨hd0, hsum, hg1, hg2⟩ := hnu
          have hgt := hg1 hroom
          have HTT : Hid (∃ tot : Nat, tot = fcn m n + need zs) := ⟨_, rfl⟩
          obtain ⟨tot, htot⟩ := HTT.out
          rw [← htot] at hsum hgt
          clear HTT hg1 hg2 hfl hn1 hn2
          clear hE hroom htot
          go_wp2_with (first
            | (go_at_call 15; refine HSM.out.mono ?_; rintro e wc ⟨rfl, dc⟩
               have HDC := Lib.hid dc
               clear dc)
            | (go_at_call 11; refine HCH2.out.mono ?_; rintro e wb ⟨gc2, rfl, hgc2, rc2, bb⟩
               have HSM := Lib.hid (rsame_dk HDA.out HRCA.out bb rc2)
               clear rc2 bb hgc2)
            | (go_at_call 14; refine HRZ.out.mono ?_; rintro e wz ⟨rfl, bz⟩
               have HDA := Lib.hid (HDY.out.below bz)
               have HRCA := Lib.hid (HRCY.out.below bz HRCY.out.lt)
               have HCH2 := Lib.hid (changed_dk HDA.out)
               clear bz)
            | (go_at_call 12; refine HFE2.out.mono ?_; rintro e wa ⟨rfl, ba⟩
               have HDY := Lib.hid (HD9.out.below ba)
               have HRCY := Lib.hid (HRC9.out.below ba HRC9.out.lt)
               have HRZ := Lib.hid (rlists_any An zs.length cn _ zs wa (HKN.out _ (fitR HDY.out)) (Nat.le_refl _) (by have := hzl.out; omega))
               rw [if_pos hf.out.sm] at HRZ
               clear ba)
            | (go_at_call 14; refine HRL.out.mono ?_; rintro e w9 ⟨rfl, b9⟩
               have HD9 := Lib.hid (HD8.out.below b9)
               have HRC9 := Lib.hid (HRC8.out.below b9 HRC8.out.lt)
               have HFE2 := Lib.hid (free_fl HD9.out hc.out)
               clear b9)
            | (go_at_call 13; refine HSV.out.mono ?_; rintro e w8 ⟨rfl, b8⟩
               have hal := (Below.refl w8.heap.size w8).alloc (Nat.le_refl _) (.cells #[.int .i64 0, .int .i64 0, .int .i64 0, .int .i64 0, .slice none 0 0, .int .i64 0, .int .i64 0, .slice none 0 0, .int .i64 0] 30)
               have HD8 := Lib.hid ((HD7.out.below b8).below hal)
               have HRC8 := Lib.hid ((HRC7.out.below b8 HRC7.out.lt).below hal (Nat.lt_of_lt_of_le HRC7.out.lt b8.size))
               have HRL := Lib.hid (rlists_any A5 ms.length c5 _ ms _ (HK5.out _ ((HE7.out.below b8).below hal)) (Nat.le_refl _) (by have := HML.out; omega))
               rw [if_pos HSE.out] at HRL
               clear b8 hal)
            | (go_at_call 10; refine HIN3.out.mono ?_; rintro e w5 ⟨v5, rfl, ow5, b5⟩
               obtain ⟨E5, hE1, hE2, A5, c5, rfl, hc5, ha5, hk5⟩ := KpI.of_own ow5 HMF.out
               have HK5 : Hid (∀ W, Bxs.fit E5 W → IntsAt W W.heap.size A5 ms.length ms) := hk5
               have HE5 := Lib.hid hE1
               have HEB := Lib.hid hE2
               have HD5 := Lib.hid (hd.out.below b5)
               have HC5 := Lib.hid (HCW.out.below b5 HCW.out.lt)
               have HWS : Hid (wr.heap.size ≤ w5.heap.size) := b5.size
               have HCH := Lib.hid (changed_dk HD5.out)
               clear ow5 b5 hk5 hE1 hE2)
            | (go_at_call 11; refine HCH.out.mono ?_; rintro e w6 ⟨gc, rfl, hgc, rc, b6⟩
               have HRC := Lib.hid rc
               have HE6 := Lib.hid (HE5.out.below b6)
               have HD6 := Lib.hid (HD5.out.below b6)
               have HC6 := Lib.hid (HC5.out.below b6 HC5.out.lt)
               have HX6 := Lib.hid b6
               have HFE := Lib.hid (free_fl HD6.out hc.out)
               clear rc b6 hgc)
            | (go_at_call 12; refine HFE.out.mono ?_; rintro e w7 ⟨rfl, b7⟩
               have HE7 := Lib.hid (HE6.out.below b7)
               have HD7 := Lib.hid (HD6.out.below b7)
               have HC7 := Lib.hid (HC6.out.below b7 HC6.out.lt)
               have HRC7 := Lib.hid (HRC.out.below b7 HRC.out.lt)
               obtain ⟨e0, e1, e2, e3, e4, e5, e6, e7, e8⟩ := HC7.out.cells
               simp only at e0 e1 e2 e3 e4 e5 e6 e7 e8
               have HSV := Lib.hid (save_space HD7.out hc.out (hf.out.at_ hkc.out (fitL HD7.out)) A5 ha5 ms.length c5 w7.heap.size ms (HK5.out _ HE7.out) (Nat.le_refl _) (by have := HML.out; omega) hc5 HSE.out HPM.out (Nat.lt_of_not_le HRM.out))
               unfold cdv zeroC mkC at HSV
               simp only at HSV
               clear b7 HFE))
          go_roundw
          case rel => exact ⟨t + 1, V, m, Q, j, p1, zs, ov, L, E6, E, by omega, by omega, by go_num, HDC.out, hc.out, hf.out, hzl.out, ⟨An, cn, rfl, hcn, HAN.out, HKN.out⟩, hkc.out, hcb.out⟩
          case measure => simp [intOf]; omega
      | false =>
        have HSE := Lib.hid hE
        have HCW : Hid (CdRow wr cb (mkC zs ov) none 0 0 Q j p1) := hd.out.box
        unfold mkC at HCW
        have HNW : Hid (w.heap.size ≤ wr.heap.size) := hd.out.hb.size
        clear hE
        go_wp2_with (first
            | (go_at_call 15; refine HSM.out.mono ?_; rintro e wc ⟨rfl, dc⟩
               have HDC := Lib.hid dc
               clear dc)
            | (go_at_call 11; refine HCH2.out.mono ?_; rintro e wb ⟨gc2, rfl, hgc2, rc2, bb⟩
               have HSM := Lib.hid (rsame_dk HDA.out HRCA.out bb rc2)
               clear rc2 bb hgc2)
            | (go_at_call 12; refine HFE2.out.mono ?_; rintro e wa ⟨rfl, ba⟩
               have HDA := Lib.hid (HD9.out.below ba)
               have HRCA := Lib.hid (HRC9.out.below ba HRC9.out.lt)
               have HCH2 := Lib.hid (changed_dk HDA.out)
               clear ba)
            | (go_at_call 14; refine HRL.out.mono ?_; rintro e w9 ⟨rfl, b9⟩
               have HD9 := Lib.hid (HD8.out.below b9)
               have HRC9 := Lib.hid (HRC8.out.below b9 HRC8.out.lt)
               have HFE2 := Lib.hid (free_fl HD9.out hc.out)
               clear b9)
            | (go_at_call 13; refine HSV.out.mono ?_; rintro e w8 ⟨rfl, b8⟩
               have hal := (Below.refl w8.heap.size w8).alloc (Nat.le_refl _) (.cells #[.int .i64 0, .int .i64 0, .int .i64 0, .int .i64 0, .slice none 0 0, .int .i64 0, .int .i64 0, .slice none 0 0, .int .i64 0] 30)
               have HD8 := Lib.hid ((HD7.out.below b8).below hal)
               have HRC8 := Lib.hid ((HRC7.out.below b8 HRC7.out.lt).below hal (Nat.lt_of_lt_of_le HRC7.out.lt b8.size))
               have HRL := Lib.hid (rlists_any A5 ms.length c5 _ ms _ (HK5.out _ ((HE7.out.below b8).below hal)) (Nat.le_refl _) (by have := HML.out; omega))
               rw [if_neg (show ¬ smB ms = true by rw [HSE.out]; decide)] at HRL
               clear b8 hal)
            | (go_at_call 10; refine HIN3.out.mono ?_; rintro e w5 ⟨v5, rfl, ow5, b5⟩
               obtain ⟨E5, hE1, hE2, A5, c5, rfl, hc5, ha5, hk5⟩ := KpI.of_own ow5 HMF.out
               have HK5 : Hid (∀ W, Bxs.fit E5 W → IntsAt W W.heap.size A5 ms.length ms) := hk5
               have HE5 := Lib.hid hE1
               have HEB := Lib.hid hE2
               have HD5 := Lib.hid (hd.out.below b5)
               have HC5 := Lib.hid (HCW.out.below b5 HCW.out.lt)
               have HWS : Hid (wr.heap.size ≤ w5.heap.size) := b5.size
               have HCH := Lib.hid (changed_dk HD5.out)
               clear ow5 b5 hk5 hE1 hE2)
            | (go_at_call 11; refine HCH.out.mono ?_; rintro e w6 ⟨gc, rfl, hgc, rc, b6⟩
               have HRC := Lib.hid rc
               have HE6 := Lib.hid (HE5.out.below b6)
               have HD6 := Lib.hid (HD5.out.below b6)
               have HC6 := Lib.hid (HC5.out.below b6 HC5.out.lt)
               have HX6 := Lib.hid b6
               have HFE := Lib.hid (free_fl HD6.out hc.out)
               clear rc b6 hgc)
            | (go_at_call 12; refine HFE.out.mono ?_; rintro e w7 ⟨rfl, b7⟩
               have HE7 := Lib.hid (HE6.out.below b7)
               have HD7 := Lib.hid (HD6.out.below b7)
               have HC7 := Lib.hid (HC6.out.below b7 HC6.out.lt)
               have HRC7 := Lib.hid (HRC.out.below b7 HRC.out.lt)
               obtain ⟨e0, e1, e2, e3, e4, e5, e6, e7, e8⟩ := HC7.out.cells
               simp only at e0 e1 e2 e3 e4 e5 e6 e7 e8
               have HSV := Lib.hid (save_large HD7.out hc.out (hf.out.at_ hkc.out (fitL HD7.out)) A5 ha5 ms.length c5 w7.heap.size ms (HK5.out _ HE7.out) (Nat.le_refl _) (by have := HML.out; omega) hc5 HSE.out)
               unfold cdv zeroC mkC at HSV
               simp only at HSV
               clear b7 HFE))
        go_roundw
        case rel => exact ⟨t + 1, V, m, Q, j, p1, zs, ov, L, E6, E, by omega, by omega, by go_num, HDC.out, hc.out, hf.out, hzl.out, ⟨An, cn, rfl, hcn, HAN.out, HKN.out⟩, hkc.out, hcb.out⟩
        case measure => simp [intOf]; omega
    · have HBW := Lib.hid hd.out.hb
      have HCW : Hid (CdRow wr cb (mkC zs ov) none 0 0 Q j p1) := hd.out.box
      have HRT := Lib.hid (rright9_any _ (mkC zs ov) wr.heap.size true wr hf.out.right (hf.out.cd hkc.out (fitL hd.out)) (Nat.le_refl _))
      have hgo' : ¬ (((t : Int) < (len : Int)) ∧ ((t : Int) < 12)) := by omega
      unfold mkC cdv at HRT
      unfold mkC at HCW
      obtain ⟨e0, e1, e2, e3, e4, e5, e6, e7, e8⟩ := HCW.out.cells
      simp only at e0 e1 e2 e3 e4 e5 e6 e7 e8
      clear hd hc hf hzl hk hkc
      by_cases g1 : (t : Int) < (len : Int)
      · have g2 : ¬ (t : Int) < 12 := fun g2 => hgo' ⟨g1, g2⟩
        go_wp2_with (go_at_call 20; refine HRT.out.mono ?_; rintro e w5 ⟨rfl, b5⟩)
        go_ret
        exact ⟨rfl, HBW.out.trans (b5.mono HBW.out.size)⟩
      · go_wp2_with (go_at_call 20; refine HRT.out.mono ?_; rintro e w5 ⟨rfl, b5⟩)
        go_ret
        exact ⟨rfl, HBW.out.trans (b5.mono HBW.out.size)⟩

set_option maxRecDepth 100000 in
theorem lifted (os : Os) (started : os.Started) (H : Type) (enc : TypeId × Value → H) :
    ReturnsInHanded {} Tryz.checked os 3 .any (Rows.runsBackSpec.pre6 enc Tryz.prog Tryz.f3 Rows.runsBackRow.domain false) (Rows.runsBackSpec.post enc Tryz.prog Tryz.f3 false true false false) := by
  refine returnsInHanded_of_change_sized (C := Tryz.checked) own started (by kernel_rfl) Tryz.func3
    (ChangeSpec.witness6 (enc := enc) (C := Tryz.checked) false ⟨#[], #[.slice none 0 0, .int .i64 0], []⟩ 8 (by kernel_rfl) (by kernel_rfl) (by kernel_rfl) (by kernel_rfl)) ?_
  intro W base args ds gs before hval0 hW hcnd hsz0 _
  have hval : ∀ (j : Nat) t v, Tryz.f3.params[j]? = some t → args[j]? = some v → Value.okWide Tryz.prog W .any base t v := hval0
  have hW' := hW
  obtain ⟨p, q, hA0, hV, rfl, hfz, hnd⟩ := hW
  have hA : DataW.TrodAll enc Tryz.prog W 0 (fun _ => true) true Tryz.f3.params.toList args.toList ds p := hA0
  rw [Tryz.params3] at hA hval
  obtain ⟨v0, vs0, d0, ds0, p0, q0, hargs, rfl, rfl, h0, r0⟩ := trodAll_cons hA
  obtain ⟨v1, vs1, d1, ds1, p1, q1, rfl, rfl, rfl, h1, r1⟩ := trodAll_cons r0
  obtain ⟨rfl, rfl, rfl⟩ := trodAll_nil r1
  obtain rfl : args = #[v0, v1] := by cases args; simp_all
  obtain ⟨rfl, rfl⟩ := trodVars_none hV
  have lt0 : ∀ x ∈ p0, x.block < W.heap.size := by obtain ⟨m, hm⟩ := h0; exact DataW.trod_lt m _ _ _ hm
  obtain ⟨a0, len0, cap0, rfl⟩ := okWide_slice Tryz.underlying22 (hval 0 22 v0 rfl rfl)
  obtain ⟨l0, w0⟩ := lists_open h0
  obtain ⟨n1, rfl, rfl, rfl, wn1⟩ := open_int Tryz.underlying3 (hval 1 3 v1 rfl rfl) h1
  clear hA0 hval0
  refine (walk a0 len0 cap0 l0 n1 W w0 (i64_of_wf wn1)).mono fun e W' ⟨he, bel⟩ => ?_
  subst he
  exact ⟨_, rfl, _, _, _, [], _, [], hW', trodAll_mk1 (shut_bool Tryz.underlying4 _), (trodAll_cons_mk (Below.trod laidOut (by kernel_rfl) (of_decide_eq_true (by kernel_rfl)) h0 bel lt0) (trodAll_cons_mk (shut_int Tryz.underlying3 wn1) trodAll_mk0)), rfl, bel.frame _, fun h => by cases h⟩

theorem over : Rows.runsBackRow.holds Tryz.pinned (OpenSpec.ofChange Rows.runsBackSpec) :=
  OpenClaim.holds_of_wide 3 Tryz.f3 rfl rfl rfl rfl rfl rfl rfl ⟨rfl, rfl, rfl, rfl, rfl⟩ rfl rfl rfl rfl rfl (by kernel_rfl) Tryz.func3 (by kernel_rfl)
    (of_decide_eq_true (by kernel_rfl)) (by unfold Func.isWrapper; first | (rw [if_pos (by decide +kernel)]; kernel_rfl) | (rw [if_neg (by decide +kernel)]; exact ⟨rfl, rfl⟩))
    (fun os started H enc _ => lifted os started H enc)

end Go.Proofs.YtgdlfiejjnjcpaaGreat.Dl.runsBack
namespace Go.Proofs.YtgdlfiejjnjcpaaGreat
theorem runsBack_proved : Rows.RunsBackSaid := Dl.runsBack.over
#print axioms runsBack_proved
end Go.Proofs.YtgdlfiejjnjcpaaGreat
