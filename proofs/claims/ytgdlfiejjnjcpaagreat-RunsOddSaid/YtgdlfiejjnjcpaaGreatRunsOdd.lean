/-
  LAW RunsOdd: for every card and whatever texts lie in the blocks: Load and Lists end, with a map of blocks that files may have or an error. No condition.
-/
import Derived.Test.YtgdlfiejjnjcpaaGreatHN
import Derived.Test.YtgdlfiejjnjcpaaGreatIB
import Derived.Test.YtgdlfiejjnjcpaaGreatIC
set_option linter.unusedVariables false
set_option linter.unusedSimpArgs false
set_option maxRecDepth 100000
set_option maxHeartbeats 16000000
namespace Go.Proofs.YtgdlfiejjnjcpaaGreat.Dl.runsOdd
open Go.ChangeShapes Go.WideShapes Go.ChangeAt Go.RowKit
open Go.ChangeMaps (open_string shut_string)
open Mk
open Sl (Turns SlabAt)
open Lg (FS LogAt Whole newD newD_len newD_whole newD_get)
open Kr (crv rightK blockK kf kb kc KBox cells3 I64 inB marksK bit_marks marks_size)
open Cf (cd_open own laidOut)
open Lf (strs_open)

theorem crd_wr {V : List ByteArray} {b : Nat} {m : ByteArray} (h : Crd V b m) (i : Nat) (s : ByteArray) : Crd (wrV V ((51 : Int) + (i : Int)) s) b m := by
  unfold wrV
  split
  · refine h.set (by rw [getD_set2, if_neg (by omega)]) (by rw [List.length_set]) ?_ h.sz
    show (V.set ((51 : Int) + (i : Int)).toNat _).getD 42 ⟨#[]⟩ = _
    rw [getD_set2, if_neg (by omega)]
    exact h.mb
  · exact h
theorem ld_len {V : List ByteArray} {rs l : List Sp} {ov : Int} {bl : List Int} (h : ldR V ((100 : Nat) : Int) rs ov = some (l, bl)) : bl.length ≤ 49 := by
  obtain ⟨h1, h2, _, _⟩ := ldGo_some (ld_go h) List.nodup_nil (by simp)
  exact nodup_bd 49 51 bl h1 fun x hx => by have := h2 x hx; omega
theorem map_len (l : List Sp) (n : Nat) : (mapR l n).length = n := by simp [mapR]
theorem walk {v : Value} (x : Cd) (a : Option Addr) (len cap : Nat) (l : List ByteArray) (w : World) (h0 : CdAt w w.heap.size v x) (h1 : Sl.StrsAt w a len l ∧ l.length = len ∧ len ≤ cap ∧ ∀ s, s ∈ l → s.size ≤ 9223372036854775807) :
    Calls Tryz.prog 6 #[v, .slice a len cap] w fun e w' => e = .returned (.bool true) ∧ Below w.heap.size w w' := by
  obtain ⟨A, n, kp, A', n', k', rfl, h0'⟩ := h0
  have h0 : CdAt w w.heap.size (cdv x A n kp A' n' k') x := ⟨A, n, kp, A', n', k', rfl, h0'⟩
  have HB0 : Hid (Below w.heap.size w (w.alloc (.cells (cells9 x A n kp A' n' k') 30))) := (Below.refl _ _).alloc (Nat.le_refl _) _
  have HC0 : Hid (CdRow (w.alloc (.cells (cells9 x A n kp A' n' k') 30)) w.heap.size x A n kp A' n' k') := CdRow.new _ _ _ _ _ _ _ _
  have HCX : Hid (CdAt (w.alloc (.cells (cells9 x A n kp A' n' k') 30)) w.heap.size (cdv x A n kp A' n' k') x) := h0.below HB0.out (Nat.le_refl _)
  have HST : Hid (∀ W, Below w.heap.size w W → ∀ k, k < len → ∃ b o, a = some ⟨b, o, none⟩ ∧ W.cell? ⟨b, o + k, none⟩ = some (.string (l.getD k ⟨#[]⟩))) := fun W hW k hk => by
    obtain ⟨b, o, e, hc⟩ := h1.1 k hk
    exact ⟨b, o, e, (hW.cell (World.block_lt_of_cell? w _ hc)).trans hc⟩
  have HSZ : Hid (∀ k, k < len → (l.getD k ⟨#[]⟩).size ≤ 9223372036854775807) := fun k hk => by
    rw [show l.getD k ⟨#[]⟩ = l[k]'(by rw [h1.2.1]; exact hk) by simp [List.getD, List.getElem?_eq_getElem (show k < l.length by rw [h1.2.1]; exact hk)]]
    exact h1.2.2.2 _ (List.getElem_mem _)
  have HRR := Lib.hid (fun W (hW : Below w.heap.size w W) => rright9_any _ x w.heap.size _ W rfl (h0.below hW (Nat.le_refl _)) hW.size)
  clear h0 h0' h1
  have HLV := Lib.hid (lives15_any (w.alloc (.cells (cells9 x A n kp A' n' k') 30)))
  have HBG := Lib.hid (fun W => begin15_any 100 W (by omega) (by omega))
  unfold RetBg at HBG
  rw [show ((100 : Nat) : Int) = 100 from rfl] at HBG
  have HCR := Lib.hid (V0_crd (n := 100) (by omega) (by omega))
  unfold cells9 at *
  obtain ⟨wb, hwb⟩ : ∃ wb, (w.alloc (.cells #[.int .i64 x.fm, .int .i64 x.kd, .int .i64 x.ln, .int .i64 x.sz, .slice A n kp, .int .i64 x.sg, .int .i64 x.db, .slice A' n' k', .int .i64 x.ov] 30)) = wb := ⟨_, rfl⟩
  have HWB := Lib.hid hwb
  rw [hwb] at HB0 HC0 HCX HLV
  go_enter Tryz.func6, Tryz.ntmps6
  go_upto_region 1 with fail
  clear hwb
  have HSB : Hid (w.heap.size ≤ wb.heap.size) := HB0.out.size
  go_wp2_with (first
    | (go_at_call 7; refine HLV.out.mono ?_; rintro e w1 ⟨rfl, b1⟩; have HB1 := Lib.hid b1; clear b1)
    | (go_at_call 8; refine (HBG.out w1).mono ?_; rintro e w2 ⟨B, d, q, p, pd, pm, rfl, d2⟩; have HD2 := Lib.hid (d2.from HB1.out); clear d2))
  have HUP : Hid (∀ W, Below wb.heap.size wb W → Below w.heap.size w W) := fun W hW => HB0.out.trans (hW.mono HSB.out)
  go_loopw [6] (fun i wr => ∃ (t : Nat) (V : List ByteArray), t ≤ 49 ∧ t ≤ len ∧ i = .int .i64 (t : Int) ∧ Hid (Dk wb wr B d q p pd pm 0 0 [] 100 (newD 100) V) ∧ Hid (Crd V 100 (marksK (100 : Nat)))) (fun i _ => 49 - (intOf i).toNat)
  case atStart => exact ⟨0, _, by omega, by omega, rfl, HD2.out, HCR.out⟩
  case round =>
    obtain ⟨t, V, ht, htl, rfl, hd, hc⟩ := hrel
    by_cases hgo : t < len ∧ t < 49
    · obtain ⟨g1, g2⟩ := hgo
      have g1' : (t : Int) < (len : Int) := by omega
      have g2' : (t : Int) < 49 := by omega
      obtain ⟨b, o, rfl, hcell⟩ := HST.out wr (HUP.out _ hd.out.hb) t g1
      have HWR := Lib.hid (dk_write hd.out ((51 : Int) + (t : Int)) (l.getD t ⟨#[]⟩) (HSZ.out t g1))
      have HC2 := Lib.hid (crd_wr hc.out t (l.getD t ⟨#[]⟩))
      generalize l.getD t ⟨#[]⟩ = s at *
      generalize wrE V ((51 : Int) + (t : Int)) s = z at *
      go_wp2_with (go_at_call 22; refine HWR.out.mono ?_; rintro e w3 ⟨rfl, d3⟩; have HD3 := Lib.hid d3; clear d3)
      go_roundw
      case rel => exact ⟨t + 1, _, by omega, by omega, by go_num, HD3.out, HC2.out⟩
      case measure => simp [intOf]; omega
    · have HLD := Lib.hid (loadf_any hd.out hc.out x A n kp A' n' k' w.heap.size (HCX.out.below hd.out.hb HSB.out) (Nat.le_trans HSB.out hd.out.hb.size))
      have HLS := Lib.hid (fun W (hW : Below wr.heap.size wr W) => lists_any (hd.out.below hW) hc.out x A n kp A' n' k' w.heap.size ((HCX.out.below hd.out.hb HSB.out).below hW (Nat.le_trans HSB.out hd.out.hb.size)) (Nat.le_trans (Nat.le_trans HSB.out hd.out.hb.size) hW.size))
      unfold RetLoad at HLD
      unfold RetLists at HLS
      have HBW := Lib.hid (HUP.out _ hd.out.hb)
      have HCW := Lib.hid (HC0.out.below hd.out.hb HC0.out.lt)
      obtain ⟨e0, e1, e2, e3, e4, e5, e6, e7, e8⟩ := HCW.out.cells
      have hgo' : ¬ (((t : Int) < (len : Int)) ∧ ((t : Int) < 49)) := by omega
      clear hd hc
      cases ho : isTwo x with
      | false =>
        simp only [ho] at HLD HLS
        clear ho HRR
        by_cases g1 : (t : Int) < (len : Int)
        · have g2 : ¬ (t : Int) < 49 := fun g2 => hgo' ⟨g1, g2⟩
          go_wp2_with (first
            | (go_at_call 16; refine HLD.out.mono ?_; rintro e w3 ⟨rfl, b3⟩; have HX3 := Lib.hid b3; have HC3 := Lib.hid (HCW.out.below b3 HCW.out.lt); clear b3 e0 e1 e2 e3 e4 e5 e6 e7 e8; obtain ⟨e0, e1, e2, e3, e4, e5, e6, e7, e8⟩ := HC3.out.cells)
            | (go_at_call 17; refine (HLS.out _ HX3.out).mono ?_; rintro e w4 ⟨rfl, b4⟩; have HX4 := Lib.hid (HX3.out.trans (b4.mono HX3.out.size)); clear b4))
          go_ret
          exact ⟨rfl, HBW.out.trans (HX4.out.mono HBW.out.size)⟩
        · go_wp2_with (first
            | (go_at_call 16; refine HLD.out.mono ?_; rintro e w3 ⟨rfl, b3⟩; have HX3 := Lib.hid b3; have HC3 := Lib.hid (HCW.out.below b3 HCW.out.lt); clear b3 e0 e1 e2 e3 e4 e5 e6 e7 e8; obtain ⟨e0, e1, e2, e3, e4, e5, e6, e7, e8⟩ := HC3.out.cells)
            | (go_at_call 17; refine (HLS.out _ HX3.out).mono ?_; rintro e w4 ⟨rfl, b4⟩; have HX4 := Lib.hid (HX3.out.trans (b4.mono HX3.out.size)); clear b4))
          go_ret
          exact ⟨rfl, HBW.out.trans (HX4.out.mono HBW.out.size)⟩
      | true =>
        have HRC := Lib.hid (isTwo_t ho).1
        rw [HRC.out] at HRR
        cases hl : ldR V ((100 : Nat) : Int) x.rs x.ov with
        | none =>
          simp only [ho, hl] at HLD HLS
          clear ho hl HRR
          by_cases g1 : (t : Int) < (len : Int)
          · have g2 : ¬ (t : Int) < 49 := fun g2 => hgo' ⟨g1, g2⟩
            go_wp2_with (first
              | (go_at_call 16; refine HLD.out.mono ?_; rintro e w3 ⟨rfl, b3⟩; have HX3 := Lib.hid b3; have HC3 := Lib.hid (HCW.out.below b3 HCW.out.lt); clear b3 e0 e1 e2 e3 e4 e5 e6 e7 e8; obtain ⟨e0, e1, e2, e3, e4, e5, e6, e7, e8⟩ := HC3.out.cells)
              | (go_at_call 17; refine (HLS.out _ HX3.out).mono ?_; rintro e w4 ⟨rfl, b4⟩; have HX4 := Lib.hid (HX3.out.trans (b4.mono HX3.out.size)); clear b4))
            go_ret
            exact ⟨rfl, HBW.out.trans (HX4.out.mono HBW.out.size)⟩
          · go_wp2_with (first
              | (go_at_call 16; refine HLD.out.mono ?_; rintro e w3 ⟨rfl, b3⟩; have HX3 := Lib.hid b3; have HC3 := Lib.hid (HCW.out.below b3 HCW.out.lt); clear b3 e0 e1 e2 e3 e4 e5 e6 e7 e8; obtain ⟨e0, e1, e2, e3, e4, e5, e6, e7, e8⟩ := HC3.out.cells)
              | (go_at_call 17; refine (HLS.out _ HX3.out).mono ?_; rintro e w4 ⟨rfl, b4⟩; have HX4 := Lib.hid (HX3.out.trans (b4.mono HX3.out.size)); clear b4))
            go_ret
            exact ⟨rfl, HBW.out.trans (HX4.out.mono HBW.out.size)⟩
        | some lb =>
          obtain ⟨l2, bl⟩ := lb
          have hpt : ptsOk ((100 : Nat) : Int) (mapR l2 120) = true := right_pts (ld_right hl)
          have HPT : Hid (∀ k, k < 120 → (mapR l2 120).getD k 0 = 0 ∨ (51 ≤ (mapR l2 120).getD k 0 ∧ (mapR l2 120).getD k 0 < 100)) := fun k hk => by
            rcases getD_or (mapR l2 120) k with e | e
            · exact .inl e
            · exact ptOk_t.1 (List.all_eq_true.1 hpt _ e)
          have HML : Hid ((mapR l2 120).length = 120) := map_len _ _
          have hnl10 := ld_len hl
          simp only [ho, hl] at HLD HLS
          clear ho hl hpt
          obtain ⟨nl, hnl⟩ : ∃ nl, bl.length = nl := ⟨_, rfl⟩
          rw [hnl] at hnl10 HLS
          clear hnl
          by_cases g1 : (t : Int) < (len : Int)
          · have g2 : ¬ (t : Int) < 49 := fun g2 => hgo' ⟨g1, g2⟩
            go_wp2_with (first
              | (go_at_call 16; refine HLD.out.mono ?_; rintro e w3 ⟨g, hg, rfl, row, b3⟩; have HX3 := Lib.hid b3; have HROW := Lib.hid row; have HC3 := Lib.hid (HCW.out.below b3 HCW.out.lt); clear b3 row hg e0 e1 e2 e3 e4 e5 e6 e7 e8; obtain ⟨e0, e1, e2, e3, e4, e5, e6, e7, e8⟩ := HC3.out.cells)
              | (go_at_call 17; refine (HLS.out _ HX3.out).mono ?_; rintro e w4 ⟨v4, rfl, ow4, b4⟩; obtain ⟨A4, c4, rfl, -⟩ := Lg.own_slice ow4; have HX4 := Lib.hid (HX3.out.trans (b4.mono HX3.out.size)); have HR4 := Lib.hid (HROW.out.below b4 (Nat.le_refl _)); have HC4 := Lib.hid (HC3.out.below b4 HC3.out.lt); clear b4 ow4 e0 e1 e2 e3 e4 e5 e6 e7 e8))
            have HB4 := Lib.hid (HBW.out.trans (HX4.out.mono HBW.out.size))
            have HRR4 := Lib.hid (HRR.out w4 HB4.out)
            generalize mapR l2 120 = M at *
            go_loop [11] (fun i => ∃ k : Nat, k ≤ 120 ∧ i = .int .i64 (k : Int)) (fun i => 120 - (intOf i).toNat)
            case atStart => exact ⟨0, by omega, rfl⟩
            case round =>
              obtain ⟨k, hk, rfl⟩ := hrel
              by_cases hlt : k < 120
              · have hlt2 : (k : Int) < 120 := by omega
                have hcell := HR4.out.cell k (by rw [HML.out]; exact hlt)
                have hz := HPT.out k hlt
                generalize M.getD k 0 = z at *
                rcases hz with rfl | ⟨z1, z2⟩
                · go_wp2
                  go_round
                  case rel => exact ⟨k + 1, by omega, by go_num⟩
                  case measure => simp [intOf]; omega
                · have z0 : (z != 0) = true := bne_iff_ne.2 (by omega)
                  have z1' : ¬ z < 51 := by omega
                  have z2' : ¬ z ≥ 100 := by omega
                  go_wp2
                  go_round
                  case rel => exact ⟨k + 1, by omega, by go_num⟩
                  case measure => simp [intOf]; omega
              · obtain rfl : k = 120 := by omega
                rw [show ((120 : Nat) : Int) = 120 from rfl]
                have hn60 : (nl : Int) ≤ 60 := by omega
                obtain ⟨e0, e1, e2, e3, e4, e5, e6, e7, e8⟩ := HC4.out.cells
                go_wp2_with (go_at_call 20; refine HRR4.out.mono ?_; rintro e w5 ⟨rfl, b5⟩; have HB5 := Lib.hid (HB4.out.trans (b5.mono HB4.out.size)); clear b5)
                go_ret
                exact ⟨rfl, HB5.out⟩
          · go_wp2_with (first
              | (go_at_call 16; refine HLD.out.mono ?_; rintro e w3 ⟨g, hg, rfl, row, b3⟩; have HX3 := Lib.hid b3; have HROW := Lib.hid row; have HC3 := Lib.hid (HCW.out.below b3 HCW.out.lt); clear b3 row hg e0 e1 e2 e3 e4 e5 e6 e7 e8; obtain ⟨e0, e1, e2, e3, e4, e5, e6, e7, e8⟩ := HC3.out.cells)
              | (go_at_call 17; refine (HLS.out _ HX3.out).mono ?_; rintro e w4 ⟨v4, rfl, ow4, b4⟩; obtain ⟨A4, c4, rfl, -⟩ := Lg.own_slice ow4; have HX4 := Lib.hid (HX3.out.trans (b4.mono HX3.out.size)); have HR4 := Lib.hid (HROW.out.below b4 (Nat.le_refl _)); have HC4 := Lib.hid (HC3.out.below b4 HC3.out.lt); clear b4 ow4 e0 e1 e2 e3 e4 e5 e6 e7 e8))
            have HB4 := Lib.hid (HBW.out.trans (HX4.out.mono HBW.out.size))
            have HRR4 := Lib.hid (HRR.out w4 HB4.out)
            generalize mapR l2 120 = M at *
            go_loop [11] (fun i => ∃ k : Nat, k ≤ 120 ∧ i = .int .i64 (k : Int)) (fun i => 120 - (intOf i).toNat)
            case atStart => exact ⟨0, by omega, rfl⟩
            case round =>
              obtain ⟨k, hk, rfl⟩ := hrel
              by_cases hlt : k < 120
              · have hlt2 : (k : Int) < 120 := by omega
                have hcell := HR4.out.cell k (by rw [HML.out]; exact hlt)
                have hz := HPT.out k hlt
                generalize M.getD k 0 = z at *
                rcases hz with rfl | ⟨z1, z2⟩
                · go_wp2
                  go_round
                  case rel => exact ⟨k + 1, by omega, by go_num⟩
                  case measure => simp [intOf]; omega
                · have z0 : (z != 0) = true := bne_iff_ne.2 (by omega)
                  have z1' : ¬ z < 51 := by omega
                  have z2' : ¬ z ≥ 100 := by omega
                  go_wp2
                  go_round
                  case rel => exact ⟨k + 1, by omega, by go_num⟩
                  case measure => simp [intOf]; omega
              · obtain rfl : k = 120 := by omega
                rw [show ((120 : Nat) : Int) = 120 from rfl]
                have hn60 : (nl : Int) ≤ 60 := by omega
                obtain ⟨e0, e1, e2, e3, e4, e5, e6, e7, e8⟩ := HC4.out.cells
                go_wp2_with (go_at_call 20; refine HRR4.out.mono ?_; rintro e w5 ⟨rfl, b5⟩; have HB5 := Lib.hid (HB4.out.trans (b5.mono HB4.out.size)); clear b5)
                go_ret
                exact ⟨rfl, HB5.out⟩


set_option maxRecDepth 100000 in
theorem lifted (os : Os) (started : os.Started) (H : Type) (enc : TypeId × Value → H) :
    ReturnsInHanded {} Tryz.checked os 6 .any (Rows.runsOddSpec.pre6 enc Tryz.prog Tryz.f6 Rows.runsOddRow.domain false) (Rows.runsOddSpec.post enc Tryz.prog Tryz.f6 false true false false) := by
  refine returnsInHanded_of_change_sized (C := Tryz.checked) own started (by kernel_rfl) Tryz.func6
    (ChangeSpec.witness6 (enc := enc) (C := Tryz.checked) false ⟨#[], #[.agg #[.int .i64 0, .int .i64 0, .int .i64 0, .int .i64 0, .slice none 0 0, .int .i64 0, .int .i64 0, .slice none 0 0, .int .i64 0], .slice none 0 0], []⟩ 8 (by kernel_rfl) (by kernel_rfl) (by kernel_rfl) (by kernel_rfl)) ?_
  intro W base args ds gs before hval0 hW hcnd hsz0 _
  have hval : ∀ (j : Nat) t v, Tryz.f6.params[j]? = some t → args[j]? = some v → Value.okWide Tryz.prog W .any base t v := hval0
  have hW' := hW
  obtain ⟨p, q, hA0, hV, rfl, hfz, hnd⟩ := hW
  have hA : DataW.TrodAll enc Tryz.prog W 0 (fun _ => true) true Tryz.f6.params.toList args.toList ds p := hA0
  rw [Tryz.params6] at hA hval
  obtain ⟨v0, vs0, d0, ds0, p0, q0, hargs, rfl, rfl, h0, r0⟩ := trodAll_cons hA
  obtain ⟨v1, vs1, d1, ds1, p1, q1, rfl, rfl, rfl, h1, r1⟩ := trodAll_cons r0
  obtain ⟨rfl, rfl, rfl⟩ := trodAll_nil r1
  obtain rfl : args = #[v0, v1] := by cases args; simp_all
  obtain ⟨rfl, rfl⟩ := trodVars_none hV
  have lt0 : ∀ x ∈ p0, x.block < W.heap.size := by obtain ⟨m, hm⟩ := h0; exact DataW.trod_lt m _ _ _ hm
  obtain ⟨x0, -, w0⟩ := cd_open (hval 0 30 v0 rfl rfl) h0
  have lt1 : ∀ x ∈ p1, x.block < W.heap.size := by obtain ⟨m, hm⟩ := h1; exact DataW.trod_lt m _ _ _ hm
  obtain ⟨a1, len1, cap1, rfl⟩ := okWide_slice Tryz.underlying50 (hval 1 50 v1 rfl rfl)
  obtain ⟨l1, w1⟩ := strs_open h1
  clear hA0 hval0
  refine (walk x0 a1 len1 cap1 l1 W w0 w1).mono fun e W' ⟨he, bel⟩ => ?_
  subst he
  exact ⟨_, rfl, _, _, _, [], _, [], hW', trodAll_mk1 (shut_bool Tryz.underlying4 _), (trodAll_cons_mk (Below.trod laidOut (by kernel_rfl) (of_decide_eq_true (by kernel_rfl)) h0 bel lt0) (trodAll_cons_mk (Below.trod laidOut (by kernel_rfl) (of_decide_eq_true (by kernel_rfl)) h1 bel lt1) trodAll_mk0)), rfl, bel.frame _, fun h => by cases h⟩

theorem over : Rows.runsOddRow.holds Tryz.pinned (OpenSpec.ofChange Rows.runsOddSpec) :=
  OpenClaim.holds_of_wide 6 Tryz.f6 rfl rfl rfl rfl rfl rfl rfl ⟨rfl, rfl, rfl, rfl, rfl⟩ rfl rfl rfl rfl rfl (by kernel_rfl) Tryz.func6 (by kernel_rfl)
    (of_decide_eq_true (by kernel_rfl)) (by unfold Func.isWrapper; first | (rw [if_pos (by decide +kernel)]; kernel_rfl) | (rw [if_neg (by decide +kernel)]; exact ⟨rfl, rfl⟩))
    (fun os started H enc _ => lifted os started H enc)

end Go.Proofs.YtgdlfiejjnjcpaaGreat.Dl.runsOdd
namespace Go.Proofs.YtgdlfiejjnjcpaaGreat
theorem runsOdd_proved : Rows.RunsOddSaid := Dl.runsOdd.over
#print axioms runsOdd_proved
end Go.Proofs.YtgdlfiejjnjcpaaGreat
