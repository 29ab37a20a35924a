/-
  PROVED: 'wainwrightlaw08.IndexPlay' returns true for every input (a slice of entries), and its arguments read afterwards as before. Conditions: none beside those that the row itself says (the form's own reach).
-/
import Derived.Test.YtflijnhgonigjaaPEnsOpen
import Derived.Test.YtflijnhgonigjaaPPlayM
import Derived.Test.YtflijnhgonigjaaPRef
namespace Go.Proofs.Ytflijnhgonigjaa.indexPlay
open Go.ChangeShapes Go.WideShapes Go.ChangeAt Go.RowKit
open Go.ChangeMaps (open_string shut_string)
set_option linter.unusedVariables false

def PlayR (w wr : World) (v3 v4 : Value) : Prop := ∃ p A3 c3 A4 c4, v3 = .slice A3 p.length c3 ∧ v4 = .slice A4 p.flatten.length c4 ∧ p.flatten.length ≤ c4 ∧ rightP p = true ∧ PgsAt wr wr.heap.size A3 p.length p ∧ EnsAt wr wr.heap.size A4 p.flatten.length p.flatten ∧ Below w.heap.size w wr

set_option maxRecDepth 100000 in
set_option maxHeartbeats 16000000 in
theorem walk (A : Option Addr) (n c : Nat) (sc : List En) (w : World) (h1 : EnsAt w w.heap.size A n sc ∧ n ≤ c) :
    Calls Try.prog 6 #[.slice A n c] w fun e w' => e = .returned (.bool true) ∧ Below w.heap.size w w' := by
  obtain ⟨hE, hnc⟩ := h1
  obtain ⟨m, hm⟩ : ∃ m : Nat, m = min n 200 := ⟨_, rfl⟩
  have hmin : min (n : Int) 200 = (m : Int) := by omega
  have hmn : (m : Int) ≤ (c : Int) := by omega
  have HEM : Hid (∀ wr, Below w.heap.size w wr → EnsAt wr w.heap.size A m (sc.take m)) := fun wr hb => (hE.take m (by omega)).below hb (Nat.le_refl _)
  clear hE
  generalize sc.take m = sc2 at *
  have hm2 : m ≤ 200 := by omega
  clear hm
  go_enter Try.func6, Try.ntmps6
  go_wp2_with fail
  refine (lives_any w).mono ?_
  rintro e w1 ⟨rfl, b1⟩
  have HB1 := Lib.hid b1
  clear b1
  go_wp2
  go_loopw [3, 4, 5] (fun v3 v4 i wr => ∃ k : Nat, k ≤ m ∧ i = .int .i64 (k : Int) ∧ PlayR w wr v3 v4) (fun _ _ i _ => m - (intOf i).toNat)
  case atStart => exact ⟨0, by omega, rfl, [], none, 0, none, 0, rfl, rfl, Nat.le_refl _, rightP_nil, PgsAt.nil _ _ _, EnsAt.nil _ _ _, HB1.out⟩
  case round =>
    obtain ⟨k, hk, rfl, p, A3, c3, A4, c4, rfl, rfl, hc4, hr, hP, hW, hb⟩ := hrel
    clear HB1
    have hpl := right_plen hr
    have hfl := (rightP_iff.1 hr).2.2
    by_cases hlt : k < m
    · obtain ⟨b, o, rfl, hbB, g1, g2⟩ := (HEM.out wr hb).at_ hlt
      have hfit : (sc2.getD k En.z).fit := (HEM.out wr hb).bd k
      generalize sc2.getD k En.z = x at *
      obtain ⟨s, z⟩ := x
      simp only at g1 g2
      have hfs : s.size ≤ 140737488355328 := hfit.1
      have HFIT := Lib.hid hfit
      clear hfit
      have x2 : (k : Int) < (m : Int) := by omega
      go_upto_region 10 with fail
      have n1 : (wr.alloc (.cells #[.string s, .int .i64 z] 47)).cell? ⟨wr.heap.size, 0, none⟩ = some (.string s) := cell_new wr _ 47 0 rfl
      have n2 : (wr.alloc (.cells #[.string s, .int .i64 z] 47)).cell? ⟨wr.heap.size, 1, none⟩ = some (.int .i64 z) := cell_new wr _ 47 1 rfl
      have hba : Below wr.heap.size wr (wr.alloc (.cells #[.string s, .int .i64 z] 47)) := (Below.refl _ _).alloc (Nat.le_refl _) _
      have HP1 := Lib.hid (hP.to hba)
      have HW1 := Lib.hid (hW.to hba)
      have HB1 := Lib.hid (hb.trans (hba.mono hb.size))
      have HQ1 : Hid (wr.heap.size < (wr.alloc (.cells #[.string s, .int .i64 z] 47)).heap.size) := by show _ < _; simp
      have HAS := Lib.hid (right_asc hr)
      have HR := Lib.hid hr
      have HKS := Lib.hid (fun q (hq : q < p.flatten.length) hle => kL_step (right_asc hr) s hq hle)
      have HKL := Lib.hid (kL_le p.flatten s)
      clear g1 g2 hP hW hb hba hr
      generalize wr.alloc (.cells #[.string s, .int .i64 z] 47) = W1 at *
      generalize wr.heap.size = px at *
      generalize hwant : p.flatten = want at *
      have HWP := Lib.hid hwant
      have HAS' : Hid (Asc want) := HAS.out
      clear hwant
      generalize hnw : want.length = nw at *
      have HNW := Lib.hid hnw
      clear hnw
      generalize hnp : p.length = np at *
      have HNP := Lib.hid hnp
      clear hnp
      go_wp2
      go_loopw [7] (fun i wq => ∃ q : Nat, q ≤ nw ∧ i = .int .i64 (q : Int) ∧ Hid (q ≤ kL want s) ∧ Drew W1 wq) (fun i _ => nw - (intOf i).toNat)
      case atStart => exact ⟨0, by omega, rfl, Nat.zero_le _, Drew.refl _⟩
      case round =>
        obtain ⟨q, hq, rfl, hqk, hd⟩ := hrel
        have HD := Lib.hid hd
        clear hd
        have m1 := (HD.out.cells _).trans n1
        have m2 := (HD.out.cells _).trans n2
        by_cases hqw : q < nw
        · obtain ⟨g, og, rfl, hgB, e1, e2⟩ := HW1.out.at_ hqw
          have k1 := (HD.out.cells _).trans e1
          have k2 := (HD.out.cells _).trans e2
          have HST := Lib.hid (HKS.out q hqw hqk.out)
          clear e1 e2
          have y2 : (q : Int) < (nw : Int) := by omega
          have y3 : decide (q < nw) = true := by simpa using hqw
          have HLT : Hid (Op.bytesLess (want.getD q En.z).nm.toList s.toList = ltB (want.getD q En.z).nm s) := bytesLess_lt _ _
          have HEQ : Hid (eqB (want.getD q En.z).nm s = ((want.getD q En.z).nm.toList == s.toList)) := rfl
          generalize hwx : want.getD q En.z = wx at *
          have HWX := Lib.hid hwx
          clear hwx
          obtain ⟨wn, wz⟩ := wx
          simp only at k1 k2 HST HLT HEQ
          cases hv : ltB wn s with
          | true =>
            have hv2 : Op.bytesLess wn.toList s.toList = true := HLT.out.trans hv
            have HQK := Lib.hid (HST.out.1 hv)
            clear hv
            go_wp2
            go_quiet (fail)
            go_wp2
            go_roundw
            case rel => exact ⟨q + 1, by omega, by go_num, HQK.out, HD.out.trans ⟨_, rfl⟩⟩
            case measure => simp [intOf]; omega
          | false =>
            have hv2 : Op.bytesLess wn.toList s.toList = false := HLT.out.trans hv
            have HQK := Lib.hid (HST.out.2 hv)
            clear hv
            cases heq : wn.toList == s.toList with
            | true =>
              have HE := Lib.hid (HEQ.out.trans heq)
              go_wp2
              refine wp_region_quiet_lit (by kernel_rfl) (by kernel_rfl) ?_
              repeat (go_big_quiet_step (fail))
              refine wpQuiet_nil ?_
              intro _ hw'
              obtain ⟨nq1, hw''⟩ := hw'
              subst hw''
              go_wp2_with fail
              refine wp_region_quiet_lit (by kernel_rfl) (by kernel_rfl) ?_
              repeat (go_big_quiet_step (fail))
              refine wpQuiet_nil ?_
              intro _ hw'
              obtain ⟨nq2, hw''⟩ := hw'
              subst hw''
              have hdw : Drew W1 ((wr.drewN nq1).drewN nq2) := (HD.out.trans ⟨nq1, rfl⟩).trans ⟨nq2, rfl⟩
              have M1 : Hid (((wr.drewN nq1).drewN nq2).cell? ⟨px, 0, none⟩ = some (.string s)) := m1
              have M2 : Hid (((wr.drewN nq1).drewN nq2).cell? ⟨px, 1, none⟩ = some (.int .i64 z)) := m2
              clear m1 m2 n1 n2 HD
              generalize (wr.drewN nq1).drewN nq2 = W at *
              have hsW : W.heap.size = W1.heap.size := by obtain ⟨r, rfl⟩ := hdw; rfl
              have HPX : Hid (px < W.heap.size) := by show _ < _; rw [hsW]; exact HQ1.out
              have HPW : Hid (PgsAt W W.heap.size A3 np p) := by show PgsAt _ _ _ _ _; rw [hsW]; exact HP1.out.keep (fun a _ => hdw.cells a)
              have HEW : Hid (EnsAt W W.heap.size (some ⟨g, og, none⟩) nw want) := by show EnsAt _ _ _ _ _; rw [hsW]; exact HW1.out.keep (fun a _ => hdw.cells a)
              have HBW : Hid (Below w.heap.size w W) := Below.drews HB1.out hdw
              have m1 := M1.out
              have m2 := M2.out
              clear hdw hsW HP1 HW1 HB1 HQ1
              have HPF : Hid (p.flatten.length ≤ 100000) := by show _ ≤ _; rw [HWP.out, HNW.out]; omega
              have hq2 := HQK.out
              have HHAS : Hid (hasL p.flatten s = true) := by show _ = _; rw [HWP.out]; exact hasL_iff.2 ⟨want.getD q En.z, by rw [getD_lt (by rw [HNW.out]; exact hqw)]; exact List.getElem_mem _, by rw [HWX.out]; exact eqB_iff.1 HE.out⟩
              by_cases hz1 : z < 1
              · have hz1b : decide (z < 1) = true := by simpa using hz1
                have hok := dropP_ok HR.out HHAS.out
                have KD := Lib.hid (drop_any A3 np c3 W.heap.size p s W HPW.out (Nat.le_refl _) (by omega) HPF.out)
                have HND : Hid (nodeOf p.flatten s = wz) := by show _ = _; unfold nodeOf; rw [HWP.out, hq2, HWX.out]
                rw [HND.out, HWP.out, hq2] at hok
                generalize dropP p s = RR at *
                obtain ⟨R, zn, ze⟩ := RR
                simp only at hok
                obtain ⟨rfl, rfl, hRf, hRr⟩ := hok
                have HRF := Lib.hid hRf
                have HRR := Lib.hid hRr
                clear hRf hRr
                go_wp2_with fail
                refine KD.out.mono ?_
                rintro e w3 ⟨A9, c9, rfl, hc9, hP9, b9⟩
                simp only at hP9 ⊢
                obtain ⟨g', og', e9, -, -, f2⟩ := HEW.out.at_ hqw
                obtain ⟨rfl, rfl⟩ : g' = g ∧ og' = og := by injection e9 with e9; injection e9 with a1 a2; exact ⟨a1.symm, a2.symm⟩
                rw [HWX.out] at f2
                have c9' := bcell b9 f2 (HEW.out.block (by omega) (a := ⟨g', og', none⟩) rfl)
                have HE3 := Lib.hid (HEW.out.below b9 (Nat.le_refl _))
                have HP9 := Lib.hid hP9
                have B3 := Lib.hid (HBW.out.trans (b9.mono HBW.out.size))
                have HWZ : Hid (W.heap.size ≤ w3.heap.size) := b9.size
                clear hP9 b9 e9 f2 KD
                have y4 : (0 : Int) ≤ (q : Int) := by omega
                have hq1 : q + 1 ≤ nw := by omega
                have y6 : (q : Int) + 1 ≤ (nw : Int) := by omega
                have y7 : IntKind.i64.wrap ((q : Int) + 1) = (q : Int) + 1 := by rw [IntKind.wrap_i64]; omega
                have y8 : ((q : Int) + 1).toNat = q + 1 := by omega
                have y9 : (0 : Int) ≤ (q : Int) + 1 := by omega
                have y10 : (q : Int) ≤ (c4 : Int) := by omega
                have HEJ : Hid (∀ W' : World, (∀ p, W'.cell? p = w3.cell? p) → EnsAt W' w3.heap.size (some ⟨g', og', none⟩) q (want.take q)) := fun W' h => ((HE3.out.take q (by omega)).keep fun p _ => h p).more HWZ.out
                have HED : Hid (∀ W' : World, (∀ p : Addr, p.block < w3.heap.size → W'.cell? p = w3.cell? p) → EnsAt W' w3.heap.size (if c4 = q + 1 then some ⟨g', og', none⟩ else some ⟨g', og' + (q + 1) * 2, none⟩) (nw - (q + 1)) (want.drop (q + 1))) := fun W' h => by
                  split
                  · have e1 : want.drop (q + 1) = [] := List.drop_eq_nil_of_le (by rw [HNW.out]; omega)
                    rw [e1, show nw - (q + 1) = 0 by omega]
                    exact EnsAt.nil _ _ _
                  · exact ((HE3.out.drop (q + 1)).keep (w' := W') (fun p hp => h p (Nat.lt_of_lt_of_le hp HWZ.out))).more HWZ.out
                go_wp2_with fail
                go_region_law (first
                  | (refine step_join (by rfl) (.const (.slice none 0 0)) (.tmp 94) (by rfl) w3.heap.size _ (.slice none 0 0) [] (by simp [Act.eval]) w3.heap.size (some ⟨g', og', none⟩) q c4 (want.take q) (by simp [Act.eval, Act.put]) (World.ownsRow_nil _ _ _ _) (HEJ.out _ (fun _ => rfl)) (by simp; omega) (Nat.le_refl _) ?_
                     intro v4' w4 ho4 b4)
                  | (refine step_join (by rfl) (.tmp 95) (.tmp 99) (by rfl) w3.heap.size _ v4' _ (by simp [Act.eval]) w3.heap.size (if c4 = q + 1 then some ⟨g', og', none⟩ else some ⟨g', og' + (q + 1) * 2, none⟩) (nw - (q + 1)) (c4 - (q + 1)) (want.drop (q + 1)) (by simp [Act.eval]) ho4 (HED.out _ (fun p hp => b4.cell hp)) (by simp; omega) b4.size ?_
                     intro v5 w5 ho5 b5))
                rw [List.nil_append] at ho5
                obtain ⟨A5, c5, rfl, hc5⟩ := own_slice ho5
                have hcut : want.take q ++ want.drop (q + 1) = R.flatten := by rw [HRF.out]; rfl
                rw [hcut] at ho5 hc5
                have HFIN : Hid (PlayR w w5 (.slice A9 R.length c9) (.slice A5 R.flatten.length c5)) := by
                  have b35 : Below w3.heap.size w3 w5 := (undrew b4).trans (b5.mono (Nat.le_refl _))
                  have hP5 := HP9.out.to b35
                  exact ⟨R, A9, c9, A5, c5, rfl, rfl, hc5, HRR.out, hP5, EnsAt.of_own ho5 rfl hP5.fit, B3.out.trans (b35.mono B3.out.size)⟩
                rw [hcut]
                generalize R.flatten.length = fl9 at *
                clear ho4 ho5 b4 b5 hc5 hcut
                go_wp2
                go_roundw
                case rel => exact ⟨k + 1, by omega, by go_num, HFIN.out⟩
                case measure => simp [intOf]; omega
              · have hz1b : decide (z < 1) = false := by simpa using hz1
                have hne := addP_no (p := p) (s := s) (n := z) (fun h => by rw [HHAS.out] at h; exact absurd h.2.2.1 (by decide))
                have KA := Lib.hid (add_any A3 np c3 W.heap.size p s z W HPW.out (Nat.le_refl _) (by omega) HPF.out)
                have KR := Lib.hid (fun W => rright_any s W (by omega))
                generalize addP p s z = RR at *
                obtain ⟨R, ze⟩ := RR
                simp only at hne
                have e1 := beq_eq_false_iff_ne.2 hne
                go_wp2_with fail
                refine KA.out.mono ?_
                rintro e w3 ⟨A9, c9, rfl, -, -, b9⟩
                have m1' := bcell b9 m1 HPX.out
                have m2' := bcell b9 m2 HPX.out
                have B4 := Lib.hid b9
                clear b9
                go_wp2_with fail
                refine (KR.out _).mono ?_
                rintro e w4 ⟨rfl, rfl⟩
                by_cases q3 : z ≤ 65535
                all_goals
                  have q3b : decide (z ≤ 65535) = decide (z ≤ 65535) := rfl
                  cases hrb : rightB s
                  all_goals
                    have HFIN : Hid (PlayR w w4 (.slice A3 np c3) (.slice (some ⟨g, og, none⟩) nw c4)) := by
                      refine ⟨p, A3, c3, (some ⟨g, og, none⟩), c4, by rw [HNP.out], by rw [HWP.out, HNW.out], by rw [HWP.out, HNW.out]; exact hc4, HR.out, by rw [HNP.out]; exact HPW.out.to B4.out, by rw [HWP.out, HNW.out]; exact HEW.out.to B4.out, HBW.out.trans (B4.out.mono HBW.out.size)⟩
                    go_wp2
                    go_roundw
                    case rel => exact ⟨k + 1, by omega, by go_num, HFIN.out⟩
                    case measure => simp [intOf]; omega
            | false =>
              have HKQ : Hid (kL want s = q) := HQK.out
              have HNH : Hid (hasL p.flatten s = false) := by
                show _ = _
                rw [HWP.out, ← atL_hasL HAS'.out, atL, HQK.out, HWX.out, HEQ.out, heq, Bool.and_false]
              go_wp2
              refine wp_region_quiet_lit (by kernel_rfl) (by kernel_rfl) ?_
              repeat (go_big_quiet_step (fail))
              refine wpQuiet_nil ?_
              intro _ hw'
              obtain ⟨nq1, hw''⟩ := hw'
              subst hw''
              go_wp2_with fail
              refine wp_region_quiet_lit (by kernel_rfl) (by kernel_rfl) ?_
              repeat (go_big_quiet_step (fail))
              refine wpQuiet_nil ?_
              intro _ hw'
              obtain ⟨nq2, hw''⟩ := hw'
              subst hw''
              have hdw : Drew W1 ((wr.drewN nq1).drewN nq2) := (HD.out.trans ⟨nq1, rfl⟩).trans ⟨nq2, rfl⟩
              have M1 : Hid (((wr.drewN nq1).drewN nq2).cell? ⟨px, 0, none⟩ = some (.string s)) := m1
              have M2 : Hid (((wr.drewN nq1).drewN nq2).cell? ⟨px, 1, none⟩ = some (.int .i64 z)) := m2
              clear m1 m2 n1 n2 HD
              generalize (wr.drewN nq1).drewN nq2 = W at *
              have hsW : W.heap.size = W1.heap.size := by obtain ⟨r, rfl⟩ := hdw; rfl
              have HPX : Hid (px < W.heap.size) := by show _ < _; rw [hsW]; exact HQ1.out
              have HPW : Hid (PgsAt W W.heap.size A3 np p) := by show PgsAt _ _ _ _ _; rw [hsW]; exact HP1.out.keep (fun a _ => hdw.cells a)
              have HEW : Hid (EnsAt W W.heap.size (some ⟨g, og, none⟩) nw want) := by show EnsAt _ _ _ _ _; rw [hsW]; exact HW1.out.keep (fun a _ => hdw.cells a)
              have HBW : Hid (Below w.heap.size w W) := Below.drews HB1.out hdw
              have m1 := M1.out
              have m2 := M2.out
              clear hdw hsW HP1 HW1 HB1 HQ1
              have HPF : Hid (p.flatten.length ≤ 100000) := by show _ ≤ _; rw [HWP.out, HNW.out]; omega
              by_cases hz1 : z < 1
              · have hz1b : decide (z < 1) = true := by simpa using hz1
                have KD := Lib.hid (drop_any A3 np c3 W.heap.size p s W HPW.out (Nat.le_refl _) (by omega) HPF.out)
                rw [dropP_2 HR.out HNH.out] at KD
                go_wp2_with fail
                refine KD.out.mono ?_
                rintro e w4 ⟨A9, c9, rfl, -, -, b9⟩
                have B4 := Lib.hid b9
                clear b9
                have HFIN : Hid (PlayR w w4 (.slice A3 np c3) (.slice (some ⟨g, og, none⟩) nw c4)) := by
                  refine ⟨p, A3, c3, (some ⟨g, og, none⟩), c4, by rw [HNP.out], by rw [HWP.out, HNW.out], by rw [HWP.out, HNW.out]; exact hc4, HR.out, by rw [HNP.out]; exact HPW.out.to B4.out, by rw [HWP.out, HNW.out]; exact HEW.out.to B4.out, HBW.out.trans (B4.out.mono HBW.out.size)⟩
                go_wp2
                go_roundw
                case rel => exact ⟨k + 1, by omega, by go_num, HFIN.out⟩
                case measure => simp [intOf]; omega
              · have hz1b : decide (z < 1) = false := by simpa using hz1
                have KA := Lib.hid (add_any A3 np c3 W.heap.size p s z W HPW.out (Nat.le_refl _) (by omega) HPF.out)
                have KR := Lib.hid (fun W => rright_any s W (by omega))
                by_cases hgo : rightB s = true ∧ z ≤ 65535 ∧ nw < 160
                · obtain ⟨h1, h2, h3⟩ := hgo
                  have hok := addP_ok (p := p) (s := s) (n := z) HR.out (nodeB_iff.2 ⟨by omega, h2⟩) h1 HNH.out (by rw [HWP.out, HNW.out]; omega)
                  rw [HWP.out, HKQ.out] at hok
                  rw [h1] at KR
                  generalize addP p s z = RR at *
                  obtain ⟨R, ze⟩ := RR
                  simp only at hok
                  obtain ⟨rfl, hRf, hRr⟩ := hok
                  have HRF := Lib.hid hRf
                  have HRR := Lib.hid hRr
                  have h2b : decide (z ≤ 65535) = true := by simpa using h2
                  have h3b : decide ((nw : Int) < 160) = true := by simp; omega
                  clear hRf hRr h1
                  go_wp2_with fail
                  refine KA.out.mono ?_
                  rintro e w3 ⟨A9, c9, rfl, hc9, hP9, b9⟩
                  simp only at hP9 ⊢
                  have m1' := bcell b9 m1 HPX.out
                  have m2' := bcell b9 m2 HPX.out
                  have HPX3 : Hid (px < w3.heap.size) := Nat.lt_of_lt_of_le HPX.out b9.size
                  have HE3 := Lib.hid (HEW.out.below b9 (Nat.le_refl _))
                  have HP9 := Lib.hid hP9
                  have B3 := Lib.hid (HBW.out.trans (b9.mono HBW.out.size))
                  have HWZ : Hid (W.heap.size ≤ w3.heap.size) := b9.size
                  clear hP9 b9
                  go_wp2_with fail
                  refine (KR.out _).mono ?_
                  rintro e w4 ⟨rfl, hw4⟩
                  obtain rfl : w3 = w4 := hw4.symm
                  have y4 : (0 : Int) ≤ (q : Int) := by omega
                  have y10 : (q : Int) ≤ (c4 : Int) := by omega
                  have y11 : (q : Int) ≤ (nw : Int) := by omega
                  have HEJ : Hid (∀ W' : World, Below w3.heap.size w3 W' → EnsAt W' w3.heap.size (some ⟨g, og, none⟩) q (want.take q)) := fun W' h => ((HE3.out.take q (by omega)).below h HWZ.out).more HWZ.out
                  have HEX : Hid (∀ W' : World, Below (w3.alloc (.cells #[.string s, .int .i64 z] 47)).drew.heap.size (w3.alloc (.cells #[.string s, .int .i64 z] 47)).drew W' → EnsAt W' (w3.alloc (.cells #[.string s, .int .i64 z] 47)).drew.heap.size (some ⟨w3.heap.size, 0, none⟩) 1 [⟨s, z⟩]) := fun W' h =>
                    (ens_cells (w := (w3.alloc (.cells #[.string s, .int .i64 z] 47)).drew) (l := [⟨s, z⟩]) (fun j u hj => by rw [Nat.zero_add]; exact cell_new w3 _ 47 j (by rw [List.getElem?_toArray]; exact hj)) (by simp) (fun e he => by rw [List.mem_singleton] at he; rw [he]; exact HFIT.out)).below h (Nat.le_refl _)
                  have HEXA : Hid (∀ W' : World, EnsAt (W'.alloc (.cells #[.string s, .int .i64 z] 47)) (W'.alloc (.cells #[.string s, .int .i64 z] 47)).heap.size (some ⟨W'.heap.size, 0, none⟩) 1 [⟨s, z⟩]) := fun W' =>
                    ens_cells (l := [⟨s, z⟩]) (fun j u hj => by rw [Nat.zero_add]; exact cell_new W' _ 47 j (by rw [List.getElem?_toArray]; exact hj)) (by simp) (fun e he => by rw [List.mem_singleton] at he; rw [he]; exact HFIT.out)
                  have B0 : Hid (Below w3.heap.size w3 (w3.alloc (.cells #[.string s, .int .i64 z] 47)).drew) := (((Below.refl _ _).alloc (Nat.le_refl _) _).trans ⟨rfl, rfl, rfl, Nat.le_refl _, fun _ _ => rfl⟩)
                  have BA : Hid (Below w3.heap.size w3 w3.drew) := ⟨rfl, rfl, rfl, Nat.le_refl _, fun _ _ => rfl⟩
                  have HXZ : Hid ((w3.alloc (.cells #[.string s, .int .i64 z] 47)).drew.heap.size = w3.heap.size + 1) := by show _ = _; simp
                  have d1 : w3.drew.cell? ⟨px, 0, none⟩ = some (.string s) := m1'
                  have d2 : w3.drew.cell? ⟨px, 1, none⟩ = some (.int .i64 z) := m2'
                  have HED : Hid (∀ W' : World, Below w3.heap.size w3 W' → EnsAt W' w3.heap.size (some ⟨g, og + q * 2, none⟩) (nw - q) (want.drop q)) := fun W' h => by
                        exact ((HE3.out.drop q).below h HWZ.out).more HWZ.out
                  have hcq : ¬ c4 = q := by omega
                  go_wp2_with fail
                  go_region_law (first
                    | (refine step_join (by rfl) (.const (.slice none 0 0)) (.tmp 136) (by rfl) w3.heap.size _ (.slice none 0 0) [] (by simp [Act.eval]) w3.heap.size (some ⟨g, og, none⟩) q c4 (want.take q) (by simp [Act.eval, Act.put]) (World.ownsRow_nil _ _ _ _) (HEJ.out w3.drew BA.out) (by simp; omega) (Nat.le_refl _) ?_
                       intro v4' w4 ho4 b4
                       have f1 := bcell b4 d1 HPX3.out
                       have f2 := bcell b4 d2 HPX3.out)
                    | (refine step_join (by rfl) (.const (.slice none 0 0)) (.tmp 136) (by rfl) (w3.alloc (.cells #[.string s, .int .i64 z] 47)).drew.heap.size _ (.slice none 0 0) [] (by simp [Act.eval]) w3.heap.size (some ⟨g, og, none⟩) q c4 (want.take q) (by simp [Act.eval]) (World.ownsRow_nil _ _ _ _) (HEJ.out (w3.alloc (.cells #[.string s, .int .i64 z] 47)).drew B0.out) (by simp; omega) (Nat.le_refl _) ?_
                       intro v4' w4 ho4 b4)
                    | (refine step_join (by rfl) (.tmp 137) (.tmp 139) (by rfl) w3.heap.size (w4.alloc (.cells #[.string s, .int .i64 z] 47)) v4' _ (by simp [Act.eval]) (w4.alloc (.cells #[.string s, .int .i64 z] 47)).heap.size (some ⟨w4.heap.size, 0, none⟩) 1 1 [⟨s, z⟩] (by simp [Act.eval]) (ho4.alloc _) (HEXA.out w4) (by simp; omega) (by have := b4.size; simp at this ⊢; omega) ?_
                       intro v5 w5 ho5 b5
                       have b45 : Below w3.heap.size w3 w5 := ((undrew b4).alloc (undrew b4).size _).trans b5
                       have hz5 : w3.heap.size ≤ w5.heap.size := b45.size)
                    | (refine step_join (by rfl) (.tmp 137) (.tmp 139) (by rfl) (w3.alloc (.cells #[.string s, .int .i64 z] 47)).drew.heap.size w4 v4' _ (by simp [Act.eval]) (w3.alloc (.cells #[.string s, .int .i64 z] 47)).drew.heap.size (some ⟨w3.heap.size, 0, none⟩) 1 1 [⟨s, z⟩] (by simp [Act.eval]) ho4 (HEX.out w4 b4) (by simp; omega) b4.size ?_
                       intro v5 w5 ho5 b5
                       have b45 : Below w3.heap.size w3 w5 := B0.out.trans ((b4.trans (b5.mono (Nat.le_refl _))).mono (by rw [HXZ.out]; exact Nat.le_succ _))
                       have hz5 : (w3.alloc (.cells #[.string s, .int .i64 z] 47)).drew.heap.size ≤ w5.heap.size := Nat.le_trans b4.size b5.size)
                    | (refine step_join (by rfl) (.tmp 140) (.tmp 143) (by rfl) _ w5 v5 _ (by simp [Act.eval]) w3.heap.size (some ⟨g, og + q * 2, none⟩) (nw - q) (c4 - q) (want.drop q) (by simp [Act.eval]) ho5 (HED.out w5 b45) (by simp; omega) hz5 ?_
                       intro v6 w6 ho6 b6
                       have b36 : Below w3.heap.size w3 w6 := b45.trans (b6.mono (by first | exact Nat.le_refl _ | (rw [HXZ.out]; exact Nat.le_succ _)))))
                  all_goals
                    rw [List.nil_append] at ho6
                    obtain ⟨A5, c5, rfl, hc5⟩ := own_slice ho6
                    have hcut : want.take q ++ [⟨s, z⟩] ++ want.drop q = R.flatten := by rw [HRF.out]; unfold putL; simp
                    rw [hcut] at ho6 hc5
                    have HFIN : Hid (PlayR w w6 (.slice A9 R.length c9) (.slice A5 R.flatten.length c5)) := by
                      have hP6 := HP9.out.to b36
                      exact ⟨R, A9, c9, A5, c5, rfl, rfl, hc5, HRR.out, hP6, EnsAt.of_own ho6 rfl hP6.fit, B3.out.trans (b36.mono B3.out.size)⟩
                    rw [hcut]
                    generalize R.flatten.length = fl9 at *
                    clear ho4 ho5 ho6 b4 b5 b6 b45 b36 hz5 hc5 hcut
                    go_wp2
                    go_roundw
                    case rel => exact ⟨k + 1, by omega, by go_num, HFIN.out⟩
                    case measure => simp [intOf]; omega
                · have hne := addP_no (p := p) (s := s) (n := z) (fun h => hgo ⟨h.2.1, (nodeB_iff.1 h.1).2, by have h4 := h.2.2.2; rw [HWP.out, HNW.out] at h4; omega⟩)
                  generalize addP p s z = RR at *
                  obtain ⟨R, ze⟩ := RR
                  simp only at hne
                  have e1 := beq_eq_false_iff_ne.2 hne
                  go_wp2_with fail
                  refine KA.out.mono ?_
                  rintro e w3 ⟨A9, c9, rfl, -, -, b9⟩
                  have m1' := bcell b9 m1 HPX.out
                  have m2' := bcell b9 m2 HPX.out
                  have B4 := Lib.hid b9
                  clear b9
                  go_wp2_with fail
                  refine (KR.out _).mono ?_
                  rintro e w4 ⟨rfl, rfl⟩
                  cases hz2 : decide (z ≤ 65535)
                  all_goals cases hn2 : decide ((nw : Int) < 160)
                  all_goals cases hrb : rightB s
                  all_goals first
                    | exact absurd (⟨hrb, by simpa using hz2, by simp at hn2; omega⟩ : rightB s = true ∧ z ≤ 65535 ∧ nw < 160) hgo
                    | skip
                  all_goals clear hgo
                  all_goals
                    have HFIN : Hid (PlayR w w4 (.slice A3 np c3) (.slice (some ⟨g, og, none⟩) nw c4)) := by
                      refine ⟨p, A3, c3, (some ⟨g, og, none⟩), c4, by rw [HNP.out], by rw [HWP.out, HNW.out], by rw [HWP.out, HNW.out]; exact hc4, HR.out, by rw [HNP.out]; exact HPW.out.to B4.out, by rw [HWP.out, HNW.out]; exact HEW.out.to B4.out, HBW.out.trans (B4.out.mono HBW.out.size)⟩
                    go_wp2
                    go_roundw
                    case rel => exact ⟨k + 1, by omega, by go_num, HFIN.out⟩
                    case measure => simp [intOf]; omega
        · have hqn : q = nw := by omega
          have HKQ : Hid (kL want s = q) := by show _ = _; have h1 := hqk.out; have h2 := HKL.out; omega
          have HNH : Hid (hasL p.flatten s = false) := by
            show _ = _
            rw [HWP.out, ← atL_hasL HAS'.out, atL, HKQ.out]
            simp [HNW.out, hqn]
          have y3 : decide (q < nw) = false := by simp; omega
          have y2 : ¬ (q : Int) < (nw : Int) := by omega
          clear hqn
          go_wp2
          refine wp_region_quiet_lit (by kernel_rfl) (by kernel_rfl) ?_
          repeat (go_big_quiet_step (fail))
          refine wpQuiet_nil ?_
          intro _ hw'
          obtain ⟨nq1, hw''⟩ := hw'
          subst hw''
          go_wp2_with fail
          refine wp_region_quiet_lit (by kernel_rfl) (by kernel_rfl) ?_
          repeat (go_big_quiet_step (fail))
          refine wpQuiet_nil ?_
          intro _ hw'
          obtain ⟨nq2, hw''⟩ := hw'
          subst hw''
          have hdw : Drew W1 ((wr.drewN nq1).drewN nq2) := (HD.out.trans ⟨nq1, rfl⟩).trans ⟨nq2, rfl⟩
          have M1 : Hid (((wr.drewN nq1).drewN nq2).cell? ⟨px, 0, none⟩ = some (.string s)) := m1
          have M2 : Hid (((wr.drewN nq1).drewN nq2).cell? ⟨px, 1, none⟩ = some (.int .i64 z)) := m2
          clear m1 m2 n1 n2 HD
          generalize (wr.drewN nq1).drewN nq2 = W at *
          have hsW : W.heap.size = W1.heap.size := by obtain ⟨r, rfl⟩ := hdw; rfl
          have HPX : Hid (px < W.heap.size) := by show _ < _; rw [hsW]; exact HQ1.out
          have HPW : Hid (PgsAt W W.heap.size A3 np p) := by show PgsAt _ _ _ _ _; rw [hsW]; exact HP1.out.keep (fun a _ => hdw.cells a)
          have HEW : Hid (EnsAt W W.heap.size A4 nw want) := by show EnsAt _ _ _ _ _; rw [hsW]; exact HW1.out.keep (fun a _ => hdw.cells a)
          have HBW : Hid (Below w.heap.size w W) := Below.drews HB1.out hdw
          have m1 := M1.out
          have m2 := M2.out
          clear hdw hsW HP1 HW1 HB1 HQ1
          have HPF : Hid (p.flatten.length ≤ 100000) := by show _ ≤ _; rw [HWP.out, HNW.out]; omega
          by_cases hz1 : z < 1
          · have hz1b : decide (z < 1) = true := by simpa using hz1
            have KD := Lib.hid (drop_any A3 np c3 W.heap.size p s W HPW.out (Nat.le_refl _) (by omega) HPF.out)
            rw [dropP_2 HR.out HNH.out] at KD
            go_wp2_with fail
            refine KD.out.mono ?_
            rintro e w4 ⟨A9, c9, rfl, -, -, b9⟩
            have B4 := Lib.hid b9
            clear b9
            have HFIN : Hid (PlayR w w4 (.slice A3 np c3) (.slice A4 nw c4)) := by
              refine ⟨p, A3, c3, A4, c4, by rw [HNP.out], by rw [HWP.out, HNW.out], by rw [HWP.out, HNW.out]; exact hc4, HR.out, by rw [HNP.out]; exact HPW.out.to B4.out, by rw [HWP.out, HNW.out]; exact HEW.out.to B4.out, HBW.out.trans (B4.out.mono HBW.out.size)⟩
            go_wp2
            go_roundw
            case rel => exact ⟨k + 1, by omega, by go_num, HFIN.out⟩
            case measure => simp [intOf]; omega
          · have hz1b : decide (z < 1) = false := by simpa using hz1
            have KA := Lib.hid (add_any A3 np c3 W.heap.size p s z W HPW.out (Nat.le_refl _) (by omega) HPF.out)
            have KR := Lib.hid (fun W => rright_any s W (by omega))
            by_cases hgo : rightB s = true ∧ z ≤ 65535 ∧ nw < 160
            · obtain ⟨h1, h2, h3⟩ := hgo
              have hok := addP_ok (p := p) (s := s) (n := z) HR.out (nodeB_iff.2 ⟨by omega, h2⟩) h1 HNH.out (by rw [HWP.out, HNW.out]; omega)
              rw [HWP.out, HKQ.out] at hok
              rw [h1] at KR
              generalize addP p s z = RR at *
              obtain ⟨R, ze⟩ := RR
              simp only at hok
              obtain ⟨rfl, hRf, hRr⟩ := hok
              have HRF := Lib.hid hRf
              have HRR := Lib.hid hRr
              have h2b : decide (z ≤ 65535) = true := by simpa using h2
              have h3b : decide ((nw : Int) < 160) = true := by simp; omega
              clear hRf hRr h1
              go_wp2_with fail
              refine KA.out.mono ?_
              rintro e w3 ⟨A9, c9, rfl, hc9, hP9, b9⟩
              simp only at hP9 ⊢
              have m1' := bcell b9 m1 HPX.out
              have m2' := bcell b9 m2 HPX.out
              have HPX3 : Hid (px < w3.heap.size) := Nat.lt_of_lt_of_le HPX.out b9.size
              have HE3 := Lib.hid (HEW.out.below b9 (Nat.le_refl _))
              have HP9 := Lib.hid hP9
              have B3 := Lib.hid (HBW.out.trans (b9.mono HBW.out.size))
              have HWZ : Hid (W.heap.size ≤ w3.heap.size) := b9.size
              clear hP9 b9
              go_wp2_with fail
              refine (KR.out _).mono ?_
              rintro e w4 ⟨rfl, hw4⟩
              obtain rfl : w3 = w4 := hw4.symm
              have y4 : (0 : Int) ≤ (q : Int) := by omega
              have y10 : (q : Int) ≤ (c4 : Int) := by omega
              have y11 : (q : Int) ≤ (nw : Int) := by omega
              have HEJ : Hid (∀ W' : World, Below w3.heap.size w3 W' → EnsAt W' w3.heap.size A4 q (want.take q)) := fun W' h => ((HE3.out.take q (by omega)).below h HWZ.out).more HWZ.out
              have HEX : Hid (∀ W' : World, Below (w3.alloc (.cells #[.string s, .int .i64 z] 47)).drew.heap.size (w3.alloc (.cells #[.string s, .int .i64 z] 47)).drew W' → EnsAt W' (w3.alloc (.cells #[.string s, .int .i64 z] 47)).drew.heap.size (some ⟨w3.heap.size, 0, none⟩) 1 [⟨s, z⟩]) := fun W' h =>
                (ens_cells (w := (w3.alloc (.cells #[.string s, .int .i64 z] 47)).drew) (l := [⟨s, z⟩]) (fun j u hj => by rw [Nat.zero_add]; exact cell_new w3 _ 47 j (by rw [List.getElem?_toArray]; exact hj)) (by simp) (fun e he => by rw [List.mem_singleton] at he; rw [he]; exact HFIT.out)).below h (Nat.le_refl _)
              have HEXA : Hid (∀ W' : World, EnsAt (W'.alloc (.cells #[.string s, .int .i64 z] 47)) (W'.alloc (.cells #[.string s, .int .i64 z] 47)).heap.size (some ⟨W'.heap.size, 0, none⟩) 1 [⟨s, z⟩]) := fun W' =>
                ens_cells (l := [⟨s, z⟩]) (fun j u hj => by rw [Nat.zero_add]; exact cell_new W' _ 47 j (by rw [List.getElem?_toArray]; exact hj)) (by simp) (fun e he => by rw [List.mem_singleton] at he; rw [he]; exact HFIT.out)
              have B0 : Hid (Below w3.heap.size w3 (w3.alloc (.cells #[.string s, .int .i64 z] 47)).drew) := (((Below.refl _ _).alloc (Nat.le_refl _) _).trans ⟨rfl, rfl, rfl, Nat.le_refl _, fun _ _ => rfl⟩)
              have BA : Hid (Below w3.heap.size w3 w3.drew) := ⟨rfl, rfl, rfl, Nat.le_refl _, fun _ _ => rfl⟩
              have HXZ : Hid ((w3.alloc (.cells #[.string s, .int .i64 z] 47)).drew.heap.size = w3.heap.size + 1) := by show _ = _; simp
              have d1 : w3.drew.cell? ⟨px, 0, none⟩ = some (.string s) := m1'
              have d2 : w3.drew.cell? ⟨px, 1, none⟩ = some (.int .i64 z) := m2'
              have HED : Hid (∀ W' : World, Below w3.heap.size w3 W' → EnsAt W' w3.heap.size (if c4 = q then A4 else A4.map (fun x => x.add (q * 2))) (nw - q) (want.drop q)) := fun W' h => by
                rw [show want.drop q = [] from List.drop_eq_nil_of_le (by rw [HNW.out]; omega), show nw - q = 0 by omega]
                exact EnsAt.nil _ _ _
              go_wp2_with fail
              go_region_law (first
                | (refine step_join (by rfl) (.const (.slice none 0 0)) (.tmp 136) (by rfl) w3.heap.size _ (.slice none 0 0) [] (by simp [Act.eval]) w3.heap.size A4 q c4 (want.take q) (by simp [Act.eval, Act.put]) (World.ownsRow_nil _ _ _ _) (HEJ.out w3.drew BA.out) (by simp; omega) (Nat.le_refl _) ?_
                   intro v4' w4 ho4 b4
                   have f1 := bcell b4 d1 HPX3.out
                   have f2 := bcell b4 d2 HPX3.out)
                | (refine step_join (by rfl) (.const (.slice none 0 0)) (.tmp 136) (by rfl) (w3.alloc (.cells #[.string s, .int .i64 z] 47)).drew.heap.size _ (.slice none 0 0) [] (by simp [Act.eval]) w3.heap.size A4 q c4 (want.take q) (by simp [Act.eval]) (World.ownsRow_nil _ _ _ _) (HEJ.out (w3.alloc (.cells #[.string s, .int .i64 z] 47)).drew B0.out) (by simp; omega) (Nat.le_refl _) ?_
                   intro v4' w4 ho4 b4)
                | (refine step_join (by rfl) (.tmp 137) (.tmp 139) (by rfl) w3.heap.size (w4.alloc (.cells #[.string s, .int .i64 z] 47)) v4' _ (by simp [Act.eval]) (w4.alloc (.cells #[.string s, .int .i64 z] 47)).heap.size (some ⟨w4.heap.size, 0, none⟩) 1 1 [⟨s, z⟩] (by simp [Act.eval]) (ho4.alloc _) (HEXA.out w4) (by simp; omega) (by have := b4.size; simp at this ⊢; omega) ?_
                   intro v5 w5 ho5 b5
                   have b45 : Below w3.heap.size w3 w5 := ((undrew b4).alloc (undrew b4).size _).trans b5
                   have hz5 : w3.heap.size ≤ w5.heap.size := b45.size)
                | (refine step_join (by rfl) (.tmp 137) (.tmp 139) (by rfl) (w3.alloc (.cells #[.string s, .int .i64 z] 47)).drew.heap.size w4 v4' _ (by simp [Act.eval]) (w3.alloc (.cells #[.string s, .int .i64 z] 47)).drew.heap.size (some ⟨w3.heap.size, 0, none⟩) 1 1 [⟨s, z⟩] (by simp [Act.eval]) ho4 (HEX.out w4 b4) (by simp; omega) b4.size ?_
                   intro v5 w5 ho5 b5
                   have b45 : Below w3.heap.size w3 w5 := B0.out.trans ((b4.trans (b5.mono (Nat.le_refl _))).mono (by rw [HXZ.out]; exact Nat.le_succ _))
                   have hz5 : (w3.alloc (.cells #[.string s, .int .i64 z] 47)).drew.heap.size ≤ w5.heap.size := Nat.le_trans b4.size b5.size)
                | (refine step_join (by rfl) (.tmp 140) (.tmp 143) (by rfl) _ w5 v5 _ (by simp [Act.eval]) w3.heap.size (if c4 = q then A4 else A4.map (fun x => x.add (q * 2))) (nw - q) (c4 - q) (want.drop q) (by simp [Act.eval]) ho5 (HED.out w5 b45) (by simp; omega) hz5 ?_
                   intro v6 w6 ho6 b6
                   have b36 : Below w3.heap.size w3 w6 := b45.trans (b6.mono (by first | exact Nat.le_refl _ | (rw [HXZ.out]; exact Nat.le_succ _)))))
              all_goals
                rw [List.nil_append] at ho6
                obtain ⟨A5, c5, rfl, hc5⟩ := own_slice ho6
                have hcut : want.take q ++ [⟨s, z⟩] ++ want.drop q = R.flatten := by rw [HRF.out]; unfold putL; simp
                rw [hcut] at ho6 hc5
                have HFIN : Hid (PlayR w w6 (.slice A9 R.length c9) (.slice A5 R.flatten.length c5)) := by
                  have hP6 := HP9.out.to b36
                  exact ⟨R, A9, c9, A5, c5, rfl, rfl, hc5, HRR.out, hP6, EnsAt.of_own ho6 rfl hP6.fit, B3.out.trans (b36.mono B3.out.size)⟩
                rw [hcut]
                generalize R.flatten.length = fl9 at *
                clear ho4 ho5 ho6 b4 b5 b6 b45 b36 hz5 hc5 hcut
                go_wp2
                go_roundw
                case rel => exact ⟨k + 1, by omega, by go_num, HFIN.out⟩
                case measure => simp [intOf]; omega
            · have hne := addP_no (p := p) (s := s) (n := z) (fun h => hgo ⟨h.2.1, (nodeB_iff.1 h.1).2, by have h4 := h.2.2.2; rw [HWP.out, HNW.out] at h4; omega⟩)
              generalize addP p s z = RR at *
              obtain ⟨R, ze⟩ := RR
              simp only at hne
              have e1 := beq_eq_false_iff_ne.2 hne
              go_wp2_with fail
              refine KA.out.mono ?_
              rintro e w3 ⟨A9, c9, rfl, -, -, b9⟩
              have m1' := bcell b9 m1 HPX.out
              have m2' := bcell b9 m2 HPX.out
              have B4 := Lib.hid b9
              clear b9
              go_wp2_with fail
              refine (KR.out _).mono ?_
              rintro e w4 ⟨rfl, rfl⟩
              cases hz2 : decide (z ≤ 65535)
              all_goals cases hn2 : decide ((nw : Int) < 160)
              all_goals cases hrb : rightB s
              all_goals first
                | exact absurd (⟨hrb, by simpa using hz2, by simp at hn2; omega⟩ : rightB s = true ∧ z ≤ 65535 ∧ nw < 160) hgo
                | skip
              all_goals clear hgo
              all_goals
                have HFIN : Hid (PlayR w w4 (.slice A3 np c3) (.slice A4 nw c4)) := by
                  refine ⟨p, A3, c3, A4, c4, by rw [HNP.out], by rw [HWP.out, HNW.out], by rw [HWP.out, HNW.out]; exact hc4, HR.out, by rw [HNP.out]; exact HPW.out.to B4.out, by rw [HWP.out, HNW.out]; exact HEW.out.to B4.out, HBW.out.trans (B4.out.mono HBW.out.size)⟩
                go_wp2
                go_roundw
                case rel => exact ⟨k + 1, by omega, by go_num, HFIN.out⟩
                case measure => simp [intOf]; omega
    · obtain ⟨W1, hW1⟩ : ∃ W1, W1 = wr := ⟨_, rfl⟩
      subst hW1
      have HB1 := Lib.hid hb
      have HP1 := Lib.hid hP
      have HW1 := Lib.hid hW
      have HLN := Lib.hid (fun j (hj : j < p.length) => right_len' hr hj)
      have hpm : ∀ l ∈ p, l.length ≤ 100000 := fun l hl => Nat.le_trans ((rightP_iff.1 hr).1 l hl).2 (by omega)
      have K13 := Lib.hid (fun W (h : Below W1.heap.size W1 W) => iright_any A3 p.length c3 W1.heap.size p W (hP.below h (Nat.le_refl _)) h.size (by omega) hpm)
      have K16 := Lib.hid (fun W (h : Below W1.heap.size W1 W) => all_any A3 p.length c3 W1.heap.size p W (hP.below h (Nat.le_refl _)) h.size (by omega) (by omega))
      rw [hr] at K13
      have HFT := Lib.hid hP.fit
      have x2 : ¬ (k : Int) < (m : Int) := by omega
      clear hP hW hb hr hpm
      generalize hnp : p.length = np at *
      have HNP := Lib.hid hnp
      clear hnp
      generalize hnw : p.flatten.length = nw at *
      have HNW := Lib.hid hnw
      clear hnw
      go_wp2
      go_loopw [15] (fun i wq => ∃ j : Nat, j ≤ np ∧ i = .int .i64 (j : Int) ∧ Drew W1 wq) (fun i _ => np - (intOf i).toNat)
      case atStart => exact ⟨0, by omega, rfl, Drew.refl _⟩
      case round =>
        obtain ⟨j, hj, rfl, hd⟩ := hrel
        by_cases hjn : j < np
        · obtain ⟨b, o, A', c', rfl, hbB, e1, hle, -⟩ := HP1.out.at_ hjn
          have k1 := (hd.cells _).trans e1
          obtain ⟨l1, l2⟩ := HLN.out j hjn
          have HD := Lib.hid hd
          clear e1 hd
          generalize (p.getD j []).length = L at *
          have y1 : (j : Int) < (np : Int) := by omega
          have y2 : decide ((L : Int) < 1) = false := by simp; omega
          have y3 : decide (9 < (L : Int)) = false := by simp; omega
          have y4 : ¬ (L : Int) < 1 := by omega
          have y5 : ¬ 9 < (L : Int) := by omega
          go_wp2
          go_roundw
          case rel => exact ⟨j + 1, by omega, by go_num, HD.out⟩
          case measure => simp [intOf]; omega
        · have hdb : Below W1.heap.size W1 wr := Below.drews (Below.refl _ _) hd
          have y1 : ¬ (j : Int) < (np : Int) := by omega
          have HDB := Lib.hid hdb
          clear hd hdb
          go_wp2_with fail
          refine (K13.out _ HDB.out).mono ?_
          rintro e w3 ⟨rfl, b3⟩
          have B3 := Lib.hid (HDB.out.trans (b3.mono HDB.out.size))
          clear b3
          go_wp2_with fail
          refine (K16.out w3 B3.out).mono ?_
          intro e w4 hr4
          obtain ⟨A5, c5, rfl, hc5, hE5, b5⟩ := hr4.ens HFT.out
          have B4 := Lib.hid (B3.out.trans (b5.mono B3.out.size))
          have HS := Lib.hid (same_any A5 A4 p.flatten.length c5 c4 w4.heap.size W1.heap.size p.flatten w4 hE5 (by rw [HNW.out]; exact HW1.out.below B4.out (Nat.le_refl _)) (by rw [HNW.out]; omega))
          rw [HNW.out] at HS
          rw [HNW.out]
          clear hr4 hE5 b5
          go_wp2_with fail
          refine HS.out.mono ?_
          rintro e w5 ⟨rfl, hd5⟩
          have HD5 := Lib.hid hd5
          clear hd5
          go_wp2
          go_ret
          exact ⟨rfl, HB1.out.trans ((Below.drews B4.out HD5.out).mono HB1.out.size)⟩

set_option maxRecDepth 100000 in
theorem lifted (os : Os) (started : os.Started) (H : Type) (enc : TypeId × Value → H) :
    ReturnsInHanded {} Try.checked os 6 .any (Rows.indexPlaySpec.pre6 enc Try.prog Try.f6 Rows.indexPlayRow.domain false) (Rows.indexPlaySpec.post enc Try.prog Try.f6 false true false false) := by
  refine returnsInHanded_of_change_sized (C := Try.checked) own started (by kernel_rfl) Try.func6
    (ChangeSpec.witness6 (enc := enc) (C := Try.checked) false ⟨#[], #[.slice none 0 0], []⟩ 8 (by kernel_rfl) (by kernel_rfl) (by kernel_rfl) (by kernel_rfl)) ?_
  intro W base args ds gs before hval0 hW hcnd hsz0 _
  have hval : ∀ (j : Nat) t v, Try.f6.params[j]? = some t → args[j]? = some v → Value.okWide Try.prog W .any base t v := hval0
  have hsz : (DataW.weightsEach Try.prog (Try.f6.params.toList ++ Rows.indexPlaySpec.plain.varTypes Try.prog) (ds ++ gs)).all (· ≤ reachBytes) = true := hsz0
  have hW' := hW
  obtain ⟨p, q, hA0, hV, rfl, hfz, hnd⟩ := hW
  have hA : DataW.TrodAll enc Try.prog W 0 (fun _ => true) true Try.f6.params.toList args.toList ds p := hA0
  rw [Try.params6] at hA hval hsz
  obtain ⟨v0, vs0, d0, ds0, p0, q0, hargs, rfl, rfl, h0, r0⟩ := trodAll_cons hA
  obtain ⟨rfl, rfl, rfl⟩ := trodAll_nil r0
  obtain rfl : args = #[v0] := by cases args; simp_all
  obtain ⟨rfl, rfl⟩ := trodVars_none hV
  have lt0 : ∀ x ∈ p0, x.block < W.heap.size := by obtain ⟨m, hm⟩ := h0; exact DataW.trod_lt m _ _ _ hm
  obtain ⟨a0, len0, cap0, rfl⟩ := okWide_slice Try.underlying27 (hval 0 27 v0 rfl rfl)
  obtain ⟨l0, w0⟩ := ens_open h0 (fun n hn => by simpa using List.all_eq_true.1 hsz _ (DataW.weights_mem_each (j := 0) rfl rfl n hn))
  clear hA0 hval0
  refine (walk a0 len0 cap0 l0 W w0).mono fun e W' ⟨he, bel⟩ => ?_
  subst he
  exact ⟨_, rfl, _, _, _, [], _, [], hW', trodAll_mk1 (shut_bool Try.underlying4 _), (trodAll_cons_mk (Below.trod laidOut (by kernel_rfl) (of_decide_eq_true (by kernel_rfl)) h0 bel lt0) trodAll_mk0), rfl, bel.frame _, fun h => by cases h⟩

theorem over : Rows.indexPlayRow.holds Try.pinned (OpenSpec.ofChange Rows.indexPlaySpec) :=
  OpenClaim.holds_of_wide 6 Try.f6 rfl rfl rfl rfl rfl rfl rfl ⟨rfl, rfl, rfl, rfl, rfl⟩ rfl rfl rfl rfl rfl (by kernel_rfl) Try.func6 (by kernel_rfl)
    (of_decide_eq_true (by kernel_rfl)) (by unfold Func.isWrapper; first | (rw [if_pos (by decide +kernel)]; kernel_rfl) | (rw [if_neg (by decide +kernel)]; exact ⟨rfl, rfl⟩))
    (fun os started H enc _ => lifted os started H enc)

end Go.Proofs.Ytflijnhgonigjaa.indexPlay
namespace Go.Proofs.Ytflijnhgonigjaa
theorem indexPlay_proved : Rows.IndexPlaySaid := indexPlay.over
#print axioms indexPlay_proved
end Go.Proofs.Ytflijnhgonigjaa
