/-
  WALKS: the reference's Same of entries, Same of pages, Right, Find. Conditions: at most 100000 pages, at most 100000 entries in all.
-/
import Derived.Test.YtflijnhgonigjaaPEarly
import Derived.Test.YtflijnhgonigjaaPPos
namespace Go.Proofs.Ytflijnhgonigjaa
open Go.RowKit

set_option maxHeartbeats 1000000 in
theorem same_any (A A' : Option Addr) (n c c' B B' : Nat) (l : List En) (w : World) (hA : EnsAt w B A n l) (hA' : EnsAt w B' A' n l) (hn : n ≤ 100000) :
    Calls Try.prog 15 #[.slice A n c, .slice A' n c'] w fun e w' => e = .returned (.bool true) ∧ Drew w w' := by
  have HA := Lib.hid hA
  have HA' := Lib.hid hA'
  clear hA hA'
  go_enter Try.func15, Try.ntmps15
  go_wp2
  go_loopw [5] (fun i wr => ∃ k : Nat, k ≤ n ∧ i = .int .i64 (k : Int) ∧ Drew w wr) (fun i _ => n - (intOf i).toNat)
  case atStart => exact ⟨0, by omega, rfl, Drew.refl _⟩
  case round =>
    obtain ⟨k, hk, rfl, hd⟩ := hrel
    by_cases hlt : k < n
    · obtain ⟨b, o, rfl, _, h1, h2⟩ := HA.out.at_ hlt
      obtain ⟨b', o', rfl, _, g1, g2⟩ := HA'.out.at_ hlt
      rw [← hd.cells] at h1 h2 g1 g2
      generalize l.getD k En.z = s at *
      obtain ⟨sa, sp⟩ := s
      simp only at h1 h2 g1 g2
      have h0 : (0 : Int) ≤ (k : Int) := by omega
      have hkn : (k : Int) < (n : Int) := by omega
      go_wp2
      go_quiet (fail)
      go_wp2
      go_roundw
      case rel => exact ⟨k + 1, by omega, by go_num, hd.trans ⟨_, rfl⟩⟩
      case measure => simp [intOf]; omega
    · go_wp2
      go_ret
      exact ⟨rfl, hd⟩

set_option maxHeartbeats 2000000 in
theorem sameP_any (A A' : Option Addr) (n c c' B B' : Nat) (p : Pg) (w : World) (hA : PgsAt w B A n p) (hA' : PgsAt w B' A' n p) (hn : n ≤ 100000) (hm : ∀ l ∈ p, l.length ≤ 100000) :
    Calls Try.prog 17 #[.slice A n c, .slice A' n c'] w fun e w' => e = .returned (.bool true) ∧ Drew w w' := by
  have HM : Hid (∀ k, k < n → (p.getD k []).length ≤ 100000) := fun k hk => by
    rw [pg_getD (by rw [hA.len]; exact hk)]; exact hm _ (List.getElem_mem _)
  have HA := Lib.hid hA
  have HA' := Lib.hid hA'
  clear hA hA' hm
  go_enter Try.func17, Try.ntmps17
  go_wp2
  go_loopw [5] (fun i wr => ∃ k : Nat, k ≤ n ∧ i = .int .i64 (k : Int) ∧ Drew w wr) (fun i _ => n - (intOf i).toNat)
  case atStart => exact ⟨0, by omega, rfl, Drew.refl _⟩
  case round =>
    obtain ⟨k, hk, rfl, hd⟩ := hrel
    by_cases hlt : k < n
    · obtain ⟨b, o, A1, c1, rfl, _, h1, _, hE1⟩ := HA.out.at_ hlt
      obtain ⟨b', o', A2, c2, rfl, _, h2, _, hE2⟩ := HA'.out.at_ hlt
      have HC1 := Lib.hid h1
      have HC2 := Lib.hid h2
      rw [← hd.cells] at h1 h2
      have hml := HM.out k hlt
      have HE1 := Lib.hid hE1
      have HE2 := Lib.hid hE2
      clear hE1 hE2
      generalize (p.getD k []).length = len at *
      generalize p.getD k [] = l at *
      have h0 : (0 : Int) ≤ (k : Int) := by omega
      have hkn : (k : Int) < (n : Int) := by omega
      go_wp2
      go_quiet (fail)
      go_wp2
      go_loopw [6] (fun i wq => ∃ j : Nat, j ≤ len ∧ i = .int .i64 (j : Int) ∧ Drew w wq) (fun i _ => len - (intOf i).toNat)
      case atStart => exact ⟨0, by omega, rfl, hd.trans ⟨_, rfl⟩⟩
      case round =>
        clear hd h1 h2
        obtain ⟨j, hj, rfl, hd⟩ := hrel
        have h1 := HC1.out
        have h2 := HC2.out
        rw [← hd.cells] at h1 h2
        by_cases hjl : j < len
        · obtain ⟨b1, o1, rfl, _, f1, f2⟩ := HE1.out.at_ hjl
          obtain ⟨b2, o2, rfl, _, g1, g2⟩ := HE2.out.at_ hjl
          rw [← hd.cells] at f1 f2 g1 g2
          generalize l.getD j En.z = s at *
          obtain ⟨sa, sp⟩ := s
          simp only at f1 f2 g1 g2
          have hj0 : (0 : Int) ≤ (j : Int) := by omega
          have hjn : (j : Int) < (len : Int) := by omega
          go_wp2
          go_quiet (fail)
          go_wp2
          go_roundw
          case rel => exact ⟨j + 1, by omega, by go_num, hd.trans ⟨_, rfl⟩⟩
          case measure => simp [intOf]; omega
        · have hjn : ¬ (j : Int) < (len : Int) := by omega
          go_wp2
          go_roundw
          case rel => exact ⟨k + 1, by omega, by go_num, hd⟩
          case measure => simp [intOf]; omega
    · go_wp2
      go_ret
      exact ⟨rfl, hd⟩

theorem ascL_all {l : List En} (h : ascL (l.take l.length) = true) : ascL l = true := by rwa [List.take_length] at h
set_option maxRecDepth 100000 in
set_option maxHeartbeats 8000000 in
theorem rright_anyP (A : Option Addr) (n c B : Nat) (p : Pg) (w : World) (hA : PgsAt w B A n p) (hB : B ≤ w.heap.size) (hn : n ≤ 100000) (hm : p.flatten.length ≤ 100000) :
    Calls Try.prog 14 #[.slice A n c] w fun e w' => e = .returned (.bool (rightP p)) ∧ Below w.heap.size w w' := by
  have HL := Lib.hid hA.len
  have HA := Lib.hid hA
  have HALL := Lib.hid (fun W (hW : Below w.heap.size w W) => rall_any A n c B p W (hA.below hW hB) (Nat.le_trans hB hW.size) hn hm)
  have HFIT := Lib.hid hA.fit
  have HNL : Hid (∀ k, k < n → lenB (p.getD k []) = false → rightP p = false) := fun k hk h => rightP_no_len (by rw [HL.out]; exact hk) h
  have HNS : Hid (∀ k, k < p.flatten.length → stepP p.flatten k = false → rightP p = false) := fun k hk h => by
    cases hh : rightP p with
    | false => rfl
    | true => have := (rightP_iff.1 hh).2.1; rw [ascL_no hk h] at this; cases this
  have HNC : Hid (160 < p.flatten.length → rightP p = false) := fun h => rightP_no_cnt h
  have HY : Hid ((∀ i, i < n → lenB (p.getD i []) = true) → ascL p.flatten = true → p.flatten.length ≤ 160 → rightP p = true) := fun h1 h2 h3 => rightP_yes (fun i hi => h1 i (by rw [← HL.out]; exact hi)) h2 h3
  have HST : Hid (∀ k, k < p.flatten.length → ascL (p.flatten.take (k + 1)) = (ascL (p.flatten.take k) && stepP p.flatten k)) := fun k hk => ascL_step _ hk
  clear hA
  generalize rightP p = res at *
  generalize p.flatten = l at *
  go_enter Try.func14, Try.ntmps14
  go_wp2
  go_loop [3] (fun i => ∃ k : Nat, k ≤ n ∧ i = .int .i64 (k : Int) ∧ Hid (∀ j, j < k → lenB (p.getD j []) = true)) (fun i => n - (intOf i).toNat)
  case atStart => exact ⟨0, by omega, rfl, fun j hj => absurd hj (Nat.not_lt_zero _)⟩
  case round =>
    obtain ⟨k, hk, rfl, hok⟩ := hrel
    by_cases hlt : k < n
    · obtain ⟨b, o, A', c', rfl, hbB, hcell, hlc, -⟩ := HA.out.at_ hlt
      have HNLk := Lib.hid (HNL.out k hlt)
      have HLB : Hid (lenB (p.getD k []) = (decide (1 ≤ (p.getD k []).length) && decide ((p.getD k []).length ≤ 9))) := rfl
      have HNX : Hid (lenB (p.getD k []) = true → ∀ j, j < k + 1 → lenB (p.getD j []) = true) := fun h j hj => by
        rcases Nat.lt_or_ge j k with h1 | h1
        · exact hok.out j h1
        · obtain rfl : j = k := by omega
          exact h
      generalize (p.getD k []).length = m at *
      have x1 : (k : Int) < (n : Int) := by omega
      by_cases h1 : m < 1
      · have HR : Hid (res = false) := HNLk.out (by rw [HLB.out]; simp; omega)
        have e1 : (m : Int) < 1 := by omega
        clear h1
        go_wp2
        go_ret
        exact ⟨ret_bool HR.out.symm, Below.refl _ _⟩
      · have e1 : ¬ (m : Int) < 1 := by omega
        by_cases h9 : 9 < m
        · have HR : Hid (res = false) := HNLk.out (by rw [HLB.out]; simp; omega)
          have e2 : (9 : Int) < (m : Int) := by omega
          clear h1
          go_wp2
          go_ret
          exact ⟨ret_bool HR.out.symm, Below.refl _ _⟩
        · have e2 : ¬ (9 : Int) < (m : Int) := by omega
          have HI := Lib.hid (HNX.out (by rw [HLB.out]; simp; omega))
          clear h1
          go_wp2
          go_round
          case rel => exact ⟨k + 1, by omega, by go_num, HI⟩
          case measure => simp [intOf]; omega
    · have x1 : ¬ (k : Int) < (n : Int) := by omega
      have HOK : Hid (∀ j, j < n → lenB (p.getD j []) = true) := fun j hj => hok.out j (by omega)
      go_wp2_with fail
      refine (HALL.out w (Below.refl _ _)).mono ?_
      intro e w1 hr
      obtain ⟨A1, c1, rfl, -, hE, b1⟩ := hr.ens HFIT.out
      have HE := Lib.hid hE
      have HB1 := Lib.hid b1
      clear hE b1 hr hlt
      generalize hnm : l.length = m at *
      have HNM := Lib.hid hnm
      clear hnm
      go_wp2
      go_loopw [5] (fun i wr => ∃ j : Nat, j ≤ m ∧ i = .int .i64 (j : Int) ∧ Hid (ascL (l.take j) = true) ∧ Drew w1 wr) (fun i _ => m - (intOf i).toNat)
      case atStart => exact ⟨0, by omega, rfl, (by show ascL _ = true; rw [List.take_zero]; rfl), Drew.refl _⟩
      case round =>
        obtain ⟨j, hj, rfl, hasc, hd⟩ := hrel
        by_cases hjm : j < m
        · obtain ⟨b, o, rfl, hbB, h1, h2⟩ := HE.out.at_ hjm
          have d1 := h1
          have d2 := h2
          rw [← hd.cells] at d1 d2
          have HNSj := Lib.hid (HNS.out j hjm)
          have HSTj : Hid (ascL (l.take (j + 1)) = stepP l j) := by
            show _ = _
            rw [HST.out j hjm, show ascL (l.take j) = true from hasc.out, Bool.true_and]
          have HSD : Hid (stepP l j = (goodB (l.getD j En.z) && (j == 0 || ltB (l.getD (j - 1) En.z).nm (l.getD j En.z).nm))) := rfl
          have HSZ := Lib.hid (HE.out.bd j).1
          have HBD := Lib.hid (Below.drews HB1.out hd)
          have HGD : Hid (goodB (l.getD j En.z) = (nodeB (l.getD j En.z).nd && rightB (l.getD j En.z).nm)) := rfl
          have HPR : Hid (∀ i, j = i + 1 → wr.cell? ⟨b, o + i * 2, none⟩ = some (.string (l.getD (j - 1) En.z).nm)) := fun i hi => by
            obtain ⟨b', o', e', _, g1, -⟩ := HE.out.at_ (k := i) (by omega)
            injection e' with e'
            injection e' with e1 e2
            subst e1 e2
            rw [show j - 1 = i by omega, hd.cells]; exact g1
          have HSP := Lib.hid (HE.out.bd (j - 1)).1
          have HAS := Lib.hid hasc.out
          have hj0 : (0 : Int) ≤ (j : Int) := by omega
          have hjn : (j : Int) < (m : Int) := by omega
          clear h1 h2 hasc
          generalize (l.getD (j - 1) En.z).nm = pn at *
          generalize l.getD j En.z = x at *
          obtain ⟨s, z⟩ := x
          simp only at d1 d2 HGD HSD HSZ
          have HCR : Hid (∀ v, rightB s = v → ∀ W, Calls Try.prog 29 #[.string s] W fun e w' => e = .returned (.bool v) ∧ w' = W) := fun v hv W => by rw [← hv]; exact rright_any s W (by have := HSZ.out; omega)
          have HCA : Hid (∀ v, ltB pn s = v → ∀ W, Calls Try.prog 36 #[.string pn, .string s] W fun e w' => e = .returned (.bool v) ∧ Drew W w') := fun v hv W => by rw [← hv]; exact ahead_any pn s W HSP.out
          by_cases hz1 : z < 1
          · have hz1b : decide (z < 1) = true := by simpa using hz1
            have HR : Hid (res = false) := HNSj.out (by rw [HSD.out, HGD.out]; unfold nodeB; simp; omega)
            clear HPR
            go_wp2_with fail
            refine wp_region_quiet_lit (by kernel_rfl) (by kernel_rfl) ?_
            repeat (go_big_quiet_step (fail))
            refine wpQuiet_nil ?_
            intro _ hw'
            obtain ⟨nq, hw''⟩ := hw'
            subst hw''
            go_wp2_with fail
            go_ret
            exact ⟨ret_bool HR.out.symm, Below.drews HBD.out ⟨nq, rfl⟩⟩
          · have hz1b : decide (z < 1) = false := by simpa using hz1
            by_cases hz2 : 65535 < z
            · have hz2b : decide (65535 < z) = true := by simpa using hz2
              have HR : Hid (res = false) := HNSj.out (by rw [HSD.out, HGD.out]; unfold nodeB; simp; omega)
              clear HPR
              go_wp2_with fail
              refine wp_region_quiet_lit (by kernel_rfl) (by kernel_rfl) ?_
              repeat (go_big_quiet_step (fail))
              refine wpQuiet_nil ?_
              intro _ hw'
              obtain ⟨nq, hw''⟩ := hw'
              subst hw''
              go_wp2_with fail
              go_ret
              exact ⟨ret_bool HR.out.symm, Below.drews HBD.out ⟨nq, rfl⟩⟩
            · have hz2b : decide (65535 < z) = false := by simpa using hz2
              have HN : Hid (nodeB z = true) := by show _ = _; rw [nodeB_iff]; omega
              cases hr : rightB s with
              | false =>
                have HR : Hid (res = false) := HNSj.out (by rw [HSD.out, HGD.out, hr]; simp)
                have HC := Lib.hid (HCR.out false hr)
                clear HPR hr
                go_wp2_with fail
                refine wp_region_quiet_lit (by kernel_rfl) (by kernel_rfl) ?_
                repeat (go_big_quiet_step ((go_at_call 29; with_reducible exact Calls.quiet_of_same (HC.out _))))
                refine wpQuiet_nil ?_
                intro _ hw'
                obtain ⟨nq, hw''⟩ := hw'
                subst hw''
                go_wp2_with fail
                go_ret
                exact ⟨ret_bool HR.out.symm, Below.drews HBD.out ⟨nq, rfl⟩⟩
              | true =>
                have HC := Lib.hid (HCR.out true hr)
                have HGT : Hid (goodB ⟨s, z⟩ = true) := by show _ = _; rw [HGD.out, HN.out, hr]; rfl
                clear hr
                rcases Nat.eq_zero_or_pos j with hj00 | hjp
                · have HA1 : Hid (ascL (l.take (j + 1)) = true) := by show _ = _; rw [HSTj.out, HSD.out, HGT.out, hj00]; rfl
                  have e0 : decide ((0 : Int) < (j : Int)) = false := by simp; omega
                  have e0b : decide (0 < j) = false := by simp; omega
                  clear HPR hj00
                  go_wp2_with fail
                  refine wp_region_quiet_lit (by kernel_rfl) (by kernel_rfl) ?_
                  repeat (go_big_quiet_step ((go_at_call 29; with_reducible exact Calls.quiet_of_same (HC.out _))))
                  refine wpQuiet_nil ?_
                  intro _ hw'
                  obtain ⟨nq, hw''⟩ := hw'
                  subst hw''
                  go_wp2_with fail
                  go_roundw
                  case rel => exact ⟨j + 1, by omega, by go_num, HA1, hd.trans ⟨nq, rfl⟩⟩
                  case measure => simp [intOf]; omega
                · obtain ⟨i, hi⟩ : ∃ i, j = i + 1 := ⟨j - 1, by omega⟩
                  have c3 := HPR.out i hi
                  have HJB : Hid ((j == 0) = false) := by show _ = _; rw [beq_eq_false_iff_ne]; omega
                  have e0 : decide ((0 : Int) < (j : Int)) = true := by simp; omega
                  have e0b : decide (0 < j) = true := by simp; omega
                  have e3 : (j : Int) - 1 = (i : Int) := by omega
                  have e4 : (i : Int) < (m : Int) := by omega
                  clear HPR hi hjp
                  cases hlt2 : ltB pn s with
                  | false =>
                    have HR : Hid (res = false) := HNSj.out (by rw [HSD.out, HGT.out, HJB.out, hlt2]; rfl)
                    have HC2 := Lib.hid (HCA.out false hlt2)
                    clear hlt2
                    go_wp2_with fail
                    refine wp_region_quiet_lit (by kernel_rfl) (by kernel_rfl) ?_
                    repeat (go_big_quiet_step ((first | (go_at_call 29; with_reducible exact Calls.quiet_of_same (HC.out _)) | (go_at_call 36; with_reducible exact quiet_drew (HC2.out _)))))
                    refine wpQuiet_nil ?_
                    intro _ hw'
                    obtain ⟨nq, hw''⟩ := hw'
                    subst hw''
                    go_wp2_with fail
                    go_ret
                    exact ⟨ret_bool HR.out.symm, Below.drews HBD.out ⟨nq, rfl⟩⟩
                  | true =>
                    have HA1 : Hid (ascL (l.take (j + 1)) = true) := by show _ = _; rw [HSTj.out, HSD.out, HGT.out, HJB.out, hlt2]; rfl
                    have HC2 := Lib.hid (HCA.out true hlt2)
                    clear hlt2
                    go_wp2_with fail
                    refine wp_region_quiet_lit (by kernel_rfl) (by kernel_rfl) ?_
                    repeat (go_big_quiet_step ((first | (go_at_call 29; with_reducible exact Calls.quiet_of_same (HC.out _)) | (go_at_call 36; with_reducible exact quiet_drew (HC2.out _)))))
                    refine wpQuiet_nil ?_
                    intro _ hw'
                    obtain ⟨nq, hw''⟩ := hw'
                    subst hw''
                    go_wp2_with fail
                    go_roundw
                    case rel => exact ⟨j + 1, by omega, by go_num, HA1, hd.trans ⟨nq, rfl⟩⟩
                    case measure => simp [intOf]; omega
        · have HJM : Hid (j = m) := by show j = m; omega
          have hjn : ¬ (j : Int) < (m : Int) := by omega
          have HAA : Hid (ascL l = true) := by
            have := hasc.out
            rw [HJM.out, ← HNM.out, List.take_length] at this
            exact this
          have HBD := Lib.hid (Below.drews HB1.out hd)
          clear hasc hd
          by_cases h160 : m ≤ 160
          · have HR : Hid (res = true) := HY.out HOK.out HAA.out h160
            have e1 : (m : Int) ≤ 160 := by omega
            clear h160
            go_wp2
            go_ret
            exact ⟨ret_bool HR.out.symm, HBD.out⟩
          · have HR : Hid (res = false) := HNC.out (by omega)
            have e1 : ¬ (m : Int) ≤ 160 := by omega
            clear h160
            go_wp2
            go_ret
            exact ⟨ret_bool HR.out.symm, HBD.out⟩
end Go.Proofs.Ytflijnhgonigjaa
