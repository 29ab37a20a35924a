/-
  WALK: Right. Conditions: at most 100000 pages of at most 100000 entries.
-/
import Derived.Test.YtflijnhgonigjaaPWords
namespace Go.Proofs.Ytflijnhgonigjaa
open Go.RowKit

/-- what the first k pages have shown. -/
def InvP (p : Pg) (k : Nat) : Prop := (∀ j, j < k → lenB (p.getD j []) = true) ∧ ascL (p.take k).flatten = true ∧ (p.take k).flatten.length ≤ 160
theorem InvP.zero (p : Pg) : InvP p 0 := ⟨fun j hj => by omega, by rw [List.take_zero]; rfl, by simp⟩
theorem InvP.all {p : Pg} (h : InvP p p.length) : rightP p = true := by
  obtain ⟨h1, h2, h3⟩ := h
  rw [List.take_length] at h2 h3
  exact rightP_yes h1 h2 h3
theorem InvP.next {p : Pg} {k : Nat} (hk : k < p.length) (h : InvP p k) (hl : lenB (p.getD k []) = true) (ha : ascL (headP p k (p.getD k []).length) = true) (hc : (p.take (k + 1)).flatten.length ≤ 160) : InvP p (k + 1) := by
  refine ⟨fun j hj => ?_, by rw [← headP_all hk]; exact ha, hc⟩
  rcases Nat.lt_or_ge j k with h1 | h1
  · exact h.1 j h1
  · obtain rfl : j = k := by omega
    exact hl
theorem lastN_head {p : Pg} {k : Nat} (hk : k < p.length) : lastN e0 (headP p k (p.getD k []).length) = lastN e0 (p.take (k + 1)).flatten := by rw [headP_all hk]

set_option maxHeartbeats 4000000 in
theorem iright_any (A : Option Addr) (n c B : Nat) (p : Pg) (w : World) (hA : PgsAt w B A n p) (hB : B ≤ w.heap.size) (hn : n ≤ 100000) (hm : ∀ l ∈ p, l.length ≤ 100000) :
    Calls Try.prog 13 #[.slice A n c] w fun e w' => e = .returned (.bool (rightP p)) ∧ Below w.heap.size w w' := by
  have HL := Lib.hid hA.len
  have HA := Lib.hid hA
  have HM : Hid (∀ k, k < n → (p.getD k []).length ≤ 100000) := fun k hk => by
    rw [pg_getD (by rw [HL.out]; exact hk)]; exact hm _ (List.getElem_mem _)
  have HNL : Hid (∀ k, k < n → lenB (p.getD k []) = false → rightP p = false) := fun k hk h => rightP_no_len (by rw [HL.out]; exact hk) h
  have HNH : Hid (∀ k j, k < n → ascL (headP p k j) = false → rightP p = false) := fun k j hk h => rightP_no_head (by rw [HL.out]; exact hk) h
  have HNC : Hid (∀ k, 160 < (p.take k).flatten.length → rightP p = false) := fun k h => rightP_no_count k h
  have HY : Hid (InvP p n → rightP p = true) := fun h => InvP.all (by rw [HL.out]; exact h)
  have HF : Hid (∀ k, k < n → (p.take (k + 1)).flatten.length = (p.take k).flatten.length + (p.getD k []).length) := fun k hk => by
    rw [flat_take (by rw [HL.out]; exact hk), List.length_append]
  clear hA hm
  generalize rightP p = res at *
  go_enter Try.func13, Try.ntmps13
  go_wp2
  go_loopw [3, 4, 11] (fun cnt last i wr => ∃ k : Nat, k ≤ n ∧ i = .int .i64 (k : Int) ∧ cnt = .int .i64 (((p.take k).flatten.length : Nat) : Int) ∧ last = .string (lastN e0 (p.take k).flatten) ∧ Hid (InvP p k) ∧ Below w.heap.size w wr) (fun _ _ i _ => n - (intOf i).toNat)
  case atStart => exact ⟨0, by omega, rfl, by simp, rfl, InvP.zero p, Below.refl _ _⟩
  case round =>
    obtain ⟨k, hk, rfl, rfl, rfl, hinv, hb⟩ := hrel
    by_cases hlt : k < n
    · obtain ⟨b, o, A', c', rfl, hbB, hcell, hlc, hE⟩ := HA.out.at_ hlt
      have hbl : b < w.heap.size := by omega
      have c1 := bcell hb hcell hbl
      have hml := HM.out k hlt
      have HNLk := Lib.hid (HNL.out k hlt)
      have HFk := Lib.hid (HF.out k hlt)
      have HC3 := Lib.hid hinv.out.2.2
      have HE := Lib.hid hE
      have HB := Lib.hid hb
      clear hcell hE hb
      have HLB : Hid (lenB (p.getD k []) = (decide (1 ≤ (p.getD k []).length) && decide ((p.getD k []).length ≤ 9))) := rfl
      have HHD : Hid (headP p k 0 = (p.take k).flatten) := headP_zero p k
      have HHS : Hid (∀ j, j < (p.getD k []).length → headP p k (j + 1) = headP p k j ++ [(p.getD k []).getD j En.z]) := fun j hj => headP_succ hj
      have HHA : Hid (lastN e0 (headP p k (p.getD k []).length) = lastN e0 (p.take (k + 1)).flatten) := lastN_head (by rw [HL.out]; exact hlt)
      have HNX : Hid (lenB (p.getD k []) = true → ascL (headP p k (p.getD k []).length) = true → (p.take (k + 1)).flatten.length ≤ 160 → InvP p (k + 1)) := fun h1 h2 h3 => InvP.next (by rw [HL.out]; exact hlt) hinv.out h1 h2 h3
      have HNHk : Hid (∀ j, ascL (headP p k j) = false → res = false) := fun j h => HNH.out k j hlt h
      have HNCk : Hid (160 < (p.take (k + 1)).flatten.length → res = false) := fun h => HNC.out (k + 1) h
      have HA0 : Hid (ascL (headP p k 0) = true) := by show _ = _; rw [HHD.out]; exact hinv.out.2.1
      generalize hX : (p.getD k []).length = m at *
      have HX := Lib.hid hX
      clear hX
      generalize hT : (p.take k).flatten.length = tk at *
      have HT := Lib.hid hT
      clear hT
      have hc3 := HC3.out
      by_cases h0 : m = 0
      · have HR : Hid (res = false) := HNLk.out (by rw [HLB.out, h0]; rfl)
        have e1 : ((m : Int) == 0) = true := by rw [beq_iff_eq]; omega
        clear h0
        go_wp2
        go_ret
        exact ⟨ret_bool HR.out.symm, HB.out⟩
      · have e1 : ((m : Int) == 0) = false := by rw [beq_eq_false_iff_ne]; omega
        have h1 : 0 < m := by omega
        clear h0
        by_cases h9 : 9 < m
        · have HR : Hid (res = false) := HNLk.out (by rw [HLB.out]; simp; omega)
          have e2 : (9 : Int) < (m : Int) := by omega
          go_wp2
          go_ret
          exact ⟨ret_bool HR.out.symm, HB.out⟩
        · have e2 : ¬ (9 : Int) < (m : Int) := by omega
          have HLT : Hid (lenB (p.getD k []) = true) := by show _ = _; rw [HLB.out]; simp; omega
          have HBS : Hid (Below w.heap.size w wr) := HB.out
          have hLast : lastN e0 (p.take k).flatten = lastN e0 (headP p k 0) := by rw [HHD.out]
          rw [hLast]
          clear hLast
          go_wp2
          go_loopw [4, 25] (fun last i wr => ∃ j : Nat, j ≤ m ∧ i = .int .i64 (j : Int) ∧ last = .string (lastN e0 (headP p k j)) ∧ Hid (ascL (headP p k j) = true) ∧ Below w.heap.size w wr) (fun _ i _ => m - (intOf i).toNat)
          case atStart => exact ⟨0, by omega, rfl, rfl, HA0, HBS.out⟩
          case round =>
            obtain ⟨j, hj, rfl, rfl, hasc, hb⟩ := hrel
            by_cases hjm : j < m
            · obtain ⟨b', o', rfl, hbB', h1', h2'⟩ := HE.out.at_ hjm
              have hbl' : b' < w.heap.size := by omega
              have d1 := bcell hb h1' hbl'
              have d2 := bcell hb h2' hbl'
              have HB2 := Lib.hid hb
              have HS := Lib.hid (HHS.out j hjm)
              have HSN : Hid (ascL (headP p k (j + 1)) = (goodB ((p.getD k []).getD j En.z) && ltB (lastN e0 (headP p k j)) ((p.getD k []).getD j En.z).nm)) := by
                show _ = _
                rw [HS.out]
                unfold ascL
                rw [ascC_snoc, show ascC e0 (headP p k j) = true from hasc.out, Bool.true_and]
              have HLN : Hid (lastN e0 (headP p k (j + 1)) = ((p.getD k []).getD j En.z).nm) := by show _ = _; rw [HS.out, lastN_snoc]
              have HN1 := Lib.hid (HNHk.out (j + 1))
              clear hb h1' h2' HS
              generalize (p.getD k []).getD j En.z = x at *
              obtain ⟨s, z⟩ := x
              simp only at d1 d2
              have HG : Hid (goodB ⟨s, z⟩ = (nodeB z && rightB s)) := rfl
              have HCR : Hid (∀ W, Calls Try.prog 33 #[.string s] W fun e w' => e = .returned (.bool (rightB s)) ∧ Below W.heap.size W w') := fun W => right_any s W
              have HCN : Hid (∀ W, Calls Try.prog 34 #[.int .i64 z] W fun e w' => e = .returned (.bool (nodeB z)) ∧ W = w') := fun W => isNode_any z W
              have HCC : Hid (∀ W, Calls Try.prog 35 #[.string (lastN e0 (headP p k j)), .string s] W fun e w' => e = .returned (.int .i64 (cmpB (lastN e0 (headP p k j)) s)) ∧ W = w') := fun W => compare_any _ s W
              have HLT2 : Hid (ltB (lastN e0 (headP p k j)) s = decide (cmpB (lastN e0 (headP p k j)) s < 0)) := rfl
              have hw2 := HB2.out.size
              have HB3 : Hid (Below w.heap.size w (wr.alloc (.cells #[.string s, .int .i64 z] 47))) := HB2.out.alloc hw2 _
              have n1 : (wr.alloc (.cells #[.string s, .int .i64 z] 47)).cell? ⟨wr.heap.size, 0, none⟩ = some (.string s) := cell_new wr _ 47 0 rfl
              have n2 : (wr.alloc (.cells #[.string s, .int .i64 z] 47)).cell? ⟨wr.heap.size, 1, none⟩ = some (.int .i64 z) := cell_new wr _ 47 1 rfl
              simp only at HSN HLN HLT2
              generalize ltB (lastN e0 (headP p k j)) s = lv at *
              generalize cmpB (lastN e0 (headP p k j)) s = cv at *
              generalize lastN e0 (headP p k j) = last at *
              go_wp2_with fail
              refine (HCR.out _).mono ?_
              rintro e w3 ⟨rfl, b3⟩
              have n1' := bcell b3 n1 (by simp)
              have n2' := bcell b3 n2 (by simp)
              have HB4 : Hid (Below w.heap.size w w3) := HB3.out.trans (b3.mono HB3.out.size)
              clear b3 n1 n2 d1 d2
              cases hr : rightB s with
              | false =>
                have HR : Hid (res = false) := HN1.out (by rw [HSN.out, HG.out, hr]; simp)
                clear hr
                go_wp2
                go_ret
                exact ⟨ret_bool HR.out.symm, HB4.out⟩
              | true =>
                have HR0 := Lib.hid hr
                clear hr
                go_wp2_with fail
                refine (HCN.out _).mono ?_
                rintro e w5 ⟨rfl, rfl⟩
                cases hnz : nodeB z with
                | false =>
                  have HR : Hid (res = false) := HN1.out (by rw [HSN.out, HG.out, hnz]; simp)
                  clear hnz
                  go_wp2
                  go_ret
                  exact ⟨ret_bool HR.out.symm, HB4.out⟩
                | true =>
                  have HN0 := Lib.hid hnz
                  clear hnz
                  go_wp2_with fail
                  refine (HCC.out _).mono ?_
                  rintro e w5 ⟨rfl, rfl⟩
                  by_cases hcv : cv < 0
                  · have HA1 : Hid (ascL (headP p k (j + 1)) = true) := by show _ = _; rw [HSN.out, HG.out, HR0.out, HN0.out, HLT2.out]; simp [hcv]
                    have hcv' : ¬ cv ≥ 0 := by omega
                    clear hcv
                    go_wp2
                    go_roundw
                    case rel => exact ⟨j + 1, by omega, by go_num, by rw [HLN.out], HA1, HB4.out⟩
                    case measure => simp [intOf]; omega
                  · have HR : Hid (res = false) := HN1.out (by rw [HSN.out, HG.out, HR0.out, HN0.out, HLT2.out]; simp [hcv])
                    have hcv' : cv ≥ 0 := by omega
                    clear hcv
                    go_wp2
                    go_ret
                    exact ⟨ret_bool HR.out.symm, HB4.out⟩
            · obtain rfl : j = m := by omega
              have HB2 := Lib.hid hb
              have hf := HFk.out
              have HLJ : Hid (lastN e0 (headP p k j) = lastN e0 (p.take (k + 1)).flatten) := HHA.out
              clear hb
              have e5 : ((tk : Int) + (j : Int)) = (((p.take (k + 1)).flatten.length : Nat) : Int) := by omega
              have HE5 := Lib.hid e5
              have HF5 := Lib.hid hf
              by_cases h160 : 160 < tk + j
              · have HR : Hid (res = false) := HNCk.out (by omega)
                have e6 : (160 : Int) < (tk : Int) + (j : Int) := by omega
                clear e5 hf
                go_wp2
                go_ret
                exact ⟨ret_bool HR.out.symm, HB2.out⟩
              · have HI : Hid (InvP p (k + 1)) := HNX.out HLT.out hasc.out (by omega)
                have e6 : ¬ (160 : Int) < (tk : Int) + (j : Int) := by omega
                clear e5 hf
                go_wp2
                go_roundw
                case rel => exact ⟨k + 1, by omega, by go_num, by rw [HE5.out], by rw [HLJ.out], HI, HB2.out⟩
                case measure => simp [intOf]; omega
    · have HK : Hid (k = n) := by show k = n; omega
      have HR : Hid (res = true) := HY.out (by rw [← HK.out]; exact hinv.out)
      have HB := Lib.hid hb
      clear hb
      go_wp2
      go_ret
      exact ⟨ret_bool HR.out.symm, HB.out⟩
end Go.Proofs.Ytflijnhgonigjaa
