/-
  WALK: the reference's Right. Conditions: at most 50000 entries.
-/
import Derived.Test.YtmmjpdggneagdaaELive
import Derived.Deep.QuietTactic
import Derived.BigQuiet
namespace Go.Proofs.Ytmmjpdggneagdaa
open Go.RowKit

set_option maxHeartbeats 8000000 in
theorem rrightE_any (A : Option Addr) (n c B : Nat) (l : List En) (w : World) (hA : EnsAt w B A n l) (hB : B ≤ w.heap.size) (hn : n ≤ 50000) :
    Calls Try.prog 13 #[.slice A n c] w fun e w' => e = .returned (.bool (rightR l)) ∧ Below w.heap.size w w' := by
  have HL := Lib.hid hA.len
  have HA := Lib.hid hA
  have HLV := Lib.hid (rlive_any A n c B l w hA hB hn)
  have hll := live_len l
  rw [hA.len] at hll
  clear hA
  by_cases h8 : n % 8 = 0
  · have x0 : (n : Int) % 8 = 0 := by omega
    have x1 : ((n : Int) % 8 != 0) = false := by simp [x0]
    by_cases hc : (liveR l).length ≤ 160
    · have HY : Hid ((∀ k, k < n → stepR (l.take k) (l.getD k En.z) = true) → rightR l = true) := fun h => ref_yes (by rw [HL.out]; exact h8) hc (by rw [HL.out]; exact h)
      have HN : Hid (∀ k, k < n → stepR (l.take k) (l.getD k En.z) = false → rightR l = false) := fun k hk h => ref_no_step (by rw [HL.out]; exact hk) h
      have d1 : decide ((160 : Int) < ((liveR l).length : Int)) = false := by simp; omega
      have d1' : decide (160 < (liveR l).length) = false := by simp; omega
      generalize hm : liveR l = L at *
      clear hm
      go_enter Try.func13, Try.ntmps13
      go_wp2_with fail
      refine HLV.out.mono ?_
      rintro e w1 ⟨v1, rfl, ho1, b1⟩
      obtain ⟨A1, c1, rfl, hc1⟩ := own_slice ho1
      clear ho1
      have HB1 := Lib.hid b1
      clear b1
      go_wp2
      clear x0 x1 d1 d1'
      go_loopw [3, 4] (fun i _ wr => ∃ k : Nat, k ≤ n ∧ i = .int .i64 (k : Int) ∧ Hid (∀ j, j < k → stepR (l.take j) (l.getD j En.z) = true) ∧ Below w.heap.size w wr) (fun i _ _ => n - (intOf i).toNat)
      case atStart => exact ⟨0, by omega, rfl, fun j hj => absurd hj (Nat.not_lt_zero _), HB1.out⟩
      case round =>
        obtain ⟨k, hk, rfl, hok, hb⟩ := hrel
        by_cases hlt : k < n
        · obtain ⟨b, o, rfl, hbB, h1, h2⟩ := HA.out.at_ hlt
          have hfit := (HA.out.bd k).1
          have hbl : b < w.heap.size := by omega
          have c1 := bcell hb h1 hbl
          have c2 := bcell hb h2 hbl
          have HNO := Lib.hid (HN.out k hlt)
          have HB := Lib.hid hb
          clear h1 h2 hb
          generalize hX : l.getD k En.z = x at *
          have HX := Lib.hid hX
          clear hX
          obtain ⟨s, z⟩ := x
          simp only at c1 c2 hfit
          have x1 : (0 : Int) ≤ (k : Int) := by omega
          have x2 : (k : Int) < (n : Int) := by omega
          cases hf : freeB ⟨s, z⟩ with
          | true =>
            have HST : Hid (stepR (l.take k) ⟨s, z⟩ = true) := by show _ = _; unfold stepR; rw [hf]; rfl
            obtain ⟨rfl, rfl⟩ : s = ⟨#[]⟩ ∧ z = 0 := by have := freeB_iff.1 hf; unfold En.z at this; injection this with a b; exact ⟨a, b⟩
            clear hf
            have e0 : (ByteArray.mk #[]).toList = [] := by rw [ByteArray.toList_eq]
            go_wp2
            go_roundw
            case rel => exact ⟨k + 1, by omega, by go_num, fun j hj => by
              rcases Nat.lt_or_ge j k with h' | h'
              · exact hok.out j h'
              · obtain rfl : j = k := by omega
                rw [HX.out]; exact HST.out, HB.out⟩
            case measure => simp [intOf]; omega
          | false =>
            have HSTEP : Hid (stepR (l.take k) ⟨s, z⟩ = (nodeB z && rightB s && !((l.take k).any fun x => eqB x.nm s))) := by show _ = _; unfold stepR; rw [hf, Bool.false_or]
            have hcs : (s.toList = [] ∧ ¬ z = 0) ∨ ¬ s.toList = [] := by
              by_cases h : s.toList = []
              · refine Or.inl ⟨h, fun h0 => ?_⟩
                unfold freeB at hf
                rw [h, h0] at hf
                cases hf
              · exact Or.inr h
            have HNC := Lib.hid (fun w => rnode_any z w)
            have HRC := Lib.hid (fun w => rright_any s w (by omega))
            clear hf
            by_cases hgood : nodeB z = true ∧ rightB s = true
            · obtain ⟨hg1, hg2⟩ := hgood
              have hs : ¬ s.toList = [] := fun h => by
                rw [right_empty h] at hg2; cases hg2
              rw [hg1] at HNC
              rw [hg2] at HRC
              have HST2 : Hid (stepR (l.take k) ⟨s, z⟩ = !((l.take k).any fun x => eqB x.nm s)) := by show _ = _; rw [HSTEP.out, hg1, hg2]; rfl
              clear hcs hg1 hg2 HSTEP
              go_wp2_with fail
              refine (HNC.out _).mono ?_
              rintro e w4 ⟨rfl, rfl⟩
              go_wp2_with fail
              refine (HRC.out _).mono ?_
              rintro e w5 ⟨rfl, rfl⟩
              go_wp2
              go_loopw [4] (fun i wq => ∃ q : Nat, q ≤ k ∧ i = .int .i64 (q : Int) ∧ Hid (∀ j, j < q → eqB (l.getD j En.z).nm s = false) ∧ Below w.heap.size w wq) (fun i _ => k - (intOf i).toNat)
              case atStart => exact ⟨0, by omega, rfl, fun j hj => absurd hj (Nat.not_lt_zero _), HB.out⟩
              case round =>
                clear c1 c2
                obtain ⟨q, hq, rfl, hno, hbq⟩ := hrel
                obtain ⟨b', o', e', hbB', g1, g2⟩ := HA.out.at_ hlt
                obtain ⟨rfl, rfl⟩ : b' = b ∧ o' = o := by injection e' with e'; injection e' with e1 e2; exact ⟨e1.symm, e2.symm⟩
                rw [HX.out] at g1
                have c1 := bcell hbq g1 (by exact hbl)
                clear e' g1 g2 hbB'
                simp only at c1
                by_cases hqk : q < k
                · obtain ⟨b2, o2, e', hbB', g1, g2⟩ := HA.out.at_ (k := q) (by omega)
                  obtain ⟨rfl, rfl⟩ : b2 = b' ∧ o2 = o' := by injection e' with e'; injection e' with e1 e2; exact ⟨e1.symm, e2.symm⟩
                  have c3 := bcell hbq g1 (by exact hbl)
                  clear e' g1 g2 hbB'
                  have y1 : (0 : Int) ≤ (q : Int) := by omega
                  have y2 : (q : Int) < (n : Int) := by omega
                  have HBQ := Lib.hid hbq
                  clear hbq
                  cases hv : eqB (l.getD q En.z).nm s with
                  | true =>
                    have HF := Lib.hid (HNO.out (by
                      rw [HST2.out, List.any_eq_true.2 ⟨l.getD q En.z, ?_, hv⟩]; rfl
                      have hql : q < l.length := by rw [HL.out]; omega
                      rw [getD_lt hql, List.mem_take_iff_getElem]
                      exact ⟨q, by omega, rfl⟩))
                    have hv' : ((l.getD q En.z).nm.toList == s.toList) = true := hv
                    clear hv
                    generalize (l.getD q En.z).nm = t at *
                    go_wp2
                    go_quiet (fail)
                    go_wp2
                    go_ret
                    exact ⟨ret_bool HF.out.symm, Below.drews HBQ.out ⟨_, rfl⟩⟩
                  | false =>
                    have hv' : ((l.getD q En.z).nm.toList == s.toList) = false := hv
                    have HV := Lib.hid hv
                    clear hv
                    generalize ht : (l.getD q En.z).nm = t at *
                    have HT := Lib.hid ht
                    clear ht
                    go_wp2
                    go_quiet (fail)
                    go_wp2
                    go_roundw
                    case rel => exact ⟨q + 1, by omega, by go_num, fun j hj => by
                      rcases Nat.lt_or_ge j q with h' | h'
                      · exact hno.out j h'
                      · obtain rfl : j = q := by omega
                        rw [HT.out]; exact HV.out, Below.drews HBQ.out ⟨_, rfl⟩⟩
                    case measure => simp [intOf]; omega
                · have HST : Hid (stepR (l.take k) ⟨s, z⟩ = true) := by
                    show _ = _
                    rw [HST2.out, Bool.not_eq_true', List.any_eq_false]
                    intro e he
                    obtain ⟨j, hj, rfl⟩ := List.mem_take_iff_getElem.1 he
                    have := hno.out j (by omega)
                    rw [getD_lt (by omega)] at this
                    rw [this]; decide
                  go_wp2
                  go_roundw
                  case rel => exact ⟨k + 1, by omega, by go_num, fun j hj => by
                    rcases Nat.lt_or_ge j k with h' | h'
                    · exact hok.out j h'
                    · obtain rfl : j = k := by omega
                      rw [HX.out]; exact HST.out, hbq⟩
                  case measure => simp [intOf]; omega
            · have HF := Lib.hid (HNO.out (by
                rw [HSTEP.out]
                cases h1 : nodeB z with
                | false => rfl
                | true =>
                  cases h2 : rightB s with
                  | false => rfl
                  | true => exact absurd ⟨h1, h2⟩ hgood))
              cases h1 : nodeB z with
              | false =>
                rw [h1] at HNC
                clear hgood h1
                rcases hcs with ⟨hs, hz⟩ | hs
                all_goals
                  go_wp2_with fail
                  refine (HNC.out _).mono ?_
                  rintro e w4 ⟨rfl, rfl⟩
                  go_wp2
                  go_ret
                  exact ⟨ret_bool HF.out.symm, HB.out⟩
              | true =>
                have h2 : rightB s = false := by
                  cases h2 : rightB s with
                  | false => rfl
                  | true => exact absurd ⟨h1, h2⟩ hgood
                rw [h1] at HNC
                rw [h2] at HRC
                clear hgood h1 h2
                rcases hcs with ⟨hs, hz⟩ | hs
                all_goals
                  go_wp2_with fail
                  refine (HNC.out _).mono ?_
                  rintro e w4 ⟨rfl, rfl⟩
                  go_wp2_with fail
                  refine (HRC.out _).mono ?_
                  rintro e w5 ⟨rfl, rfl⟩
                  go_wp2
                  go_ret
                  exact ⟨ret_bool HF.out.symm, HB.out⟩
        · have HF : Hid (rightR l = true) := HY.out fun j hj => hok.out j (by omega)
          go_wp2
          go_ret
          exact ⟨ret_bool HF.out.symm, hb⟩
    · have HR : Hid (rightR l = false) := ref_no_cnt (by omega)
      have d1 : decide ((160 : Int) < ((liveR l).length : Int)) = true := by simp; omega
      have d1' : decide (160 < (liveR l).length) = true := by simp; omega
      generalize liveR l = L at *
      go_enter Try.func13, Try.ntmps13
      go_wp2_with fail
      refine HLV.out.mono ?_
      rintro e w1 ⟨v1, rfl, ho1, b1⟩
      obtain ⟨A1, c1, rfl, hc1⟩ := own_slice ho1
      clear ho1
      have HB1 := Lib.hid b1
      clear b1
      go_wp2
      go_ret
      exact ⟨ret_bool HR.out.symm, HB1.out⟩
  · have HR : Hid (rightR l = false) := ref_no_len (by rw [HL.out]; exact h8)
    have x0 : ¬ (n : Int) % 8 = 0 := by omega
    have x1 : ((n : Int) % 8 != 0) = true := by simp [x0]
    go_enter Try.func13, Try.ntmps13
    go_wp2
    go_ret
    exact ⟨ret_bool HR.out.symm, Below.refl _ _⟩
end Go.Proofs.Ytmmjpdggneagdaa
