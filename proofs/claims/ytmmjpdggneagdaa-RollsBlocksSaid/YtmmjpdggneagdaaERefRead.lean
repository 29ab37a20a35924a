/-
  WALK: the reference's Read. Conditions: at most 4000 texts.
-/
import Derived.Test.YtmmjpdggneagdaaERead
import Derived.Test.YtmmjpdggneagdaaERefRight
namespace Go.Proofs.Ytmmjpdggneagdaa
open Go.RowKit

/-- what the reference sees of the 16 bytes at place j. -/
def RefEnt (b : ByteArray) (j : Nat) : Prop := ∃ (T t : ByteArray) (ze nn : Int), b.extract (16 * j) (16 * j + 16) = T ∧ T.size = 16 ∧
  readR [2] (bytesOf T) = ([nn], 0) ∧ untextR (T.extract 2 13) = (t, ze) ∧ (¬ ze = 0 → entAt b j = none) ∧ (ze = 0 → En.okS ⟨t, nn⟩) ∧
  (ze = 0 → bs (slotL ⟨t, nn⟩) = T → entAt b j = some ⟨t, nn⟩) ∧ (ze = 0 → ¬ bs (slotL ⟨t, nn⟩) = T → entAt b j = none)
theorem ref_ent {b : ByteArray} {j : Nat} (h8 : b.size = 128) (hj : j < 8) : RefEnt b j := by
  have hp : (cutL b.data.toList (16 * j) (16 * j + 16)).length = 16 := by unfold cutL; rw [List.length_take, List.length_drop, data_len, h8]; omega
  have e1 : b.extract (16 * j) (16 * j + 16) = bs (cutL b.data.toList (16 * j) (16 * j + 16)) := by rw [← bs_extract, bs_eq]
  unfold RefEnt entAt
  rw [e1]
  generalize cutL b.data.toList (16 * j) (16 * j + 16) = p at *
  refine ⟨bs p, (untextR (bs (cutL p 2 13))).1, (untextR (bs (cutL p 2 13))).2, num2 p, rfl, hp, read2 (by omega), by rw [bs_extract], unslot_no1, fun h => (slot_read hp h).2, fun h h2 => ?_, fun h h2 => ?_⟩
  · unfold unslotR; rw [if_pos ⟨h, (slot_iff hp h).1 (bs_inj h2)⟩]
  · unfold unslotR; rw [if_neg]; rintro ⟨-, h3⟩; exact h2 (by rw [(slot_iff hp h).2 h3])

set_option maxRecDepth 100000 in
set_option maxHeartbeats 8000000 in
theorem rreadB_any (A : Option Addr) (n c B : Nat) (bl : List ByteArray) (w : World) (hA : StrsAt w B A n bl) (hB : B ≤ w.heap.size) (hn : n ≤ 4000) :
    Calls Try.prog 26 #[.slice A n c] w (RetR w (readB bl)) := by
  have HL := Lib.hid hA.len
  have HA := Lib.hid hA
  clear hA
  go_enter Try.func26, Try.ntmps26
  go_wp2
  go_loopw [4, 5, 6, 7, 8, 9, 10, 11, 12] (fun v i _ _ _ _ _ _ _ wr => ∃ k : Nat, k ≤ n ∧ i = .int .i64 (k : Int) ∧ Hid (∀ j, j < k → blkB (bl.getD j ⟨#[]⟩) = true) ∧ wr.ownsRow w.heap.size 43 2 v (entsAll (bl.take k)).length (ensCells (entsAll (bl.take k))) ∧ Below w.heap.size w wr) (fun _ i _ _ _ _ _ _ _ _ => n - (intOf i).toNat)
  case atStart => exact ⟨0, by omega, rfl, fun j hj => absurd hj (Nat.not_lt_zero _), World.ownsRow_nil _ _ _ _, Below.refl _ _⟩
  case round =>
    obtain ⟨k, hk, rfl, hok, hown, hb⟩ := hrel
    have HOWN := Lib.hid hown
    have HB := Lib.hid hb
    clear hown hb
    by_cases hlt : k < n
    · obtain ⟨b, o, rfl, hbB, g1⟩ := HA.out.at_ hlt
      have c1 := bcell HB.out g1 (by show b < _; omega)
      have hbd := HA.out.bd k
      have hkl : k < bl.length := by rw [HL.out]; exact hlt
      have HNO : Hid (blkB (bl.getD k ⟨#[]⟩) = false → readB bl = ([], 15)) := read_no hkl
      have HSZN : Hid (¬ (bl.getD k ⟨#[]⟩).size = 128 → blkB (bl.getD k ⟨#[]⟩) = false) := blk_size_no
      have HENO : Hid (∀ j, j < 8 → entAt (bl.getD k ⟨#[]⟩) j = none → blkB (bl.getD k ⟨#[]⟩) = false) := fun j hj => blk_ent_no hj
      have HYES : Hid ((bl.getD k ⟨#[]⟩).size = 128 → blkTo (bl.getD k ⟨#[]⟩) 8 = true → blkB (bl.getD k ⟨#[]⟩) = true) := blk_yes
      have HST : Hid (∀ j, blkTo (bl.getD k ⟨#[]⟩) (j + 1) = (blkTo (bl.getD k ⟨#[]⟩) j && (entAt (bl.getD k ⟨#[]⟩) j).isSome)) := fun j => rfl
      have HZ := Lib.hid (readTo2_zero bl k)
      have HNX : Hid (∀ j e, entAt (bl.getD k ⟨#[]⟩) j = some e → readTo2 bl k (j + 1) = readTo2 bl k j ++ [e]) := fun j e h => readTo2_next bl k j h
      have HRA := Lib.hid (readTo2_all hkl)
      have HRL : Hid (∀ j, (readTo2 bl k j).length = 8 * k + j) := fun j => readTo2_len (by omega)
      have HRE : Hid (∀ j, j < 8 → (bl.getD k ⟨#[]⟩).size = 128 → RefEnt (bl.getD k ⟨#[]⟩) j) := fun j hj h8 => ref_ent h8 hj
      have x1 : (0 : Int) ≤ (k : Int) := by omega
      have x2 : (k : Int) < (n : Int) := by omega
      have G1 := Lib.hid g1
      clear g1
      generalize hS : bl.getD k ⟨#[]⟩ = S at *
      have HS := Lib.hid hS
      clear hS
      by_cases h128 : S.size = 128
      · rw [← HZ.out] at HOWN
        have HBK : Hid (Below w.heap.size w wr) := HB.out
        clear HZ
        go_wp2
        go_loopw [4, 6, 7, 8, 9, 10, 11, 12] (fun v a _ _ _ _ _ _ wq => ∃ j : Nat, j ≤ 8 ∧ a = .int .i64 (j : Int) ∧ Hid (blkTo S j = true) ∧ wq.ownsRow w.heap.size 43 2 v (readTo2 bl k j).length (ensCells (readTo2 bl k j)) ∧ Below w.heap.size w wq) (fun _ a _ _ _ _ _ _ _ => 8 - (intOf a).toNat)
        case atStart => exact ⟨0, by omega, rfl, rfl, HOWN.out, HB.out⟩
        case round =>
          clear HOWN HB
          have hbB2 : b < w.heap.size := by omega
          obtain ⟨j, hj, rfl, htj, hown, hb⟩ := hrel
          obtain ⟨A', c', rfl, hc'⟩ := own_slice hown
          have c2 := bcell hb G1.out hbB2
          clear c1
          have HOWN := Lib.hid hown
          have HB := Lib.hid hb
          clear hown hb
          by_cases hj8 : j < 8
          · have hre := HRE.out j hj8 h128
            have HN1 : Hid (entAt S j = none → readB bl = ([], 15)) := fun h => HNO.out (HENO.out j hj8 h)
            have HN2 : Hid (∀ e, entAt S j = some e → readTo2 bl k (j + 1) = readTo2 bl k j ++ [e]) := fun e h => HNX.out j e h
            have HN3 : Hid (∀ e, entAt S j = some e → blkTo S (j + 1) = true) := fun e h => by rw [HST.out, htj.out, h]; rfl
            have HLN := Lib.hid (HRL.out j)
            obtain ⟨T, t, ze, nn, hT, hTs, hRD, hUT, hN0, hok, hYS, hNS⟩ := hre
            have HT := Lib.hid hT
            have HRD := Lib.hid hRD
            have HUT := Lib.hid hUT
            have HN0 := Lib.hid hN0
            have HOK := Lib.hid hok
            have HYS := Lib.hid hYS
            have HNS := Lib.hid hNS
            clear hT hRD hUT hN0 hok hYS hNS HNO HENO HNX HRL HST HRE
            generalize entAt S j = oe at *
            have y1 : (0 : Int) ≤ 16 * (j : Int) := by omega
            have y2 : 16 * (j : Int) + 16 ≤ 128 := by omega
            have y3 : (16 * (j : Int) + 16).toNat = 16 * j + 16 := by omega
            have y4 : (16 * (j : Int)).toNat = 16 * j := by omega
            have y5 : (j : Int) < 8 := by omega
            go_wp2_with fail
            rw [HT.out]
            have KRD := Lib.hid (rread_any (some ⟨wr.heap.size, 0, none⟩) 1 1 (wr.heap.size + 1) [2] T (wr.alloc (.cells #[.int .i64 2] 3)) (ints_one wr 2 (by omega)) (by simp) (by omega) (by omega))
            rw [HRD.out] at KRD
            have HOA := Lib.hid (HOWN.out.alloc (.cells #[.int .i64 2] 3))
            have HBA : Hid (Below w.heap.size w (wr.alloc (.cells #[.int .i64 2] 3))) := HB.out.alloc HB.out.size _
            clear HRD HT
            generalize wr.alloc (.cells #[.int .i64 2] 3) = W2 at *
            refine KRD.out.mono ?_
            rintro e w3 ⟨A3, n3, c3, rfl, hi3, b3⟩
            have hn3 : n3 = 1 := hi3.len.symm
            subst hn3
            obtain ⟨g, o3, rfl, hg, hc3⟩ := hi3.at_ (k := 0) (by omega)
            have k3 : w3.cell? ⟨g, o3, none⟩ = some (.int .i64 nn) := hc3
            have HO3 := Lib.hid (own_below HOA.out b3 (Nat.le_refl _))
            have HB3 := Lib.hid (HBA.out.trans (b3.mono HBA.out.size))
            have KU := Lib.hid (runtext_any (T.extract 2 13) w3 (by rw [ByteArray.size_extract]; omega))
            rw [HUT.out] at KU
            clear b3 hi3 hc3 HUT KRD
            go_wp2_with fail
            refine KU.out.mono ?_
            rintro e w4 ⟨rfl, rfl⟩
            by_cases hze : ze = 0
            · subst hze
              have HONE := Lib.hid (fun W => one_any ⟨t, nn⟩ W (HOK.out (by simp)))
              have HO4 := Lib.hid (HO3.out.alloc (.cells #[.string t, .int .i64 nn] 43))
              have HB4 : Hid (Below w.heap.size w (w3.alloc (.cells #[.string t, .int .i64 nn] 43))) := HB3.out.alloc HB3.out.size _
              have n1 : (w3.alloc (.cells #[.string t, .int .i64 nn] 43)).cell? ⟨w3.heap.size, 0, none⟩ = some (.string t) := cell_new w3 _ 43 0 rfl
              have n2 : (w3.alloc (.cells #[.string t, .int .i64 nn] 43)).cell? ⟨w3.heap.size, 1, none⟩ = some (.int .i64 nn) := cell_new w3 _ 43 1 rfl
              have HQ : Hid (w3.heap.size < (w3.alloc (.cells #[.string t, .int .i64 nn] 43)).heap.size) := by show _ < _; simp
              simp only at HONE
              by_cases hv : bs (slotL ⟨t, nn⟩) = T
              · have HE := Lib.hid (HYS.out (by simp) hv)
                have hv' : ((bs (slotL ⟨t, nn⟩)).toList == T.toList) = true := eqB_iff.2 hv
                have HN := Lib.hid (HN2.out _ HE.out)
                have HTJ := Lib.hid (HN3.out _ HE.out)
                clear HN1 HN2 HN3 HE hv HYS HNS HN0 HOK
                generalize bs (slotL ⟨t, nn⟩) = V at *
                generalize readTo2 bl k j = L at *
                generalize hm : L.length = m at *
                have HM := Lib.hid hm
                clear hm
                have hm2 : m ≤ 40000 := by have := HLN.out; omega
                go_upto_region 14 with fail
                generalize w3.alloc (.cells #[.string t, .int .i64 nn] 43) = W4 at *
                generalize w3.heap.size = px at *
                go_wp2_with fail
                refine (HONE.out _).mono ?_
                rintro e w5 ⟨rfl, b5⟩
                have HO5 := Lib.hid (own_below HO4.out b5 (Nat.le_refl _))
                have m1 := bcell b5 n1 HQ.out
                have m2 := bcell b5 n2 HQ.out
                have HB5 := Lib.hid (HB4.out.trans (b5.mono HB4.out.size))
                clear b5 n1 n2
                go_wp2_with (at_builtin; refine push_law rfl (.tmp 64) (.tmp 66) rfl w.heap.size w5 (.slice A' m c') L t nn rfl rfl (by rw [HM.out]; exact HO5.out) (by rw [HM.out]; omega) HB5.out.size ?_; intro v' w6 hown6 hb6)
                have HO6 : Hid (w6.ownsRow w.heap.size 43 2 v' (readTo2 bl k (j + 1)).length (ensCells (readTo2 bl k (j + 1)))) := by show World.ownsRow _ _ _ _ _ _ _; rw [HN.out]; exact hown6
                clear hown6
                go_roundw
                case rel => exact ⟨j + 1, by omega, by go_num, HTJ.out, HO6.out, HB5.out.trans hb6⟩
                case measure => simp [intOf]; omega
              · have HE := Lib.hid (HNS.out (by simp) hv)
                have hv' : ((bs (slotL ⟨t, nn⟩)).toList == T.toList) = false := eqB_ne.2 hv
                have HF := Lib.hid (HN1.out HE.out)
                clear HN1 HN2 HN3 HE hv HYS HNS HN0 HOK
                generalize bs (slotL ⟨t, nn⟩) = V at *
                go_upto_region 14 with fail
                generalize w3.alloc (.cells #[.string t, .int .i64 nn] 43) = W4 at *
                generalize w3.heap.size = px at *
                go_wp2_with fail
                refine (HONE.out _).mono ?_
                rintro e w5 ⟨rfl, b5⟩
                have HB5 := Lib.hid (HB4.out.trans (b5.mono HB4.out.size))
                clear b5 n1 n2
                go_wp2
                go_ret2
                exact RetR.err HF.out HB5.out
            · have HF := Lib.hid (HN1.out (HN0.out hze))
              have d1 : (ze == 0) = false := beq_eq_false_iff_ne.2 hze
              clear HN1 HN2 HN3 HYS HNS HN0 HOK
              go_wp2
              go_ret2
              exact RetR.err HF.out (HB3.out.alloc HB3.out.size _)
          · obtain rfl : j = 8 := by omega
            have HY := Lib.hid (HYES.out h128 htj.out)
            rw [HRA.out] at HOWN
            rw [HRA.out]
            generalize hm : (entsAll (bl.take (k + 1))).length = m at *
            have HM := Lib.hid hm
            clear hm
            go_wp2
            go_roundw
            case rel => exact ⟨k + 1, by omega, by go_num, fun i hi => by
              rcases Nat.lt_or_ge i k with h' | h'
              · exact hok.out i h'
              · obtain rfl : i = k := by omega
                rw [HS.out]; exact HY.out, by rw [HM.out]; exact HOWN.out, HB.out⟩
            case measure => simp [intOf]; omega
      · have HF := Lib.hid (HNO.out (HSZN.out h128))
        have d1 : ((S.size : Int) == 128) = false := by simp; omega
        have d2 : ¬ (S.size : Int) = 128 := by omega
        go_wp2
        go_ret2
        exact RetR.err HF.out HB.out
    · have hkn : k = n := by omega
      subst hkn
      have e1 : bl.take k = bl := by rw [← HL.out, List.take_length]
      rw [e1] at HOWN
      have HOK2 : Hid (∀ j, j < bl.length → blkB (bl.getD j ⟨#[]⟩) = true) := fun j hj => hok.out j (by rw [← HL.out]; exact hj)
      have hfit := ents_fit HOK2.out
      have hlen := entsAll_len bl
      rw [HL.out] at hlen
      obtain ⟨A', c', rfl, hc'⟩ := own_slice HOWN.out
      have KR := Lib.hid (rrightE_any A' _ c' wr.heap.size (entsAll bl) wr (EnsAt.of_own HOWN.out rfl hfit) (Nat.le_refl _) (by omega))
      clear e1 hfit hlen
      cases hr : rightR (entsAll bl) with
      | false =>
        have HF := Lib.hid (read_odd hr)
        rw [hr] at KR
        clear hr
        generalize (entsAll bl).length = m at *
        go_wp2_with fail
        refine KR.out.mono ?_
        rintro e w3 ⟨rfl, b3⟩
        have HB3 := Lib.hid (HB.out.trans (b3.mono HB.out.size))
        clear b3
        go_wp2
        go_ret2
        exact RetR.err HF.out HB3.out
      | true =>
        have HF := Lib.hid (read_yes HOK2.out hr)
        rw [hr] at KR
        clear hr
        generalize hm : (entsAll bl).length = m at *
        have HM := Lib.hid hm
        clear hm
        go_wp2_with fail
        refine KR.out.mono ?_
        rintro e w3 ⟨rfl, b3⟩
        have HB3 := Lib.hid (HB.out.trans (b3.mono HB.out.size))
        have HO3 := Lib.hid (own_below HOWN.out b3 (Nat.le_refl _))
        clear b3
        go_wp2
        go_ret2
        rw [HF.out]
        exact ⟨_, rfl, by rw [HM.out]; exact HO3.out, HB3.out⟩
end Go.Proofs.Ytmmjpdggneagdaa
