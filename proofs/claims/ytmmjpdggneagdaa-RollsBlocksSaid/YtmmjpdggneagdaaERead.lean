/-
  WALK: Read. Conditions: at most 4000 texts.
-/
import Derived.Test.YtmmjpdggneagdaaEStrs
import Derived.Test.YtmmjpdggneagdaaERight
namespace Go.Proofs.Ytmmjpdggneagdaa
open Go.RowKit

theorem okS_fit {e : En} (h : e.okS) : e.fit := ⟨by have := h.len; omega, by have := h.lo; omega, by have := h.hi; omega⟩
theorem entAt_fit {b : ByteArray} (hb : b.size = 128) {k : Nat} (hk : k < 8) {e : En} (h : entAt b k = some e) : e.okS := by
  have hc : (cutL b.data.toList (16 * k) (16 * k + 16)).length = 16 := by unfold cutL; simp; omega
  exact (slot_unslot hc h).2
theorem ents_fit {bl : List ByteArray} (h : ∀ j, j < bl.length → blkB (bl.getD j ⟨#[]⟩) = true) : ∀ e ∈ entsAll bl, e.fit := by
  intro e he
  obtain ⟨b, hb, he⟩ := List.mem_flatMap.1 he
  obtain ⟨j, hj, rfl⟩ := List.getElem_of_mem hb
  have h1 := h j hj
  have e1 : bl.getD j ⟨#[]⟩ = bl[j] := by simp [List.getD, hj]
  rw [e1] at h1
  unfold blkB at h1
  simp only [Bool.and_eq_true, decide_eq_true_eq] at h1
  obtain ⟨k, hk, rfl⟩ := List.mem_map.1 he
  obtain ⟨x, hx⟩ := blkTo_at h1.2 (List.mem_range.1 hk)
  rw [hx]
  exact okS_fit (entAt_fit h1.1 (List.mem_range.1 hk) hx)
theorem RetR.err {w w' : World} {r : List En × Int} {z : Int} (h : r = ([], z)) (hb : Below w.heap.size w w') : RetR w r (.returned (.tuple #[.slice none 0 0, .int .i64 z])) w' := by
  subst h; exact ⟨_, rfl, World.ownsRow_nil _ _ _ _, hb⟩
/-- what is read so far. -/
def readTo2 (bl : List ByteArray) (k j : Nat) : List En := entsAll (bl.take k) ++ entsTo (bl.getD k ⟨#[]⟩) j
theorem readTo2_zero (bl : List ByteArray) (k : Nat) : readTo2 bl k 0 = entsAll (bl.take k) := by unfold readTo2 entsTo; simp
theorem readTo2_next (bl : List ByteArray) (k j : Nat) {e : En} (h : entAt (bl.getD k ⟨#[]⟩) j = some e) : readTo2 bl k (j + 1) = readTo2 bl k j ++ [e] := by
  unfold readTo2; rw [entsTo_succ _ _ h, List.append_assoc]
theorem readTo2_all {bl : List ByteArray} {k : Nat} (hk : k < bl.length) : readTo2 bl k 8 = entsAll (bl.take (k + 1)) := by
  unfold readTo2; rw [take_snocB _ hk, entsAll_snoc]
theorem readTo2_len {bl : List ByteArray} {k j : Nat} (hk : k ≤ bl.length) : (readTo2 bl k j).length = 8 * k + j := by
  unfold readTo2; rw [List.length_append, entsAll_len, entsTo_len, List.length_take]; omega

set_option maxRecDepth 100000 in
set_option maxHeartbeats 8000000 in
theorem readB_any (A : Option Addr) (n c B : Nat) (bl : List ByteArray) (w : World) (hA : StrsAt w B A n bl) (hB : B ≤ w.heap.size) (hn : n ≤ 4000) :
    Calls Try.prog 25 #[.slice A n c] w (RetR w (readB bl)) := by
  have HL := Lib.hid hA.len
  have HA := Lib.hid hA
  clear hA
  go_enter Try.func25, Try.ntmps25
  go_wp2
  go_loopw [4, 6, 7, 8, 9, 12] (fun v _ _ _ _ i wr => ∃ k : Nat, k ≤ n ∧ i = .int .i64 (k : Int) ∧ Hid (∀ j, j < k → blkB (bl.getD j ⟨#[]⟩) = true) ∧ wr.ownsRow w.heap.size 43 2 v (entsAll (bl.take k)).length (ensCells (entsAll (bl.take k))) ∧ Below w.heap.size w wr) (fun _ _ _ _ _ i _ => n - (intOf i).toNat)
  case atStart => exact ⟨0, by omega, rfl, fun j hj => absurd hj (Nat.not_lt_zero _), World.ownsRow_nil _ _ _ _, Below.refl _ _⟩
  case round =>
    obtain ⟨k, hk, rfl, hok, hown, hb⟩ := hrel
    have HOWN := Lib.hid hown
    have HB := Lib.hid hb
    clear hown hb
    by_cases hlt : k < n
    · obtain ⟨b, o, rfl, hbB, g1⟩ := HA.out.at_ hlt
      have c1 := bcell HB.out g1 (by show b < _; omega)
      have hbd := HA.out.bd k
      have hkl : k < bl.length := by rw [HL.out]; exact hlt
      have HNO : Hid (blkB (bl.getD k ⟨#[]⟩) = false → readB bl = ([], 15)) := read_no hkl
      have HSZN : Hid (¬ (bl.getD k ⟨#[]⟩).size = 128 → blkB (bl.getD k ⟨#[]⟩) = false) := blk_size_no
      have HENO : Hid (∀ j, j < 8 → entAt (bl.getD k ⟨#[]⟩) j = none → blkB (bl.getD k ⟨#[]⟩) = false) := fun j hj => blk_ent_no hj
      have HYES : Hid ((bl.getD k ⟨#[]⟩).size = 128 → blkTo (bl.getD k ⟨#[]⟩) 8 = true → blkB (bl.getD k ⟨#[]⟩) = true) := blk_yes
      have HST : Hid (∀ j, blkTo (bl.getD k ⟨#[]⟩) (j + 1) = (blkTo (bl.getD k ⟨#[]⟩) j && (entAt (bl.getD k ⟨#[]⟩) j).isSome)) := fun j => rfl
      have HZ := Lib.hid (readTo2_zero bl k)
      have HNX : Hid (∀ j e, entAt (bl.getD k ⟨#[]⟩) j = some e → readTo2 bl k (j + 1) = readTo2 bl k j ++ [e]) := fun j e h => readTo2_next bl k j h
      have HRA := Lib.hid (readTo2_all hkl)
      have HRL : Hid (∀ j, (readTo2 bl k j).length = 8 * k + j) := fun j => readTo2_len (by omega)
      have HUN : Hid (∀ j W, (bl.getD k ⟨#[]⟩).size = 128 → j < 8 → Calls Try.prog 42 #[.string ((bl.getD k ⟨#[]⟩).extract (16 * j) (16 * j + 16))] W (RetUn W (entAt (bl.getD k ⟨#[]⟩) j))) := fun j W h8 hj => by
        have e1 : (bl.getD k ⟨#[]⟩).extract (16 * j) (16 * j + 16) = bs (cutL (bl.getD k ⟨#[]⟩).data.toList (16 * j) (16 * j + 16)) := by
          rw [← bs_extract, bs_eq]
        rw [e1]
        exact unslot_any _ W (by unfold cutL; rw [List.length_take, List.length_drop, data_len, h8]; omega)
      have x1 : (0 : Int) ≤ (k : Int) := by omega
      have x2 : (k : Int) < (n : Int) := by omega
      clear g1
      generalize hS : bl.getD k ⟨#[]⟩ = S at *
      have HS := Lib.hid hS
      clear hS
      by_cases h128 : S.size = 128
      · rw [← HZ.out] at HOWN
        have HBK : Hid (Below w.heap.size w wr) := HB.out
        clear HZ
        go_wp2
        go_loopw [4, 7, 8, 9] (fun v a _ _ wq => ∃ j : Nat, j ≤ 8 ∧ a = .int .i64 ((16 * j : Nat) : Int) ∧ Hid (blkTo S j = true) ∧ wq.ownsRow w.heap.size 43 2 v (readTo2 bl k j).length (ensCells (readTo2 bl k j)) ∧ Below w.heap.size w wq) (fun _ a _ _ _ => 128 - (intOf a).toNat)
        case atStart => exact ⟨0, by omega, rfl, rfl, HOWN.out, HB.out⟩
        case round =>
          clear HOWN HB c1
          obtain ⟨j, hj, rfl, htj, hown, hb⟩ := hrel
          obtain ⟨A', c', rfl, hc'⟩ := own_slice hown
          have HOWN := Lib.hid hown
          have HB := Lib.hid hb
          clear hown hb
          by_cases hj8 : j < 8
          · have HU := Lib.hid (fun W => HUN.out j W h128 hj8)
            have HN1 : Hid (entAt S j = none → readB bl = ([], 15)) := fun h => HNO.out (HENO.out j hj8 h)
            have HN2 : Hid (∀ e, entAt S j = some e → readTo2 bl k (j + 1) = readTo2 bl k j ++ [e]) := fun e h => HNX.out j e h
            have HN3 : Hid (∀ e, entAt S j = some e → blkTo S (j + 1) = true) := fun e h => by rw [HST.out, htj.out, h]; rfl
            have HLN := Lib.hid (HRL.out j)
            have hx8 : 16 * j + 16 ≤ 128 := by omega
            have HXN : Hid (16 * (j + 1) = 16 * j + 16) := by show _ = _; omega
            generalize 16 * j = x at *
            generalize entAt S j = oe at *
            have y1 : (0 : Int) ≤ (x : Int) := by omega
            have y2 : (x : Int) + 16 ≤ 128 := by omega
            have y3 : ((x : Int) + 16).toNat = x + 16 := by omega
            have y4 : (x : Int) < 128 := by omega
            cases oe with
            | none =>
              have HF := Lib.hid (HN1.out rfl)
              go_wp2_with fail
              refine (HU.out _).mono ?_
              rintro e w3 ⟨rfl, b3⟩
              have HB3 := Lib.hid (HB.out.trans (b3.mono HB.out.size))
              clear b3
              go_wp2
              go_ret2
              exact RetR.err HF.out (HB3.out.alloc HB3.out.size _)
            | some en =>
              obtain ⟨s, z⟩ := en
              have HN := Lib.hid (HN2.out _ rfl)
              have HT := Lib.hid (HN3.out _ rfl)
              clear HN1 HN2 HN3
              generalize readTo2 bl k j = L at *
              generalize hm : L.length = m at *
              have HM := Lib.hid hm
              clear hm
              have hm2 : m ≤ 40000 := by have := HLN.out; omega
              go_wp2_with fail
              refine (HU.out _).mono ?_
              rintro e w3 ⟨rfl, b3⟩
              have HO3 := Lib.hid (own_below HOWN.out b3 (Nat.le_refl _))
              have HB3 := Lib.hid (HB.out.trans (b3.mono HB.out.size))
              clear b3
              go_upto_region 13 with fail
              have n1 : (w3.alloc (.cells #[.string s, .int .i64 z] 43)).cell? ⟨w3.heap.size, 0, none⟩ = some (.string s) := cell_new w3 _ 43 0 rfl
              have n2 : (w3.alloc (.cells #[.string s, .int .i64 z] 43)).cell? ⟨w3.heap.size, 1, none⟩ = some (.int .i64 z) := cell_new w3 _ 43 1 rfl
              have HO4 : Hid ((w3.alloc (.cells #[.string s, .int .i64 z] 43)).ownsRow w.heap.size 43 2 (.slice A' m c') m (ensCells L)) := HO3.out.alloc _
              have HB4 : Hid (Below w.heap.size w (w3.alloc (.cells #[.string s, .int .i64 z] 43))) := HB3.out.alloc HB3.out.size _
              generalize w3.alloc (.cells #[.string s, .int .i64 z] 43) = W4 at *
              go_wp2_with (at_builtin; refine push_law rfl (.tmp 34) (.tmp 36) rfl w.heap.size W4 (.slice A' m c') L s z rfl rfl (by rw [HM.out]; exact HO4.out) (by rw [HM.out]; omega) HB4.out.size ?_; intro v' w5 hown5 hb5)
              have HO5 : Hid (w5.ownsRow w.heap.size 43 2 v' (readTo2 bl k (j + 1)).length (ensCells (readTo2 bl k (j + 1)))) := by show World.ownsRow _ _ _ _ _ _ _; rw [HN.out]; exact hown5
              clear hown5
              go_roundw
              case rel => exact ⟨j + 1, by omega, by rw [HXN.out]; go_num, HT.out, HO5.out, HB4.out.trans hb5⟩
              case measure => simp [intOf]; omega
          · obtain rfl : j = 8 := by omega
            have HY := Lib.hid (HYES.out h128 htj.out)
            rw [HRA.out] at HOWN
            rw [HRA.out]
            generalize hm : (entsAll (bl.take (k + 1))).length = m at *
            have HM := Lib.hid hm
            clear hm
            go_wp2
            go_roundw
            case rel => exact ⟨k + 1, by omega, by go_num, fun i hi => by
              rcases Nat.lt_or_ge i k with h' | h'
              · exact hok.out i h'
              · obtain rfl : i = k := by omega
                rw [HS.out]; exact HY.out, by rw [HM.out]; exact HOWN.out, HB.out⟩
            case measure => simp [intOf]; omega
      · have HF := Lib.hid (HNO.out (HSZN.out h128))
        have d1 : ((S.size : Int) == 128) = false := by simp; omega
        have d2 : ¬ (S.size : Int) = 128 := by omega
        go_wp2
        go_ret2
        exact RetR.err HF.out HB.out
    · have hkn : k = n := by omega
      subst hkn
      have e1 : bl.take k = bl := by rw [← HL.out, List.take_length]
      rw [e1] at HOWN
      have HOK2 : Hid (∀ j, j < bl.length → blkB (bl.getD j ⟨#[]⟩) = true) := fun j hj => hok.out j (by rw [← HL.out]; exact hj)
      have hfit := ents_fit HOK2.out
      have hlen := entsAll_len bl
      rw [HL.out] at hlen
      obtain ⟨A', c', rfl, hc'⟩ := own_slice HOWN.out
      have KR := Lib.hid (rightE_any A' _ c' wr.heap.size (entsAll bl) wr (EnsAt.of_own HOWN.out rfl hfit) (Nat.le_refl _) (by omega))
      clear e1 hfit hlen
      cases hr : rightR (entsAll bl) with
      | false =>
        have HF := Lib.hid (read_odd hr)
        rw [hr] at KR
        clear hr
        generalize (entsAll bl).length = m at *
        go_wp2_with fail
        refine KR.out.mono ?_
        rintro e w3 ⟨rfl, b3⟩
        have HB3 := Lib.hid (HB.out.trans (b3.mono HB.out.size))
        clear b3
        go_wp2
        go_ret2
        exact RetR.err HF.out HB3.out
      | true =>
        have HF := Lib.hid (read_yes HOK2.out hr)
        rw [hr] at KR
        clear hr
        generalize hm : (entsAll bl).length = m at *
        have HM := Lib.hid hm
        clear hm
        go_wp2_with fail
        refine KR.out.mono ?_
        rintro e w3 ⟨rfl, b3⟩
        have HB3 := Lib.hid (HB.out.trans (b3.mono HB.out.size))
        have HO3 := Lib.hid (own_below HOWN.out b3 (Nat.le_refl _))
        clear b3
        go_wp2
        go_ret2
        rw [HF.out]
        exact ⟨_, rfl, by rw [HM.out]; exact HO3.out, HB3.out⟩
end Go.Proofs.Ytmmjpdggneagdaa
