/-
  WALK: the reference's Load: its blocks as they read are those that Load gives. No condition.
-/
import Derived.Test.YtclfklpekkkkfaaRefAt
import Derived.Deep.RegionLaw
import Derived.Deep.CutRange
namespace Go.Proofs.Ytclfklpekkkkfaa
open Go.RowKit

theorem info4 : (Try.prog.info? 4).map (fun i => (i.zero, i.size, i.bytes)) = some (some (.bool false), 1, 1) := by kernel_rfl
theorem one_str (s : ByteArray) : ∀ u ∈ [Value.string s], u.oneCell' = true := by simp [Value.oneCell']
theorem one_bool (b : Bool) : ∀ u ∈ [Value.bool b], u.oneCell' = true := by simp [Value.oneCell']

set_option maxHeartbeats 4000000 in
theorem rload_any (A : Option Addr) (n c : Nat) (ss : List ByteArray) (w : World) (hA : StrsAt w A n ss) (hn : ss.length = n) (hsz : ∀ s, s ∈ ss → s.size ≤ 9223372036854775807) :
    Calls Try.prog 9 #[.slice A n c] w fun e w' => ∃ F N L, e = .returned (.pointer (some ⟨w.heap.size, 0, none⟩)) ∧ RefAt w' w.heap.size F N L (loadS ss).length (loadS ss).length (loadS ss).length (loadS ss) ∧ Below w.heap.size w w' := by
  obtain ⟨i9, hi9, hz90, hz91, hz92⟩ := info_parts info9
  obtain ⟨i4, hi4, hz40, hz41, hz42⟩ := info_parts info4
  obtain ⟨m, hm⟩ : ∃ m : Nat, m = min n 1000 := ⟨_, rfl⟩
  have hm1 : m ≤ 1000 := by omega
  have hm2 : m ≤ n := by omega
  obtain ⟨L0, hL0⟩ : ∃ L0, L0 = loadS ss := ⟨_, rfl⟩
  have hLl : L0.length = m := by rw [hL0]; simp [loadS]; omega
  have HL := Lib.hid hL0
  have HLl := Lib.hid hLl
  have HA := Lib.hid hA
  have Hsz := Lib.hid hsz
  have HN := Lib.hid hn
  have HMM := Lib.hid hm
  clear hL0 hLl hA hsz hn hm
  go_enter Try.func9, Try.ntmps9
  go_wp2
  go_loopw [4] (fun i wr => ∃ k : Nat, k ≤ m ∧ i = .int .i64 k ∧ ∃ F N L, RefAt wr w.heap.size F N L k k k (L0.take k) ∧ Below w.heap.size w wr) (fun i _ => m - (intOf i).toNat)
  case atStart =>
    refine ⟨0, Nat.zero_le _, rfl, .slice none 0 0, .slice none 0 0, .slice none 0 0, ⟨heap_alloc_new w _, ⟨[], World.ownsRow_nil _ _ _ _⟩, ?_, ⟨[], World.ownsRow_nil _ _ _ _⟩, Or.inl rfl⟩, (Below.refl _ _).alloc (Nat.le_refl _) _⟩
    exact World.ownsRow_nil _ _ _ _
  case round =>
    obtain ⟨k, hk, rfl, F, N, L, href, hb⟩ := hrel
    by_cases hlt : k < m
    · have hkn : (k : Int) < (n : Int) := by omega
      have hk10 : (k : Int) < 1000 := by omega
      obtain ⟨b, o, rfl, hc0⟩ := HA.out k (by omega)
      have hbl := World.block_lt_of_cell? w _ hc0
      have hkm : ss.getD k ⟨#[]⟩ ∈ ss := by
        have : k < ss.length := by rw [HN.out]; omega
        simp only [List.getD, List.getElem?_eq_getElem this, Option.getD_some]
        exact List.getElem_mem this
      have HSS := Lib.hid (Hsz.out _ hkm)
      have HLk : Hid (L0[k]? = some (wholeS (ss.getD k ⟨#[]⟩))) := by
        show _ = _
        have : k < ss.length := by rw [HN.out]; omega
        rw [HL.out]
        simp only [loadS, List.getElem?_map, List.getElem?_take_of_lt (show k < 1000 by omega), List.getElem?_eq_getElem this, Option.map_some, List.getD, Option.getD_some]
      generalize ss.getD k ⟨#[]⟩ = S at *
      have HCK := Lib.hid (fun (w' : World) (hb : Below w.heap.size w w') => (hb.cell (p := ⟨b, o + k, none⟩) hbl).trans hc0)
      have HX := Lib.hid href
      have HB := Lib.hid hb
      have hck := HCK.out wr hb
      have c0 : wr.cell? ⟨w.heap.size, 0, none⟩ = some F := href.c 0
      have HLT := Lib.hid href.lt
      clear hc0 hkm href hb
      go_upto_region 5 with fail
      go_cut [] from 7 to 53 (fun wx => ∃ F', RefAt wx w.heap.size F' N L (k + 1) k k (L0.take k) ∧ Below w.heap.size w wx)
      case first =>
        go_region_law (first
          | (refine step_append_lies _ (by rfl) _ _ 22 (by rfl) w.heap.size 9 i9 (.string ⟨#[]⟩) 1 16 Try.underlying22 hi9 hz90 hz91 hz92 rfl (by decide) F k xs (by rfl) HF2.out ⟨w2.heap.size, 0, none⟩ 1 1 [.string (wholeS S)] (by rfl) rfl (World.news_of_block (heap_alloc_new w2 _)) (one_str _) (by omega) (by unfold maxLen; omega) (by omega) HSB.out (w2.heap.size + 1) (by simp) ?_
             intro g cap w3 hown3 hgrow3 hat3 hlt3
             have c3 := hgrow3.cell c04 HNE.out.symm
             have f3 := (hgrow3.frozen_far ⟨w.heap.size, 0, none⟩ HSL.out HNE.out.symm).trans f04
             have HFIN := Lib.hid (HR2.out.firm hgrow3 hown3 (hat3.imp id (fun h => h.trans (by simp))))
             have HG3 := Lib.hid hgrow3
             clear hown3 hgrow3 hat3)
          | (go_simp
             go_at_call 12
             refine (whole_any S _ HSS.out).mono ?_
             rintro e w2 ⟨rfl, b2⟩
             have T2 : Turns [] wr w2 := ⟨b2.os, b2.tape, b2.output, b2.size, fun i hi _ => b2.block i hi⟩
             have c02 := T2.cell c0 (by simp)
             have HR2 := Lib.hid (HX.out.keptB (T2.trans (Turns.alloc _ w2 (.cells #[.string (wholeS S)] 9))))
             have c04 : (w2.alloc (.cells #[.string (wholeS S)] 9)).cell? ⟨w.heap.size, 0, none⟩ = some F := HR2.out.c 0
             have f04 := HR2.out.fz 0
             obtain ⟨xs, hF2⟩ := HR2.out.hF
             have HF2 := Lib.hid hF2
             have HNE := Lib.hid (row_ne hF2 HR2.out.hr (by decide))
             have HSL := Lib.hid HR2.out.lt
             have HSB := Lib.hid (Nat.le_of_lt HR2.out.lt)
             have HT2 := Lib.hid T2
             clear T2 hF2 b2))
        all_goals
          go_wp2_with fail
          go_meet
          case rel =>
            have hB2 : Below w.heap.size w w2 := HB.out.trans (HT2.out.below HB.out.size (by simp))
            have hBA := hB2.alloc hB2.size (.cells #[.string (wholeS S)] 9)
            have hB3 := hBA.grown HG3.out hBA.size (fun j hj => (HF2.out.lt j hj).1)
            exact ⟨_, HFIN.out, hB3.setCell (Nat.le_refl _) _⟩
      case rest =>
        obtain ⟨F', href, hb⟩ := hcut
        clear HX HB hck c0 HLT
        have HX := Lib.hid href
        have HB := Lib.hid hb
        have hck := HCK.out wc hb
        have c0 : wc.cell? ⟨w.heap.size, 1, none⟩ = some N := href.c 1
        clear href hb
        go_upto_region 6 with fail
        go_cut [] from 7 to 53 (fun wx => ∃ N', RefAt wx w.heap.size F' N' L (k + 1) (k + 1) k (L0.take (k + 1)) ∧ Below w.heap.size w wx)
        case first =>
          go_region_law (first
            | (refine step_append_lies _ (by rfl) _ _ 22 (by rfl) w.heap.size 9 i9 (.string ⟨#[]⟩) 1 16 Try.underlying22 hi9 hz90 hz91 hz92 rfl (by decide) N k ((L0.take k).map Value.string) (by rfl) HF2.out ⟨w2.heap.size, 0, none⟩ 1 1 [.string (wholeS S)] (by rfl) rfl (World.news_of_block (heap_alloc_new w2 _)) (one_str _) (by omega) (by unfold maxLen; omega) (by omega) HSB.out (w2.heap.size + 1) (by simp) ?_
               intro g cap w3 hown3 hgrow3 hat3 hlt3
               have c3 := hgrow3.cell c04 HNE.out.symm
               have f3 := (hgrow3.frozen_far ⟨w.heap.size, 1, none⟩ HSL.out HNE.out.symm).trans f04
               rw [HTK.out] at hown3
               have HFIN := Lib.hid (HR2.out.now hgrow3 hown3 (hat3.imp id (fun h => h.trans (by simp))))
               have HG3 := Lib.hid hgrow3
               clear hown3 hgrow3 hat3)
            | (go_simp
               go_at_call 12
               refine (whole_any S _ HSS.out).mono ?_
               rintro e w2 ⟨rfl, b2⟩
               have T2 : Turns [] wc w2 := ⟨b2.os, b2.tape, b2.output, b2.size, fun i hi _ => b2.block i hi⟩
               have c02 := T2.cell c0 (by simp)
               have HR2 := Lib.hid (HX.out.keptB (T2.trans (Turns.alloc _ w2 (.cells #[.string (wholeS S)] 9))))
               have c04 : (w2.alloc (.cells #[.string (wholeS S)] 9)).cell? ⟨w.heap.size, 1, none⟩ = some N := HR2.out.c 1
               have f04 := HR2.out.fz 1
               have HF2 := Lib.hid HR2.out.hN
               have HNE := Lib.hid (row_ne HF2.out HR2.out.hr (by decide))
               have HSL := Lib.hid HR2.out.lt
               have HSB := Lib.hid (Nat.le_of_lt HR2.out.lt)
               have HTK : Hid ((L0.take k).map Value.string ++ [Value.string (wholeS S)] = (L0.take (k + 1)).map Value.string) := by
                 show _ = _
                 rw [List.take_add_one, HLk.out]
                 simp
               have HT2 := Lib.hid T2
               clear T2 b2))
          all_goals
            go_wp2_with fail
            go_meet
            case rel =>
              have hB2 : Below w.heap.size w w2 := HB.out.trans (HT2.out.below HB.out.size (by simp))
              have hBA := hB2.alloc hB2.size (.cells #[.string (wholeS S)] 9)
              have hB3 := hBA.grown HG3.out hBA.size (fun j hj => (HF2.out.lt j hj).1)
              exact ⟨_, HFIN.out, hB3.setCell (Nat.le_refl _) _⟩
        case rest =>
          obtain ⟨N', href, hb⟩ := hcut
          obtain ⟨zs, hL4⟩ := href.hL
          have HL4 := Lib.hid (hL4.alloc (.cells #[.bool false] 4))
          have c2 : wc.cell? ⟨w.heap.size, 2, none⟩ = some L := href.c 2
          have HRA := Lib.hid (href.keptB (Turns.alloc _ wc (.cells #[.bool false] 4)))
          have HNE := Lib.hid (row_ne HL4.out HRA.out.hr (by decide))
          have HSB := Lib.hid (Nat.le_of_lt HRA.out.lt)
          have c24 := HRA.out.c 2
          have f24 := HRA.out.fz 2
          have HSL := Lib.hid HRA.out.lt
          have HB2 := Lib.hid hb
          clear href hb hL4 HX HB hck c0
          go_wp2_with (first
            | (at_builtin; refine wpList_append_lies _ rfl _ _ 33 rfl w.heap.size 4 i4 (.bool false) 1 1 Try.underlying33 hi4 hz40 hz41 hz42 rfl (by decide) L k zs rfl HL4.out ⟨wc.heap.size, 0, none⟩ 1 1 [.bool false] rfl rfl (World.news_of_block (heap_alloc_new wc _)) (one_bool _) (by omega) (by unfold maxLen; omega) (by omega) HSB.out (wc.heap.size + 1) (by simp) ?_
               intro g cap w3 hown3 hgrow3 hat3 hlt3
               have c3 := hgrow3.cell c24 HNE.out.symm
               have f3 := (hgrow3.frozen_far ⟨w.heap.size, 2, none⟩ HSL.out HNE.out.symm).trans f24
               have HFIN := Lib.hid (HRA.out.low hgrow3 hown3)
               have HG3 := Lib.hid hgrow3
               clear hown3 hgrow3 hat3)
            | go_in)
          go_roundw
          case rel =>
            have hBA := HB2.out.alloc HB2.out.size (.cells #[.bool false] 4)
            have hB3 := hBA.grown HG3.out hBA.size (fun j hj => (HL4.out.lt j hj).1)
            exact ⟨k + 1, by omega, by go_num, F', N', _, HFIN.out, hB3.setCell (Nat.le_refl _) _⟩
          case measure => simp [intOf]; omega
    · have HK : Hid (k = m) := by show k = m; omega
      have HM2 := HMM.out
      have HX := Lib.hid href
      have HB := Lib.hid hb
      have hend : Hid (RefAt wr w.heap.size F N L (loadS ss).length (loadS ss).length (loadS ss).length (loadS ss)) := by
        have := HX.out
        rw [HK.out, ← HLl.out, List.take_length, HL.out] at this
        exact this
      clear href hb HX
      by_cases hkn : k < n
      · have d1 : decide ((k : Int) < (n : Int)) = true := by simp; omega
        have d2 : decide ((k : Int) < 1000) = false := by simp; omega
        have d3 : decide (k < 1000) = false := by simp; omega
        go_wp2
        go_ret
        exact ⟨F, N, L, rfl, hend.out, HB.out⟩
      · have d1 : decide ((k : Int) < (n : Int)) = false := by simp; omega
        go_wp2
        go_ret
        exact ⟨F, N, L, rfl, hend.out, HB.out⟩
end Go.Proofs.Ytclfklpekkkkfaa
