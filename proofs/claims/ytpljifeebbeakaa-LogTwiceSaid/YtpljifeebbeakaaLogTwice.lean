/-
  LogTwice: whatever a head says and whatever the blocks hold, a log that was opened is opened again without a call of the slab.
-/
import Derived.Test.YtpljifeebbeakaaLFrame
namespace Go.Proofs.Ytpljifeebbeakaa.logTwice
open Go.ChangeShapes Go.WideShapes Go.ChangeAt Go.RowKit
open Go.ChangeMaps (open_string shut_string)
open Sl (St SlabAt Turns RowAt)

set_option maxRecDepth 100000 in
set_option maxHeartbeats 4000000 in
theorem walk (h : ByteArray) (A : Option Addr) (n c : Nat) (ss : List ByteArray) (w : World) (hh : h.size ≤ 140737488355328) (hT : Sl.StrsAt w A n ss ∧ ss.length = n ∧ n ≤ c ∧ ∀ s, s ∈ ss → s.size ≤ 9223372036854775807) :
    Calls Try.prog 5 #[.string h, .slice A n c] w fun e w' => e = .returned (.bool true) ∧ Below w.heap.size w w' := by
  have _hh : h.size ≤ 9223372036854775807 := by omega
  obtain ⟨hA, hl, _, hsz⟩ := hT
  clear hh
  obtain ⟨M, hM, hmk0⟩ := Sl.make_strs 80 (by omega)
  have hmk : ∀ W : World, (Instr.makeSlice 32 (.int .i64 80) (.int .i64 80)).run Try.prog W = .ok (.slice (some ⟨W.heap.size, 0, none⟩) 80 80) (W.alloc (.cells M 9)) := hmk0
  have HROW : Hid (∀ v : World, RowAt (v.alloc (.cells M 9)) v.heap.size (mixB ss 80 0)) := fun v => rowB v _ M (by rw [mixB_0]; exact hM)
  have HLEN : Hid (∀ k, k ≤ n → k ≤ 80 → (mixB ss 80 k).length = 80) := fun k h1 h2 => mixB_len (by omega) h2
  have HSET : Hid (∀ k, k < n → k < 80 → (mixB ss 80 k).set k (ss.getD k ⟨#[]⟩) = mixB ss 80 (k + 1)) := fun k h1 h2 => mixB_set (by omega) h2
  have HMEM : Hid (∀ k, ∀ s ∈ mixB ss 80 k, s.size ≤ 9223372036854775807) := fun k => mixB_mem hsz
  have HA := Lib.hid hA
  clear hA hM hmk0 hl hsz
  go_enter Try.func5, Try.ntmps5
  go_wp2_with fail
  refine (lives_any w).mono ?_
  rintro e w1 ⟨rfl, b1⟩
  have HB1 := Lib.hid (b1.alloc b1.size (.cells M 9))
  have hsz1 := b1.size
  have HR1 := Lib.hid (HROW.out w1)
  clear b1 HROW
  go_wp2
  go_loopw [6] (fun j wr => ∃ k : Nat, k ≤ n ∧ k ≤ 80 ∧ j = .int .i64 (k : Int) ∧ RowAt wr w1.heap.size (mixB ss 80 k) ∧ Below w.heap.size w wr) (fun j _ => 80 - (intOf j).toNat)
  case atStart => exact ⟨0, by omega, by omega, rfl, HR1.out, HB1.out⟩
  case round =>
    obtain ⟨k, hk, hk2, rfl, hr, hb⟩ := hrel
    have HR := Lib.hid hr
    have HB := Lib.hid hb
    by_cases h1 : k < n ∧ k < 80
    · obtain ⟨h1, h2⟩ := h1
      have g1 : decide ((k : Int) < (n : Int)) = true := by simp [h1]
      have g2 : decide ((k : Int) < 80) = true := by simp; omega
      have y1 : (k : Int) < (n : Int) := by omega
      have y2 : (k : Int) < 80 := by omega
      have x0 : (0 : Int) ≤ (k : Int) := by omega
      obtain ⟨b, o, rfl, d0⟩ := HA.out k h1
      have e0 := bcell hb d0 (cell_lt d0)
      have hkl : k < (mixB ss 80 k).length := by rw [HLEN.out k hk hk2]; exact h2
      have c0 := hr.cell hkl
      have f0 := hr.fz k
      have HR2 : Hid (RowAt (wr.setCell ⟨w1.heap.size, k, none⟩ (.string (ss.getD k ⟨#[]⟩))) w1.heap.size (mixB ss 80 (k + 1))) := by
        show RowAt _ _ _
        rw [← HSET.out k h1 h2]; exact hr.set k _
      have HB2 : Hid (Below w.heap.size w (wr.setCell ⟨w1.heap.size, k, none⟩ (.string (ss.getD k ⟨#[]⟩)))) := hb.setCell hsz1 _
      generalize ss.getD k ⟨#[]⟩ = s at *
      generalize (mixB ss 80 k).getD k ⟨#[]⟩ = s0 at *
      clear hr hb d0 hkl
      go_wp2
      go_roundw
      case rel => exact ⟨k + 1, h1, h2, by push_cast; rfl, HR2.out, HB2.out⟩
      case measure => simp only [intOf]; omega
    · have hl1 : 1 < (mixB ss 80 k).length := by rw [HLEN.out k hk hk2]; omega
      have c0 := hr.cell hl1
      have f0 := hr.fz 1
      have HD2 : Hid (RowAt (wr.setCell ⟨w1.heap.size, 1, none⟩ (.string h)) w1.heap.size ((mixB ss 80 k).set 1 h)) := hr.set 1 h
      have HB2 : Hid (Below w.heap.size w (wr.setCell ⟨w1.heap.size, 1, none⟩ (.string h))) := hb.setCell hsz1 _
      have hD80 : ((mixB ss 80 k).set 1 h).length = 80 := by rw [List.length_set]; exact HLEN.out k hk hk2
      have hDS : ∀ s ∈ (mixB ss 80 k).set 1 h, s.size ≤ 9223372036854775807 := fun s hs => by
        rcases List.mem_or_eq_of_mem_set hs with e | e
        · exact HMEM.out k s e
        · rw [e]; exact _hh
      generalize (mixB ss 80 k).set 1 h = D2 at *
      have HLD := Lib.hid (load_calm (some ⟨w1.heap.size, 0, none⟩) 80 80 D2 (wr.setCell ⟨w1.heap.size, 1, none⟩ (.string h)) (by have := HD2.out.strs; rw [hD80] at this; exact this) hD80 (Nat.le_refl _) hDS)
      have hLL : (Sl.loadS D2).length = 80 := by rw [load_len (by omega), hD80]
      have HLL := Lib.hid hLL
      have HWW := Lib.hid (load_whole D2)
      generalize Sl.loadS D2 = D at *
      generalize (mixB ss 80 k).getD 1 ⟨#[]⟩ = s0 at *
      have g0 : (decide ((k : Int) < (n : Int)) = false ∧ ¬ (k : Int) < (n : Int)) ∨ ((decide ((k : Int) < (n : Int)) = true ∧ (k : Int) < (n : Int)) ∧ (decide ((k : Int) < 80) = false ∧ ¬ (k : Int) < 80)) := by
        by_cases h3 : k < n
        · exact Or.inr ⟨⟨by simp [h3], by omega⟩, by simp; omega, by omega⟩
        · exact Or.inl ⟨by simp; omega, by omega⟩
      clear hr hb hD80 hDS hl1 hLL HSET HMEM HLEN h1
      rcases g0 with ⟨g1, y1⟩ | ⟨⟨g1, y1⟩, g2, y2⟩
      all_goals
        go_wp2_with fail
        refine HLD.out.mono ?_
        rintro e w3 ⟨p, pd, pm, rfl, s3, hp, hpd, hpm, b3⟩
        have HB3 := Lib.hid (HB2.out.trans (b3.mono HB2.out.size))
        have OP := Lib.hid (open_any p pd pm D 0 w3 s3 HWW.out (by omega))
        have hz1 := HB2.out.size
        have h3 : p < w3.heap.size ∧ pd < w3.heap.size ∧ pm < w3.heap.size := ⟨s3.lt_p, s3.lt_d, s3.lt_m⟩
        clear s3 b3 HLD
        cases hok : okD D with
        | false =>
          have HOK := Lib.hid hok
          clear hok
          go_wp2_with fail
          refine OP.out.mono ?_
          rintro e w4 ⟨t4, _, hx, _⟩
          obtain ⟨rfl, s4⟩ := hx (by rw [HLL.out]; omega) HOK.out
          have HB4 := Lib.hid (HB3.out.trans (t4.below HB3.out.size (by simp; omega)))
          clear t4 hx s4
          go_wp2
          go_ret
          exact ⟨rfl, HB4.out⟩
        | true =>
          have HOK := Lib.hid hok
          have HW2 := Lib.hid (whole_rp HWW.out (by rw [HLL.out]; omega) hok)
          have HL2 : Hid ((rpD D).length = 80) := by show _ = _; rw [rpD_len, HLL.out]
          have HC2 : Hid (rpC D 0 ≤ 1000) := by
            obtain ⟨h40, _⟩ := hdOk_t hok
            show _ ≤ _
            unfold rpC
            rw [hdL_len]
            split <;> omega
          obtain ⟨r1, r2, r3⟩ := rp_twice (D := D) (by rw [HLL.out]; omega) hok (rpC D 0)
          have R1 := Lib.hid r1
          have R2 := Lib.hid r2
          have R3 := Lib.hid r3
          generalize rpC D 0 = C at *
          generalize rpD D = E at *
          clear hok r1 r2 r3
          go_wp2_with fail
          refine OP.out.mono ?_
          rintro e w4 ⟨t4, _, _, hx⟩
          obtain ⟨q, rfl, hq, Q4, s4⟩ := hx (by rw [HLL.out]; omega) HOK.out
          have HB4 := Lib.hid (HB3.out.trans (t4.below HB3.out.size (by simp; omega)))
          have S4 := Lib.hid s4
          have hz4 := t4.size
          have CA := Lib.hid (calls_calm p pd pm E C w4 s4)
          have IM := Lib.hid (image_calm p pd pm E C w4 s4)
          rw [HL2.out] at IM
          clear t4 hx s4 Q4 OP
          go_wp2_with fail
          refine CA.out.mono ?_
          rintro e w5 ⟨rfl, rfl⟩
          go_wp2_with fail
          refine IM.out.mono ?_
          rintro e w5 ⟨rfl, r5, b5⟩
          have HB5 := Lib.hid (HB4.out.trans (b5.mono HB4.out.size))
          have S5 := S4.out.keptB (Turns.of_below [] b5)
          have R5 := Lib.hid r5
          have hz5 := b5.size
          have OP2 := Lib.hid (open_any p pd pm E C w5 S5 HW2.out (by have := HC2.out; omega))
          clear b5 r5 S5 CA IM
          go_wp2_with fail
          refine OP2.out.mono ?_
          rintro e w6 ⟨t6, _, _, hx⟩
          obtain ⟨q', rfl, hq', Q6, s6⟩ := hx (by rw [HL2.out]; omega) R1.out
          rw [R2.out, R3.out] at s6
          have HB6 := Lib.hid (HB5.out.trans (t6.below HB5.out.size (by simp; omega)))
          have S6 := Lib.hid s6
          have R6 := Lib.hid (Sl.RowAt.turns R5.out t6 (by simp; omega))
          have CA := Lib.hid (calls_calm p pd pm E C w6 s6)
          have IM := Lib.hid (image_calm p pd pm E C w6 s6)
          rw [HL2.out] at IM
          clear t6 hx s6 Q6 OP2
          go_wp2_with fail
          refine CA.out.mono ?_
          rintro e w7 ⟨rfl, rfl⟩
          go_wp2_with fail
          refine IM.out.mono ?_
          rintro e w7 ⟨rfl, r7, b7⟩
          have HB7 := Lib.hid (HB6.out.trans (b7.mono HB6.out.size))
          have a7 := rowSs (B := w7.heap.size) (R6.out.below b7 R6.out.lt) (Nat.lt_of_lt_of_le R6.out.lt b7.size)
          have c7 := rowSs (B := w7.heap.size) r7 r7.lt
          rw [HL2.out] at a7 c7
          have SA := Lib.hid (same_any _ _ 80 80 80 80 w7.heap.size E E w7 a7 c7 (Nat.le_refl _) (by omega))
          rw [same_refl] at SA
          clear b7 r7 a7 c7 CA IM
          go_wp2_with fail
          refine SA.out.mono ?_
          rintro e w8 ⟨rfl, b8⟩
          have HB8 := Lib.hid (HB7.out.trans (b8.mono HB7.out.size))
          clear b8
          go_wp2
          go_ret
          exact ⟨rfl, HB8.out⟩
set_option maxRecDepth 100000 in
theorem lifted (os : Os) (started : os.Started) (H : Type) (enc : TypeId × Value → H) :
    ReturnsInHanded {} Try.checked os 5 .any (Rows.logTwiceSpec.pre6 enc Try.prog Try.f5 Rows.logTwiceRow.domain false) (Rows.logTwiceSpec.post enc Try.prog Try.f5 false true false false) := by
  refine returnsInHanded_of_change_sized (C := Try.checked) own started (by kernel_rfl) Try.func5
    (ChangeSpec.witness6 (enc := enc) (C := Try.checked) false ⟨#[], #[.string ByteArray.empty, .slice none 0 0], []⟩ 8 (by kernel_rfl) (by kernel_rfl) (by kernel_rfl) (by kernel_rfl)) ?_
  intro W base args ds gs before hval0 hW hcnd hsz0 _
  have hval : ∀ (j : Nat) t v, Try.f5.params[j]? = some t → args[j]? = some v → Value.okWide Try.prog W .any base t v := hval0
  have hsz : (DataW.weightsEach Try.prog (Try.f5.params.toList ++ Rows.logTwiceSpec.plain.varTypes Try.prog) (ds ++ gs)).all (· ≤ reachBytes) = true := hsz0
  have hW' := hW
  obtain ⟨p, q, hA0, hV, rfl, hfz, hnd⟩ := hW
  have hA : DataW.TrodAll enc Try.prog W 0 (fun _ => true) true Try.f5.params.toList args.toList ds p := hA0
  rw [Try.params5] at hA hval hsz
  obtain ⟨v0, vs0, d0, ds0, p0, q0, hargs, rfl, rfl, h0, r0⟩ := trodAll_cons hA
  obtain ⟨v1, vs1, d1, ds1, p1, q1, rfl, rfl, rfl, h1, r1⟩ := trodAll_cons r0
  obtain ⟨rfl, rfl, rfl⟩ := trodAll_nil r1
  obtain rfl : args = #[v0, v1] := by cases args; simp_all
  obtain ⟨rfl, rfl⟩ := trodVars_none hV
  obtain ⟨s0, rfl, rfl, rfl, hs0⟩ := open_string Try.underlying9 (hval 0 9 v0 rfl rfl) h0
  have b0 : s0.size ≤ 140737488355328 := by
    have := sized_string hsz (j := 0) (t := 9) rfl rfl
    rw [Array.length_toList] at this
    simp only [reachBytes] at this
    exact Nat.le_trans this (by decide)
  have lt1 : ∀ x ∈ p1, x.block < W.heap.size := by obtain ⟨m, hm⟩ := h1; exact DataW.trod_lt m _ _ _ hm
  obtain ⟨a1, len1, cap1, rfl⟩ := okWide_slice Try.underlying32 (hval 1 32 v1 rfl rfl)
  obtain ⟨l1, w1⟩ := strs_open h1
  clear hA0 hval0
  refine (walk s0 a1 len1 cap1 l1 W b0 w1).mono fun e W' ⟨he, bel⟩ => ?_
  subst he
  exact ⟨_, rfl, _, _, _, [], _, [], hW', trodAll_mk1 (shut_bool Try.underlying4 _), (trodAll_cons_mk (shut_string Try.underlying9 hs0) (trodAll_cons_mk (Below.trod laidOut (by kernel_rfl) (of_decide_eq_true (by kernel_rfl)) h1 bel lt1) trodAll_mk0)), rfl, bel.frame _, fun h => by cases h⟩

theorem over : Rows.logTwiceRow.holds Try.pinned (OpenSpec.ofChange Rows.logTwiceSpec) :=
  OpenClaim.holds_of_wide 5 Try.f5 rfl rfl rfl rfl rfl rfl rfl ⟨rfl, rfl, rfl, rfl, rfl⟩ rfl rfl rfl rfl rfl (by kernel_rfl) Try.func5 (by kernel_rfl)
    (of_decide_eq_true (by kernel_rfl)) (by unfold Func.isWrapper; first | (rw [if_pos (by decide +kernel)]; kernel_rfl) | (rw [if_neg (by decide +kernel)]; exact ⟨rfl, rfl⟩))
    (fun os started H enc _ => lifted os started H enc)

end Go.Proofs.Ytpljifeebbeakaa.logTwice
namespace Go.Proofs.Ytpljifeebbeakaa
theorem logTwice_proved : Rows.LogTwiceSaid := logTwice.over
#print axioms logTwice_proved
end Go.Proofs.Ytpljifeebbeakaa
