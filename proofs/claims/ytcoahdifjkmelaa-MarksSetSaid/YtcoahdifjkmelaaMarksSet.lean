/-
  PROVED: 'wainwrightlaw03.MarksSet' returns true for every input (a string, an int and a bool), and its arguments read afterwards as before. Conditions: none beside those that the row itself says (the form's own reach).
-/
import Derived.Test.YtcoahdifjkmelaaFrame
namespace Go.Proofs.Ytcoahdifjkmelaa.marksSet
open Go.ChangeShapes Go.WideShapes Go.ChangeAt Go.RowKit
open Go.ChangeMaps (open_string shut_string)
set_option linter.unusedVariables false

set_option maxHeartbeats 1000000 in
theorem walk (s : ByteArray) (n : Int) (b : Bool) (w : World) (hs : s.size ≤ 140737488355328) (hn : -9223372036854775808 ≤ n ∧ n ≤ 9223372036854775807) :
    Calls Try.prog 4 #[.string s, .int .i64 n, .bool b] w fun e w' => e = .returned (.bool true) ∧ Below w.heap.size w w' := by
  have hm := early_size s
  have HE := Lib.hid (fun w' => early_any s w' (by omega))
  generalize earlyS s = m at *
  cases hx : exB m n with
  | false =>
    have HI := Lib.hid (fun w' => (isB_none hx) ▸ is_any m n w' (by omega) hn)
    have HR := Lib.hid (setR_none hx b)
    rcases exB_f hx with h | h
    · have d1 : decide (n < 0) = true := by simpa using h
      clear hx
      go_enter Try.func4, Try.ntmps4
      go_wp2_with fail
      refine (lives_any w).mono ?_
      rintro e w1 ⟨rfl, d1⟩
      have b1 := Below.drews (Below.refl w.heap.size w) d1
      clear d1
      go_wp2_with fail
      refine (HE.out w1).mono ?_
      rintro e w2 ⟨rfl, rfl⟩
      go_wp2_with fail
      refine (set_any m n b w1 (by omega) hn).mono ?_
      rintro e w3 ⟨rfl, b3⟩
      have b13 := b1.trans (b3.mono b1.size)
      clear b3
      rw [HR.out]
      go_wp2_with fail
      refine (HI.out w3).mono ?_
      rintro e w4 ⟨rfl, d4⟩
      have b14 := Below.drews b13 d4
      clear d4
      go_wp2
      go_ret
      exact ⟨rfl, b14⟩
    · have d1 : decide (n < 0) = false := by simp; omega
      have d2 : decide (8 * (m.size : Int) ≤ n) = true := by simp; omega
      clear hx h
      go_enter Try.func4, Try.ntmps4
      go_wp2_with fail
      refine (lives_any w).mono ?_
      rintro e w1 ⟨rfl, d1⟩
      have b1 := Below.drews (Below.refl w.heap.size w) d1
      clear d1
      go_wp2_with fail
      refine (HE.out w1).mono ?_
      rintro e w2 ⟨rfl, rfl⟩
      go_wp2_with fail
      refine (set_any m n b w1 (by omega) hn).mono ?_
      rintro e w3 ⟨rfl, b3⟩
      have b13 := b1.trans (b3.mono b1.size)
      clear b3
      rw [HR.out]
      go_wp2_with fail
      refine (HI.out w3).mono ?_
      rintro e w4 ⟨rfl, d4⟩
      have b14 := Below.drews b13 d4
      clear d4
      go_wp2
      go_ret
      exact ⟨rfl, b14⟩
  | true =>
    obtain ⟨h0, h1⟩ := exB_t hx
    obtain ⟨k, rfl⟩ := Int.eq_ofNat_of_zero_le h0
    have hk : k / 8 < m.size := by omega
    have d1 : decide ((k : Int) < 0) = false := by simp
    have d2 : decide (8 * (m.size : Int) ≤ (k : Int)) = false := by simp; omega
    have HR := Lib.hid (setR_nat m k b)
    have HZ := Lib.hid (size_setN m k b)
    have HB := Lib.hid (fun t => bit_setN m k t b hk)
    have HK := Lib.hid (setN_back m k b hk)
    clear hx
    generalize setN m k b = x at *
    go_enter Try.func4, Try.ntmps4
    go_wp2_with fail
    refine (lives_any w).mono ?_
    rintro e w1 ⟨rfl, d1⟩
    have b1 := Below.drews (Below.refl w.heap.size w) d1
    clear d1
    go_wp2_with fail
    refine (HE.out w1).mono ?_
    rintro e w2 ⟨rfl, rfl⟩
    go_wp2_with fail
    refine (set_any m k b w1 (by omega) hn).mono ?_
    rintro e w3 ⟨rfl, b3⟩
    have b13 := b1.trans (b3.mono b1.size)
    clear b3
    rw [HR.out]
    have hq : ((x.size : Int) != (m.size : Int)) = false := by rw [HZ.out]; simp
    have hbb : (b != b) = false := by simp
    go_wp2_with fail
    refine (is_nat b x k w3 (by rw [HZ.out]; omega) hn.2 (by rw [HB.out, if_pos rfl])).mono ?_
    rintro e w4 ⟨rfl, d4⟩
    have b14 := Below.drews b13 d4
    clear d4 b13
    go_wp2
    clear hq hbb d2
    go_loopw [8] (fun i wr => ∃ t : Nat, t ≤ 8 * m.size ∧ i = .int .i64 (t : Int) ∧ Below w.heap.size w wr) (fun i _ => 8 * m.size - (intOf i).toNat)
    case atStart => exact ⟨0, by omega, rfl, b14⟩
    case round =>
      obtain ⟨t, ht, rfl, br⟩ := hrel
      clear b14
      by_cases hlt : t < 8 * m.size
      · have h2 : (t : Int) < 8 * (m.size : Int) := by omega
        by_cases he : t = k
        · have h3 : ((t : Int) != (k : Int)) = false := by simp; omega
          clear he
          go_wp2
          go_roundw
          case rel => exact ⟨t + 1, by omega, by go_num, br⟩
          case measure => simp [intOf]; omega
        · have h3 : ((t : Int) != (k : Int)) = true := by simp; omega
          have HT : Hid (bitN x t = bitN m t) := by show _ = _; rw [HB.out, if_neg he]
          clear he
          go_wp2_with fail
          refine (is_nat (bitN m t) x t wr (by rw [HZ.out]; omega) (by omega) HT.out).mono ?_
          rintro e w5 ⟨rfl, d5⟩
          have b5 := Below.drews br d5
          clear d5
          go_wp2_with fail
          refine (is_nat (bitN m t) m t w5 (by omega) (by omega) rfl).mono ?_
          rintro e w6 ⟨rfl, d6⟩
          have b6 := Below.drews b5 d6
          clear d6
          generalize bitN m t = q at *
          have hqq : (q != q) = false := by simp
          go_wp2
          go_roundw
          case rel => exact ⟨t + 1, by omega, by go_num, b6⟩
          case measure => simp [intOf]; omega
      · have h2 : ¬ (t : Int) < 8 * (m.size : Int) := by omega
        go_wp2_with fail
        refine (is_nat (bitN m k) m k wr (by omega) hn.2 rfl).mono ?_
        rintro e w5 ⟨rfl, d5⟩
        have b5 := Below.drews br d5
        clear d5
        have HK2 : Hid (setR x k (bitN m k) = m) := by show _ = _; rw [setR_nat]; exact HK.out
        generalize bitN m k = q at *
        go_wp2_with fail
        refine (set_any x k q w5 (by rw [HZ.out]; omega) hn).mono ?_
        rintro e w6 ⟨rfl, b6⟩
        have b16 := b5.trans (b6.mono b5.size)
        rw [HK2.out]
        go_wp2
        go_ret
        exact ⟨by simp, b16⟩

set_option maxRecDepth 100000 in
theorem lifted (os : Os) (started : os.Started) (H : Type) (enc : TypeId × Value → H) :
    ReturnsInHanded {} Try.checked os 4 .any (Rows.marksSetSpec.pre6 enc Try.prog Try.f4 Rows.marksSetRow.domain false) (Rows.marksSetSpec.post enc Try.prog Try.f4 false true false false) := by
  refine returnsInHanded_of_change_sized (C := Try.checked) own started (by kernel_rfl) Try.func4
    (ChangeSpec.witness6 (enc := enc) (C := Try.checked) false ⟨#[], #[.string ByteArray.empty, .int .i64 0, .bool false], []⟩ 8 (by kernel_rfl) (by kernel_rfl) (by kernel_rfl) (by kernel_rfl)) ?_
  intro W base args ds gs before hval0 hW hcnd hsz0 _
  have hval : ∀ (j : Nat) t v, Try.f4.params[j]? = some t → args[j]? = some v → Value.okWide Try.prog W .any base t v := hval0
  have hsz : (DataW.weightsEach Try.prog (Try.f4.params.toList ++ Rows.marksSetSpec.plain.varTypes Try.prog) (ds ++ gs)).all (· ≤ reachBytes) = true := hsz0
  have hW' := hW
  obtain ⟨p, q, hA0, hV, rfl, hfz, hnd⟩ := hW
  have hA : DataW.TrodAll enc Try.prog W 0 (fun _ => true) true Try.f4.params.toList args.toList ds p := hA0
  rw [Try.params4] at hA hval hsz
  obtain ⟨v0, vs0, d0, ds0, p0, q0, hargs, rfl, rfl, h0, r0⟩ := trodAll_cons hA
  obtain ⟨v1, vs1, d1, ds1, p1, q1, rfl, rfl, rfl, h1, r1⟩ := trodAll_cons r0
  obtain ⟨v2, vs2, d2, ds2, p2, q2, rfl, rfl, rfl, h2, r2⟩ := trodAll_cons r1
  obtain ⟨rfl, rfl, rfl⟩ := trodAll_nil r2
  obtain rfl : args = #[v0, v1, v2] := by cases args; simp_all
  obtain ⟨rfl, rfl⟩ := trodVars_none hV
  obtain ⟨s0, rfl, rfl, rfl, hs0⟩ := open_string Try.underlying9 (hval 0 9 v0 rfl rfl) h0
  have b0 : s0.size ≤ 140737488355328 := by
    have := sized_string hsz (j := 0) (t := 9) rfl rfl
    rw [Array.length_toList] at this
    simp only [reachBytes] at this
    exact Nat.le_trans this (by decide)
  obtain ⟨n1, rfl, rfl, rfl, wn1⟩ := open_int Try.underlying3 (hval 1 3 v1 rfl rfl) h1
  obtain ⟨b2, rfl, rfl, rfl⟩ := open_bool Try.underlying4 (hval 2 4 v2 rfl rfl) h2
  clear hA0 hval0
  refine (walk s0 n1 b2 W b0 (i64_of_wf wn1)).mono fun e W' ⟨he, bel⟩ => ?_
  subst he
  exact ⟨_, rfl, _, _, _, [], _, [], hW', trodAll_mk1 (shut_bool Try.underlying4 _), (trodAll_cons_mk (shut_string Try.underlying9 hs0) (trodAll_cons_mk (shut_int Try.underlying3 wn1) (trodAll_cons_mk (shut_bool Try.underlying4 _) trodAll_mk0))), rfl, bel.frame _, fun h => by cases h⟩

theorem over : Rows.marksSetRow.holds Try.pinned (OpenSpec.ofChange Rows.marksSetSpec) :=
  OpenClaim.holds_of_wide 4 Try.f4 rfl rfl rfl rfl rfl rfl rfl ⟨rfl, rfl, rfl, rfl, rfl⟩ rfl rfl rfl rfl rfl (by kernel_rfl) Try.func4 (by kernel_rfl)
    (of_decide_eq_true (by kernel_rfl)) (by unfold Func.isWrapper; first | (rw [if_pos (by decide +kernel)]; kernel_rfl) | (rw [if_neg (by decide +kernel)]; exact ⟨rfl, rfl⟩))
    (fun os started H enc _ => lifted os started H enc)

end Go.Proofs.Ytcoahdifjkmelaa.marksSet
namespace Go.Proofs.Ytcoahdifjkmelaa
theorem marksSet_proved : Rows.MarksSetSaid := marksSet.over
#print axioms marksSet_proved
end Go.Proofs.Ytcoahdifjkmelaa
