/-
  THE LAW CrownCards: no two files' cards lie in one place; all lie in the blocks 43 to 50. It holds for every input.
-/
import Derived.Test.YtbjmbnodckhikaaKFrame
namespace Go.Proofs.Ytbjmbnodckhikaa.crownCards
open Go.ChangeShapes Go.WideShapes Go.ChangeAt Go.RowKit
open Go.ChangeMaps (open_string shut_string)

theorem card_ab (n : Int) (h : inB n 0 31 = true) : ∃ A B : Int, 43 ≤ A ∧ A ≤ 50 ∧ 0 ≤ B ∧ B ≤ 3 ∧ 4 * (A - 43) + B = n ∧
    ∀ w : World, Calls Try.prog 17 #[.int .i64 n] w fun e w' => e = .returned (.tuple #[.int .i64 A, .int .i64 B, .int .i64 0]) ∧ w = w' := by
  have hb := inB_t h
  obtain ⟨k, rfl⟩ := Int.eq_ofNat_of_zero_le hb.1
  exact ⟨43 + (k : Int) / 4, (k : Int) % 4, by omega, by omega, by omega, by omega, by omega, fun w => card_ok k w (by omega)⟩

set_option maxRecDepth 100000 in
set_option maxHeartbeats 4000000 in
theorem walk (i j : Int) (w : World) (_hi : -9223372036854775808 ≤ i ∧ i ≤ 9223372036854775807) (_hj : -9223372036854775808 ≤ j ∧ j ≤ 9223372036854775807) :
    Calls Try.prog 5 #[.int .i64 i, .int .i64 j] w fun e w' => e = .returned (.bool true) ∧ Below w.heap.size w w' := by
  cases hi : inB i 0 31 with
  | false =>
    have HI := Lib.hid (fun v => card_no i v hi)
    have h := inB_f hi
    have HJ : Hid (∃ A B E : Int, ∀ w : World, Calls Try.prog 17 #[.int .i64 j] w fun e w' => e = .returned (.tuple #[.int .i64 A, .int .i64 B, .int .i64 E]) ∧ w = w') := by
      cases hj : inB j 0 31 with
      | false => exact ⟨0, 0, 5, fun v => card_no j v hj⟩
      | true =>
        obtain ⟨A, B, -, -, -, -, -, hc⟩ := card_ab j hj
        exact ⟨A, B, 0, hc⟩
    obtain ⟨A, B, E, hc⟩ := HJ.out
    have HC := Lib.hid hc
    clear hc HJ hi
    by_cases h1 : i < 0
    · have d1 : decide (i < 0) = true := by simpa using h1
      clear h
      go_enter Try.func5, Try.ntmps5
      go_wp2_with fail
      refine (lives_any _).mono ?_
      rintro e w1 ⟨rfl, b1⟩
      have HB1 := Lib.hid b1
      clear b1
      go_wp2_with fail
      refine (HI.out _).mono ?_
      rintro e w2 ⟨rfl, rfl⟩
      go_wp2_with fail
      refine (HC.out _).mono ?_
      rintro e w2 ⟨rfl, rfl⟩
      go_wp2
      go_ret
      exact ⟨rfl, HB1.out⟩
    · have d1 : decide (i < 0) = false := by simpa using h1
      have d2 : decide (31 < i) = true := by simp; omega
      clear h
      go_enter Try.func5, Try.ntmps5
      go_wp2_with fail
      refine (lives_any _).mono ?_
      rintro e w1 ⟨rfl, b1⟩
      have HB1 := Lib.hid b1
      clear b1
      go_wp2_with fail
      refine (HI.out _).mono ?_
      rintro e w2 ⟨rfl, rfl⟩
      go_wp2_with fail
      refine (HC.out _).mono ?_
      rintro e w2 ⟨rfl, rfl⟩
      go_wp2
      go_ret
      exact ⟨rfl, HB1.out⟩
  | true =>
    obtain ⟨A, B, a1, a2, a3, a4, a5, hc⟩ := card_ab i hi
    have HI := Lib.hid hc
    have hb := inB_t hi
    have d1 : decide (i < 0) = false := by simp; omega
    have d2 : decide (31 < i) = false := by simp; omega
    have d3 : decide (A < 43) = false := by simp; omega
    have d4 : decide (50 < A) = false := by simp; omega
    have d5 : decide (B < 0) = false := by simp; omega
    have d6 : decide (3 < B) = false := by simp; omega
    have d7 : (4 * (A - 43) + B != i) = false := by simpa using a5
    have A5 := Lib.hid a5
    clear hc hi a5
    cases hj : inB j 0 31 with
    | false =>
      have HC := Lib.hid (fun v => card_no j v hj)
      clear hj
      go_enter Try.func5, Try.ntmps5
      go_wp2_with fail
      refine (lives_any _).mono ?_
      rintro e w1 ⟨rfl, b1⟩
      have HB1 := Lib.hid b1
      clear b1
      go_wp2_with fail
      refine (HI.out _).mono ?_
      rintro e w2 ⟨rfl, rfl⟩
      go_wp2_with fail
      refine (HC.out _).mono ?_
      rintro e w2 ⟨rfl, rfl⟩
      go_wp2
      go_ret
      exact ⟨rfl, HB1.out⟩
    | true =>
      obtain ⟨A', B', e1, e2, e3, e4, e5, hc⟩ := card_ab j hj
      have HC := Lib.hid hc
      have A5' := Lib.hid e5
      clear hc hj e5
      by_cases hAA : A = A'
      · by_cases hBB : B = B'
        · have hij : i = j := by rw [← A5.out, ← A5'.out, hAA, hBB]
          subst hAA hBB hij
          go_enter Try.func5, Try.ntmps5
          go_wp2_with fail
          refine (lives_any _).mono ?_
          rintro e w1 ⟨rfl, b1⟩
          have HB1 := Lib.hid b1
          clear b1
          go_wp2_with fail
          refine (HI.out _).mono ?_
          rintro e w2 ⟨rfl, rfl⟩
          go_wp2_with fail
          refine (HI.out _).mono ?_
          rintro e w2 ⟨rfl, rfl⟩
          go_wp2
          go_ret
          exact ⟨rfl, HB1.out⟩
        · have q1 : (i == j) = false := by
            have := A5.out; have := A5'.out
            simp; omega
          have q3 : (B == B') = false := by simpa using hBB
          subst hAA
          clear hBB
          go_enter Try.func5, Try.ntmps5
          go_wp2_with fail
          refine (lives_any _).mono ?_
          rintro e w1 ⟨rfl, b1⟩
          have HB1 := Lib.hid b1
          clear b1
          go_wp2_with fail
          refine (HI.out _).mono ?_
          rintro e w2 ⟨rfl, rfl⟩
          go_wp2_with fail
          refine (HC.out _).mono ?_
          rintro e w2 ⟨rfl, rfl⟩
          go_wp2
          go_ret
          exact ⟨rfl, HB1.out⟩
      · have q1 : (i == j) = false := by
          have := A5.out; have := A5'.out
          simp; omega
        have q2 : (A == A') = false := by simpa using hAA
        clear hAA
        go_enter Try.func5, Try.ntmps5
        go_wp2_with fail
        refine (lives_any _).mono ?_
        rintro e w1 ⟨rfl, b1⟩
        have HB1 := Lib.hid b1
        clear b1
        go_wp2_with fail
        refine (HI.out _).mono ?_
        rintro e w2 ⟨rfl, rfl⟩
        go_wp2_with fail
        refine (HC.out _).mono ?_
        rintro e w2 ⟨rfl, rfl⟩
        go_wp2
        go_ret
        exact ⟨rfl, HB1.out⟩

set_option maxRecDepth 100000 in
theorem lifted (os : Os) (started : os.Started) (H : Type) (enc : TypeId × Value → H) :
    ReturnsInHanded {} Try.checked os 5 .any (Rows.crownCardsSpec.pre6 enc Try.prog Try.f5 Rows.crownCardsRow.domain false) (Rows.crownCardsSpec.post enc Try.prog Try.f5 false true false false) := by
  refine returnsInHanded_of_change_sized (C := Try.checked) own started (by kernel_rfl) Try.func5
    (ChangeSpec.witness6 (enc := enc) (C := Try.checked) false ⟨#[], #[.int .i64 0, .int .i64 0], []⟩ 8 (by kernel_rfl) (by kernel_rfl) (by kernel_rfl) (by kernel_rfl)) ?_
  intro W base args ds gs before hval0 hW hcnd hsz0 _
  have hval : ∀ (j : Nat) t v, Try.f5.params[j]? = some t → args[j]? = some v → Value.okWide Try.prog W .any base t v := hval0
  have hW' := hW
  obtain ⟨p, q, hA0, hV, rfl, hfz, hnd⟩ := hW
  have hA : DataW.TrodAll enc Try.prog W 0 (fun _ => true) true Try.f5.params.toList args.toList ds p := hA0
  rw [Try.params5] at hA hval
  obtain ⟨v0, vs0, d0, ds0, p0, q0, hargs, rfl, rfl, h0, r0⟩ := trodAll_cons hA
  obtain ⟨v1, vs1, d1, ds1, p1, q1, rfl, rfl, rfl, h1, r1⟩ := trodAll_cons r0
  obtain ⟨rfl, rfl, rfl⟩ := trodAll_nil r1
  obtain rfl : args = #[v0, v1] := by cases args; simp_all
  obtain ⟨rfl, rfl⟩ := trodVars_none hV
  obtain ⟨n0, rfl, rfl, rfl, wn0⟩ := open_int Try.underlying3 (hval 0 3 v0 rfl rfl) h0
  obtain ⟨n1, rfl, rfl, rfl, wn1⟩ := open_int Try.underlying3 (hval 1 3 v1 rfl rfl) h1
  clear hA0 hval0
  refine (walk n0 n1 W (i64_of_wf wn0) (i64_of_wf wn1)).mono fun e W' ⟨he, bel⟩ => ?_
  subst he
  exact ⟨_, rfl, _, _, _, [], _, [], hW', trodAll_mk1 (shut_bool Try.underlying4 _), (trodAll_cons_mk (shut_int Try.underlying3 wn0) (trodAll_cons_mk (shut_int Try.underlying3 wn1) trodAll_mk0)), rfl, bel.frame _, fun h => by cases h⟩

theorem over : Rows.crownCardsRow.holds Try.pinned (OpenSpec.ofChange Rows.crownCardsSpec) :=
  OpenClaim.holds_of_wide 5 Try.f5 rfl rfl rfl rfl rfl rfl rfl ⟨rfl, rfl, rfl, rfl, rfl⟩ rfl rfl rfl rfl rfl (by kernel_rfl) Try.func5 (by kernel_rfl)
    (of_decide_eq_true (by kernel_rfl)) (by unfold Func.isWrapper; first | (rw [if_pos (by decide +kernel)]; kernel_rfl) | (rw [if_neg (by decide +kernel)]; exact ⟨rfl, rfl⟩))
    (fun os started H enc _ => lifted os started H enc)

end Go.Proofs.Ytbjmbnodckhikaa.crownCards
namespace Go.Proofs.Ytbjmbnodckhikaa
theorem crownCards_proved : Rows.CrownCardsSaid := crownCards.over
#print axioms crownCards_proved
end Go.Proofs.Ytbjmbnodckhikaa
