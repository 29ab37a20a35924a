/-
  THE LAW CrownWay: on the way, up or down, the files below the cursor are of the second format, the others of the first; else all of one. It holds for every input.
-/
import Derived.Test.YtbjmbnodckhikaaKFrame
namespace Go.Proofs.Ytbjmbnodckhikaa.crownWay
open Go.ChangeShapes Go.WideShapes Go.ChangeAt Go.RowKit
open Go.ChangeMaps (open_string shut_string)

set_option maxRecDepth 100000 in
set_option maxHeartbeats 4000000 in
theorem walk (f b c n : Int) (w : World) (_hc : I64 f ∧ I64 b ∧ I64 c) (_hn : -9223372036854775808 ≤ n ∧ n ≤ 9223372036854775807) :
    Calls Try.prog 7 #[crv f b c, .int .i64 n] w fun e w' => e = .returned (.bool true) ∧ Below w.heap.size w w' := by
  have HX0 : Hid (KBox (w.alloc (.cells (cells3 f b c) 23)) w.heap.size f b c) := KBox.new _ _ _ _
  have HB0 : Hid (Below w.heap.size w (w.alloc (.cells (cells3 f b c) 23))) := (Below.refl _ _).alloc (Nat.le_refl _) _
  have HFM := Lib.hid (fun v => format_any f b c n v)
  have HRT := Lib.hid (fun v => right_any f b c _ v rfl)
  unfold crv cells3 at *
  cases hr : rightK f b c with
  | false =>
    have HF := Lib.hid (fmtK_no (n := n) (fun h => by rw [hr] at h; cases h.1 : ¬ (rightK f b c = true ∧ inB n 0 31 = true)))
    rw [hr] at HRT
    rw [HF.out] at HFM
    clear hr
    go_enter Try.func7, Try.ntmps7
    go_wp2_with fail
    refine (lives_any _).mono ?_
    rintro e w1 ⟨rfl, b1⟩
    have HX1 := Lib.hid (HX0.out.below b1 HX0.out.lt)
    have HB1 := Lib.hid (HB0.out.trans (b1.mono HB0.out.size))
    clear b1 HX0 HB0
    obtain ⟨c0, c1, c2⟩ := HX1.out.row
    go_wp2_with fail
    refine (HFM.out _).mono ?_
    rintro e w2 ⟨rfl, b2⟩
    have HX2 := Lib.hid (HX1.out.below b2 HX1.out.lt)
    have HB2 := Lib.hid (HB1.out.trans (b2.mono HB1.out.size))
    clear b2 HX1 HB1 c0 c1 c2
    obtain ⟨c0, c1, c2⟩ := HX2.out.row
    go_wp2_with fail
    refine (HRT.out _).mono ?_
    rintro e w3 ⟨rfl, h3⟩
    have b3 : Below w2.heap.size w2 w3 := by rw [h3]; exact (Below.refl _ _).alloc (Nat.le_refl _) _
    have HX3 := Lib.hid (HX2.out.below b3 HX2.out.lt)
    have HB3 := Lib.hid (HB2.out.trans (b3.mono HB2.out.size))
    clear b3 h3 HX2 HB2 c0 c1 c2
    obtain ⟨c0, c1, c2⟩ := HX3.out.row
    go_wp2
    go_ret
    exact ⟨rfl, HB3.out⟩
  | true =>
    rw [hr] at HRT
    cases hn : inB n 0 31 with
    | false =>
      have HF := Lib.hid (fmtK_no (fun h => by rw [hn] at h; cases h.2 : ¬ (rightK f b c = true ∧ inB n 0 31 = true)))
      rw [HF.out] at HFM
      have h := inB_f hn
      clear hr hn
      by_cases h1 : n < 0
      · have d1 : decide (n < 0) = true := by simpa using h1
        clear h
        go_enter Try.func7, Try.ntmps7
        go_wp2_with fail
        refine (lives_any _).mono ?_
        rintro e w1 ⟨rfl, b1⟩
        have HX1 := Lib.hid (HX0.out.below b1 HX0.out.lt)
        have HB1 := Lib.hid (HB0.out.trans (b1.mono HB0.out.size))
        clear b1 HX0 HB0
        obtain ⟨c0, c1, c2⟩ := HX1.out.row
        go_wp2_with fail
        refine (HFM.out _).mono ?_
        rintro e w2 ⟨rfl, b2⟩
        have HX2 := Lib.hid (HX1.out.below b2 HX1.out.lt)
        have HB2 := Lib.hid (HB1.out.trans (b2.mono HB1.out.size))
        clear b2 HX1 HB1 c0 c1 c2
        obtain ⟨c0, c1, c2⟩ := HX2.out.row
        go_wp2_with fail
        refine (HRT.out _).mono ?_
        rintro e w3 ⟨rfl, h3⟩
        have b3 : Below w2.heap.size w2 w3 := by rw [h3]; exact (Below.refl _ _).alloc (Nat.le_refl _) _
        have HX3 := Lib.hid (HX2.out.below b3 HX2.out.lt)
        have HB3 := Lib.hid (HB2.out.trans (b3.mono HB2.out.size))
        clear b3 h3 HX2 HB2 c0 c1 c2
        obtain ⟨c0, c1, c2⟩ := HX3.out.row
        go_wp2
        go_ret
        exact ⟨rfl, HB3.out⟩
      · have d1 : decide (n < 0) = false := by simpa using h1
        have d2 : decide (31 < n) = true := by simp; omega
        clear h
        go_enter Try.func7, Try.ntmps7
        go_wp2_with fail
        refine (lives_any _).mono ?_
        rintro e w1 ⟨rfl, b1⟩
        have HX1 := Lib.hid (HX0.out.below b1 HX0.out.lt)
        have HB1 := Lib.hid (HB0.out.trans (b1.mono HB0.out.size))
        clear b1 HX0 HB0
        obtain ⟨c0, c1, c2⟩ := HX1.out.row
        go_wp2_with fail
        refine (HFM.out _).mono ?_
        rintro e w2 ⟨rfl, b2⟩
        have HX2 := Lib.hid (HX1.out.below b2 HX1.out.lt)
        have HB2 := Lib.hid (HB1.out.trans (b2.mono HB1.out.size))
        clear b2 HX1 HB1 c0 c1 c2
        obtain ⟨c0, c1, c2⟩ := HX2.out.row
        go_wp2_with fail
        refine (HRT.out _).mono ?_
        rintro e w3 ⟨rfl, h3⟩
        have b3 : Below w2.heap.size w2 w3 := by rw [h3]; exact (Below.refl _ _).alloc (Nat.le_refl _) _
        have HX3 := Lib.hid (HX2.out.below b3 HX2.out.lt)
        have HB3 := Lib.hid (HB2.out.trans (b3.mono HB2.out.size))
        clear b3 h3 HX2 HB2 c0 c1 c2
        obtain ⟨c0, c1, c2⟩ := HX3.out.row
        go_wp2
        go_ret
        exact ⟨rfl, HB3.out⟩
    | true =>
      have h := inB_t hn
      have d1 : decide (n < 0) = false := by simp; omega
      have d2 : decide (31 < n) = false := by simp; omega
      obtain ⟨-, -, h3⟩ := rightK_t hr
      by_cases h12 : f = 1 ∨ f = 2
      · have HF := Lib.hid (fmtK_12 hr hn h12)
        rw [HF.out] at HFM
        clear hr hn h3
        rcases h12 with rfl | rfl
        all_goals
          go_enter Try.func7, Try.ntmps7
          go_wp2_with fail
          refine (lives_any _).mono ?_
          rintro e w1 ⟨rfl, b1⟩
          have HX1 := Lib.hid (HX0.out.below b1 HX0.out.lt)
          have HB1 := Lib.hid (HB0.out.trans (b1.mono HB0.out.size))
          clear b1 HX0 HB0
          obtain ⟨c0, c1, c2⟩ := HX1.out.row
          go_wp2_with fail
          refine (HFM.out _).mono ?_
          rintro e w2 ⟨rfl, b2⟩
          have HX2 := Lib.hid (HX1.out.below b2 HX1.out.lt)
          have HB2 := Lib.hid (HB1.out.trans (b2.mono HB1.out.size))
          clear b2 HX1 HB1 c0 c1 c2
          obtain ⟨c0, c1, c2⟩ := HX2.out.row
          go_wp2_with fail
          refine (HRT.out _).mono ?_
          rintro e w3 ⟨rfl, h3⟩
          have b3 : Below w2.heap.size w2 w3 := by rw [h3]; exact (Below.refl _ _).alloc (Nat.le_refl _) _
          have HX3 := Lib.hid (HX2.out.below b3 HX2.out.lt)
          have HB3 := Lib.hid (HB2.out.trans (b3.mono HB2.out.size))
          clear b3 h3 HX2 HB2 c0 c1 c2
          obtain ⟨c0, c1, c2⟩ := HX3.out.row
          go_wp2
          go_ret
          exact ⟨rfl, HB3.out⟩
      · have h34 : f = 3 ∨ f = 4 := by omega
        have HF := Lib.hid (fmtK_34 hr hn h34)
        rw [HF.out] at HFM
        clear hr hn h3 h12
        by_cases hlt : n < c
        · rw [if_pos hlt] at HFM
          have d3 : decide (n < c) = true := by simpa using hlt
          have d4 : decide (c ≤ n) = false := by simp; omega
          rcases h34 with rfl | rfl
          all_goals
            go_enter Try.func7, Try.ntmps7
            go_wp2_with fail
            refine (lives_any _).mono ?_
            rintro e w1 ⟨rfl, b1⟩
            have HX1 := Lib.hid (HX0.out.below b1 HX0.out.lt)
            have HB1 := Lib.hid (HB0.out.trans (b1.mono HB0.out.size))
            clear b1 HX0 HB0
            obtain ⟨c0, c1, c2⟩ := HX1.out.row
            go_wp2_with fail
            refine (HFM.out _).mono ?_
            rintro e w2 ⟨rfl, b2⟩
            have HX2 := Lib.hid (HX1.out.below b2 HX1.out.lt)
            have HB2 := Lib.hid (HB1.out.trans (b2.mono HB1.out.size))
            clear b2 HX1 HB1 c0 c1 c2
            obtain ⟨c0, c1, c2⟩ := HX2.out.row
            go_wp2_with fail
            refine (HRT.out _).mono ?_
            rintro e w3 ⟨rfl, h3⟩
            have b3 : Below w2.heap.size w2 w3 := by rw [h3]; exact (Below.refl _ _).alloc (Nat.le_refl _) _
            have HX3 := Lib.hid (HX2.out.below b3 HX2.out.lt)
            have HB3 := Lib.hid (HB2.out.trans (b3.mono HB2.out.size))
            clear b3 h3 HX2 HB2 c0 c1 c2
            obtain ⟨c0, c1, c2⟩ := HX3.out.row
            go_wp2
            go_ret
            exact ⟨rfl, HB3.out⟩
        · rw [if_neg hlt] at HFM
          have d3 : decide (n < c) = false := by simpa using hlt
          have d4 : decide (c ≤ n) = true := by simp; omega
          rcases h34 with rfl | rfl
          all_goals
            go_enter Try.func7, Try.ntmps7
            go_wp2_with fail
            refine (lives_any _).mono ?_
            rintro e w1 ⟨rfl, b1⟩
            have HX1 := Lib.hid (HX0.out.below b1 HX0.out.lt)
            have HB1 := Lib.hid (HB0.out.trans (b1.mono HB0.out.size))
            clear b1 HX0 HB0
            obtain ⟨c0, c1, c2⟩ := HX1.out.row
            go_wp2_with fail
            refine (HFM.out _).mono ?_
            rintro e w2 ⟨rfl, b2⟩
            have HX2 := Lib.hid (HX1.out.below b2 HX1.out.lt)
            have HB2 := Lib.hid (HB1.out.trans (b2.mono HB1.out.size))
            clear b2 HX1 HB1 c0 c1 c2
            obtain ⟨c0, c1, c2⟩ := HX2.out.row
            go_wp2_with fail
            refine (HRT.out _).mono ?_
            rintro e w3 ⟨rfl, h3⟩
            have b3 : Below w2.heap.size w2 w3 := by rw [h3]; exact (Below.refl _ _).alloc (Nat.le_refl _) _
            have HX3 := Lib.hid (HX2.out.below b3 HX2.out.lt)
            have HB3 := Lib.hid (HB2.out.trans (b3.mono HB2.out.size))
            clear b3 h3 HX2 HB2 c0 c1 c2
            obtain ⟨c0, c1, c2⟩ := HX3.out.row
            go_wp2
            go_ret
            exact ⟨rfl, HB3.out⟩


set_option maxRecDepth 100000 in
theorem lifted (os : Os) (started : os.Started) (H : Type) (enc : TypeId × Value → H) :
    ReturnsInHanded {} Try.checked os 7 .any (Rows.crownWaySpec.pre6 enc Try.prog Try.f7 Rows.crownWayRow.domain false) (Rows.crownWaySpec.post enc Try.prog Try.f7 false true false false) := by
  refine returnsInHanded_of_change_sized (C := Try.checked) own started (by kernel_rfl) Try.func7
    (ChangeSpec.witness6 (enc := enc) (C := Try.checked) false ⟨#[], #[.agg #[.int .i64 0, .int .i64 0, .int .i64 0], .int .i64 0], []⟩ 8 (by kernel_rfl) (by kernel_rfl) (by kernel_rfl) (by kernel_rfl)) ?_
  intro W base args ds gs before hval0 hW hcnd hsz0 _
  have hval : ∀ (j : Nat) t v, Try.f7.params[j]? = some t → args[j]? = some v → Value.okWide Try.prog W .any base t v := hval0
  have hW' := hW
  obtain ⟨p, q, hA0, hV, rfl, hfz, hnd⟩ := hW
  have hA : DataW.TrodAll enc Try.prog W 0 (fun _ => true) true Try.f7.params.toList args.toList ds p := hA0
  rw [Try.params7] at hA hval
  obtain ⟨v0, vs0, d0, ds0, p0, q0, hargs, rfl, rfl, h0, r0⟩ := trodAll_cons hA
  obtain ⟨v1, vs1, d1, ds1, p1, q1, rfl, rfl, rfl, h1, r1⟩ := trodAll_cons r0
  obtain ⟨rfl, rfl, rfl⟩ := trodAll_nil r1
  obtain rfl : args = #[v0, v1] := by cases args; simp_all
  obtain ⟨rfl, rfl⟩ := trodVars_none hV
  have lt0 : ∀ x ∈ p0, x.block < W.heap.size := by obtain ⟨m, hm⟩ := h0; exact DataW.trod_lt m _ _ _ hm
  obtain ⟨f0, b0, c0, rfl, w0⟩ := cr_open (hval 0 23 v0 rfl rfl) h0
  obtain ⟨n1, rfl, rfl, rfl, wn1⟩ := open_int Try.underlying3 (hval 1 3 v1 rfl rfl) h1
  clear hA0 hval0
  refine (walk f0 b0 c0 n1 W w0 (i64_of_wf wn1)).mono fun e W' ⟨he, bel⟩ => ?_
  subst he
  exact ⟨_, rfl, _, _, _, [], _, [], hW', trodAll_mk1 (shut_bool Try.underlying4 _), (trodAll_cons_mk (Below.trod laidOut (by kernel_rfl) (of_decide_eq_true (by kernel_rfl)) h0 bel lt0) (trodAll_cons_mk (shut_int Try.underlying3 wn1) trodAll_mk0)), rfl, bel.frame _, fun h => by cases h⟩

theorem over : Rows.crownWayRow.holds Try.pinned (OpenSpec.ofChange Rows.crownWaySpec) :=
  OpenClaim.holds_of_wide 7 Try.f7 rfl rfl rfl rfl rfl rfl rfl ⟨rfl, rfl, rfl, rfl, rfl⟩ rfl rfl rfl rfl rfl (by kernel_rfl) Try.func7 (by kernel_rfl)
    (of_decide_eq_true (by kernel_rfl)) (by unfold Func.isWrapper; first | (rw [if_pos (by decide +kernel)]; kernel_rfl) | (rw [if_neg (by decide +kernel)]; exact ⟨rfl, rfl⟩))
    (fun os started H enc _ => lifted os started H enc)

end Go.Proofs.Ytbjmbnodckhikaa.crownWay
namespace Go.Proofs.Ytbjmbnodckhikaa
theorem crownWay_proved : Rows.CrownWaySaid := crownWay.over
#print axioms crownWay_proved
end Go.Proofs.Ytbjmbnodckhikaa
