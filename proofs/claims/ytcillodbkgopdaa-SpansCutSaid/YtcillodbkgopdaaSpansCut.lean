/-
  PROVED: 'wainwrightlaw04.SpansCut' returns true for every input (a slice of ints, two ints), and its arguments read afterwards as before. Conditions: none beside those that the row itself says (the form's own reach).
-/
import Derived.Test.YtcillodbkgopdaaFrame
import Derived.Test.YtcillodbkgopdaaBlocks
namespace Go.Proofs.Ytcillodbkgopdaa.spansCut
open Go.ChangeShapes Go.WideShapes Go.ChangeAt Go.RowKit
set_option linter.unusedVariables false

set_option maxHeartbeats 4000000 in
theorem walk (A : Option Addr) (n c : Nat) (zs : List Int) (a b : Int) (w : World) (h1 : IntsAt w w.heap.size A n zs ∧ n ≤ c) (ha : -9223372036854775808 ≤ a ∧ a ≤ 9223372036854775807) (hb : -9223372036854775808 ≤ b ∧ b ≤ 9223372036854775807) :
    Calls Try.prog 6 #[.slice A n c, .int .i64 a, .int .i64 b] w fun e w' => e = .returned (.bool true) ∧ Below w.heap.size w w' := by
  obtain ⟨hI, hnc⟩ := h1
  have HI := Lib.hid hI
  clear hI
  go_enter Try.func6, Try.ntmps6
  go_wp2_with fail
  refine (lives_any w).mono ?_
  rintro e w1 ⟨rfl, b1⟩
  have HB1 := Lib.hid b1
  have HI1 := Lib.hid (HI.out.below b1 (Nat.le_refl _))
  clear b1
  go_wp2_with fail
  refine (early_any A n c w1 hnc).mono ?_
  rintro e w2 ⟨rfl, rfl⟩
  obtain ⟨m, hm⟩ : ∃ m : Nat, m = min n 300 := ⟨_, rfl⟩
  have HIM := Lib.hid (HI1.out.take m (by omega))
  have hm3 : m ≤ 300 := by omega
  have hmc : m ≤ c := by omega
  rw [← hm]
  clear hm
  generalize zs.take m = ys at *
  have HYL := Lib.hid HIM.out.len
  have hol : (ofR ys).length ≤ 1000 := by
    have h1 := HIM.out.len
    have h2 := ofN_len ys (min ys.length 65536)
    unfold ofR
    omega
  have HRR := Lib.hid ((inv_ofR ys (by rw [HYL.out]; omega)).right)
  go_wp2_with fail
  refine (of_any A m c w.heap.size ys w1 HIM.out HB1.out.size hmc (by omega)).mono ?_
  rintro e w2 ⟨L, cl, rfl, hcl, hL, b2⟩
  have HL := Lib.hid hL
  have HB2 := Lib.hid (HB1.out.trans (b2.mono HB1.out.size))
  have HIM2 := Lib.hid (HIM.out.below b2 HB1.out.size)
  clear b2 hL
  obtain ⟨N, hN⟩ : ∃ N : Nat, (N : Int) = min (max a 0) (m : Int) := ⟨(min (max a 0) (m : Int)).toNat, by omega⟩
  have hNm : N ≤ m := by omega
  have HN := Lib.hid hN
  have HX1 := Lib.hid (cut_of (zs := ys) (by rw [HYL.out]; omega) N (by rw [HYL.out]; exact hNm))
  have HX5 := Lib.hid (cut_twice HRR.out a b)
  have hx1l : (cutR (ofR ys) (N : Int)).length ≤ 1000 := by
    rw [HX1.out]
    have h2 := ofN_len (ys.take N) (min (ys.take N).length 65536)
    have h3 : (ys.take N).length ≤ 300 := by rw [List.length_take]; omega
    unfold ofR
    omega
  have hx4l : (cutR (ofR ys) a).length ≤ 1000 := by unfold cutR; rw [if_pos HRR.out]; have := cutGo_len a (ofR ys); omega
  have hx5l : (cutR (cutR (ofR ys) a) b).length ≤ 1000 := by rw [HX5.out]; unfold cutR; rw [if_pos HRR.out]; have := cutGo_len (min a b) (ofR ys); omega
  have K1 := Lib.hid (fun (v : World) (h : Below w2.heap.size w2 v) => cut_any L (ofR ys).length cl w2.heap.size (ofR ys) (N : Int) v (HL.out.below h (Nat.le_refl _)) h.size (by omega) (by unfold Fit; omega))
  have K2 := Lib.hid (fun (v : World) (h : Below w2.heap.size w2 v) => of_any A N c w.heap.size (ys.take N) v ((HIM2.out.below h HB2.out.size).take N hNm) (Nat.le_trans HB2.out.size h.size) (by omega) (by omega))
  rw [← HX1.out] at K2
  have K4 := Lib.hid (fun (v : World) (h : Below w2.heap.size w2 v) => cut_any L (ofR ys).length cl w2.heap.size (ofR ys) a v (HL.out.below h (Nat.le_refl _)) h.size (by omega) ha)
  have K5 := Lib.hid (fun (v : World) (E : Option Addr) (ce : Nat) (h : SpsAt v v.heap.size E (cutR (ofR ys) a).length (cutR (ofR ys) a)) => cut_any E _ ce v.heap.size _ b v h (Nat.le_refl _) (by omega) hb)
  have K6 := Lib.hid (fun (v : World) (h : Below w2.heap.size w2 v) => cut_any L (ofR ys).length cl w2.heap.size (ofR ys) (min a b) v (HL.out.below h (Nat.le_refl _)) h.size (by omega) (by unfold Fit; omega))
  rw [← HX5.out] at K6
  have BD : Hid (Below w2.heap.size w2 w2.drew) := Below.drews (Below.refl _ _) ⟨1, rfl⟩
  generalize cutR (cutR (ofR ys) a) b = X5 at *
  generalize cutR (ofR ys) a = X4 at *
  generalize cutR (ofR ys) (N : Int) = X1 at *
  clear hN HX1 HX5 HRR
  generalize (ofR ys).length = k at *
  go_upto_region 5 with fail
  go_cut [8] from 15 to 19 (fun v wx => v = .int .i64 (N : Int) ∧ wx = w2)
  case first =>
    go_wp2_with fail
    all_goals
      go_meet
      case rel =>
        refine ⟨?_, rfl⟩
        congr 1
        have := HN.out
        omega
  case rest =>
  obtain ⟨rfl, rfl⟩ := hcut
  have x1 : (0 : Int) ≤ (N : Int) := by omega
  have x2 : (N : Int) ≤ (c : Int) := by omega
  by_cases q : b < a
  · rw [show min a b = b by omega] at K6
    have q1 : decide (b < a) = true := by simpa using q
    have q2 : decide (a ≤ b) = false := by simpa using q
    go_wp2_with fail
    go_region_held3 (fun _ => True) (exact trivial)
      (first
        | (go_at_call 10
           go_fit (same_sps E5 E6 X5.length c5 c6 _ _ X5 v6 S5'.out S6.out (by omega))
           rintro e v7 ⟨rfl, d7⟩
           have B7 := Lib.hid (Below.drews B6.out d7)
           clear d7)
        | (go_at_call 19
           go_fit (K6.out v5 B5.out)
           rintro e v6 ⟨E6, c6, rfl, hc6, hE6, b6⟩
           have S6 := Lib.hid hE6
           have S5' := Lib.hid (S5.out.below b6 (Nat.le_refl _))
           have B6 := Lib.hid (B5.out.trans (b6.mono B5.out.size))
           clear hE6 b6 hc6)
        | (go_at_call 19
           go_fit (K5.out v4 E4 c4 S4.out)
           rintro e v5 ⟨E5, c5, rfl, hc5, hE5, b5⟩
           have S5 := Lib.hid hE5
           have B5 := Lib.hid (B4.out.trans (b5.mono B4.out.size))
           clear hE5 b5 hc5)
        | (go_at_call 19
           go_fit (K4.out v3 B3.out)
           rintro e v4 ⟨E4, c4, rfl, hc4, hE4, b4⟩
           have S4 := Lib.hid hE4
           have B4 := Lib.hid (B3.out.trans (b4.mono B3.out.size))
           clear hE4 b4 hc4)
        | (go_at_call 10
           go_fit (same_sps E1 E2 X1.length c1 c2 _ _ X1 v2 S1'.out S2.out (by omega))
           rintro e v3 ⟨rfl, d3⟩
           have B3 := Lib.hid (Below.drews B2.out d3)
           clear d3)
        | (go_at_call 11
           go_fit (K2.out v1 B1.out)
           rintro e v2 ⟨E2, c2, rfl, hc2, hE2, b2⟩
           have S2 := Lib.hid hE2
           have S1' := Lib.hid (S1.out.below b2 (Nat.le_refl _))
           have B2 := Lib.hid (B1.out.trans (b2.mono B1.out.size))
           clear hE2 b2 hc2)
        | (go_at_call 19
           go_fit (K1.out _ BD.out)
           rintro e v1 ⟨E1, c1, rfl, hc1, hE1, b1⟩
           have S1 := Lib.hid hE1
           have B1 := Lib.hid (BD.out.trans (b1.mono BD.out.size))
           clear hE1 b1 hc1))
    all_goals
      go_wp2
      go_ret
      exact ⟨rfl, HB2.out.trans (B7.out.mono HB2.out.size)⟩
  · have K6b := K6
    rw [show min a b = a by omega] at K6b
    rw [show min a b = (if b < a then b else a) by split <;> omega] at K6
    have q1 : decide (b < a) = false := by simpa using q
    have q2 : decide (a ≤ b) = true := by simpa using q
    have q3 : a ≤ b := by omega
    go_wp2_with fail
    go_region_held3 (fun _ => True) (exact trivial)
      (first
        | (go_at_call 10
           go_fit (same_sps E5 E6 X5.length c5 c6 _ _ X5 v6 S5'.out S6.out (by omega))
           rintro e v7 ⟨rfl, d7⟩
           have B7 := Lib.hid (Below.drews B6.out d7)
           clear d7)
        | (go_at_call 19
           go_fit (K6.out v5 B5.out)
           rintro e v6 ⟨E6, c6, rfl, hc6, hE6, b6⟩
           have S6 := Lib.hid hE6
           have S5' := Lib.hid (S5.out.below b6 (Nat.le_refl _))
           have B6 := Lib.hid (B5.out.trans (b6.mono B5.out.size))
           clear hE6 b6 hc6)
        | (go_at_call 19
           go_fit (K6b.out v5 B5.out)
           rintro e v6 ⟨E6, c6, rfl, hc6, hE6, b6⟩
           have S6 := Lib.hid hE6
           have S5' := Lib.hid (S5.out.below b6 (Nat.le_refl _))
           have B6 := Lib.hid (B5.out.trans (b6.mono B5.out.size))
           clear hE6 b6 hc6)
        | (go_at_call 19
           go_fit (K5.out v4 E4 c4 S4.out)
           rintro e v5 ⟨E5, c5, rfl, hc5, hE5, b5⟩
           have S5 := Lib.hid hE5
           have B5 := Lib.hid (B4.out.trans (b5.mono B4.out.size))
           clear hE5 b5 hc5)
        | (go_at_call 19
           go_fit (K4.out v3 B3.out)
           rintro e v4 ⟨E4, c4, rfl, hc4, hE4, b4⟩
           have S4 := Lib.hid hE4
           have B4 := Lib.hid (B3.out.trans (b4.mono B3.out.size))
           clear hE4 b4 hc4)
        | (go_at_call 10
           go_fit (same_sps E1 E2 X1.length c1 c2 _ _ X1 v2 S1'.out S2.out (by omega))
           rintro e v3 ⟨rfl, d3⟩
           have B3 := Lib.hid (Below.drews B2.out d3)
           clear d3)
        | (go_at_call 11
           go_fit (K2.out v1 B1.out)
           rintro e v2 ⟨E2, c2, rfl, hc2, hE2, b2⟩
           have S2 := Lib.hid hE2
           have S1' := Lib.hid (S1.out.below b2 (Nat.le_refl _))
           have B2 := Lib.hid (B1.out.trans (b2.mono B1.out.size))
           clear hE2 b2 hc2)
        | (go_at_call 19
           go_fit (K1.out _ BD.out)
           rintro e v1 ⟨E1, c1, rfl, hc1, hE1, b1⟩
           have S1 := Lib.hid hE1
           have B1 := Lib.hid (BD.out.trans (b1.mono BD.out.size))
           clear hE1 b1 hc1))
    all_goals
      go_wp2
      go_ret
      exact ⟨rfl, HB2.out.trans (B7.out.mono HB2.out.size)⟩

set_option maxRecDepth 100000 in
theorem lifted (os : Os) (started : os.Started) (H : Type) (enc : TypeId × Value → H) :
    ReturnsInHanded {} Try.checked os 6 .any (Rows.spansCutSpec.pre6 enc Try.prog Try.f6 Rows.spansCutRow.domain false) (Rows.spansCutSpec.post enc Try.prog Try.f6 false true false false) := by
  refine returnsInHanded_of_change_sized (C := Try.checked) own started (by kernel_rfl) Try.func6
    (ChangeSpec.witness6 (enc := enc) (C := Try.checked) false ⟨#[], #[.slice none 0 0, .int .i64 0, .int .i64 0], []⟩ 8 (by kernel_rfl) (by kernel_rfl) (by kernel_rfl) (by kernel_rfl)) ?_
  intro W base args ds gs before hval0 hW hcnd hsz0 _
  have hval : ∀ (j : Nat) t v, Try.f6.params[j]? = some t → args[j]? = some v → Value.okWide Try.prog W .any base t v := hval0
  have hW' := hW
  obtain ⟨p, q, hA0, hV, rfl, hfz, hnd⟩ := hW
  have hA : DataW.TrodAll enc Try.prog W 0 (fun _ => true) true Try.f6.params.toList args.toList ds p := hA0
  rw [Try.params6] at hA hval
  obtain ⟨v0, vs0, d0, ds0, p0, q0, hargs, rfl, rfl, h0, r0⟩ := trodAll_cons hA
  obtain ⟨v1, vs1, d1, ds1, p1, q1, rfl, rfl, rfl, h1, r1⟩ := trodAll_cons r0
  obtain ⟨v2, vs2, d2, ds2, p2, q2, rfl, rfl, rfl, h2, r2⟩ := trodAll_cons r1
  obtain ⟨rfl, rfl, rfl⟩ := trodAll_nil r2
  obtain rfl : args = #[v0, v1, v2] := by cases args; simp_all
  obtain ⟨rfl, rfl⟩ := trodVars_none hV
  have lt0 : ∀ x ∈ p0, x.block < W.heap.size := by obtain ⟨m, hm⟩ := h0; exact DataW.trod_lt m _ _ _ hm
  obtain ⟨a0, len0, cap0, rfl⟩ := okWide_slice Try.underlying22 (hval 0 22 v0 rfl rfl)
  obtain ⟨l0, w0⟩ := ints_open h0
  obtain ⟨n1, rfl, rfl, rfl, wn1⟩ := open_int Try.underlying3 (hval 1 3 v1 rfl rfl) h1
  obtain ⟨n2, rfl, rfl, rfl, wn2⟩ := open_int Try.underlying3 (hval 2 3 v2 rfl rfl) h2
  clear hA0 hval0
  refine (walk a0 len0 cap0 l0 n1 n2 W w0 (i64_of_wf wn1) (i64_of_wf wn2)).mono fun e W' ⟨he, bel⟩ => ?_
  subst he
  exact ⟨_, rfl, _, _, _, [], _, [], hW', trodAll_mk1 (shut_bool Try.underlying4 _), (trodAll_cons_mk (Below.trod laidOut (by kernel_rfl) (of_decide_eq_true (by kernel_rfl)) h0 bel lt0) (trodAll_cons_mk (shut_int Try.underlying3 wn1) (trodAll_cons_mk (shut_int Try.underlying3 wn2) trodAll_mk0))), rfl, bel.frame _, fun h => by cases h⟩

theorem over : Rows.spansCutRow.holds Try.pinned (OpenSpec.ofChange Rows.spansCutSpec) :=
  OpenClaim.holds_of_wide 6 Try.f6 rfl rfl rfl rfl rfl rfl rfl ⟨rfl, rfl, rfl, rfl, rfl⟩ rfl rfl rfl rfl rfl (by kernel_rfl) Try.func6 (by kernel_rfl)
    (of_decide_eq_true (by kernel_rfl)) (by unfold Func.isWrapper; first | (rw [if_pos (by decide +kernel)]; kernel_rfl) | (rw [if_neg (by decide +kernel)]; exact ⟨rfl, rfl⟩))
    (fun os started H enc _ => lifted os started H enc)

end Go.Proofs.Ytcillodbkgopdaa.spansCut
namespace Go.Proofs.Ytcillodbkgopdaa
theorem spansCut_proved : Rows.SpansCutSaid := spansCut.over
#print axioms spansCut_proved
end Go.Proofs.Ytcillodbkgopdaa
