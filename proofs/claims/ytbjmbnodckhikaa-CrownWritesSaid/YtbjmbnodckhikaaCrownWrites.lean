/-
  THE LAW CrownWrites: a crown's block, or that it may not be, and the format of each file's card. It holds for every input.
-/
import Derived.Test.YtbjmbnodckhikaaKFrame
namespace Go.Proofs.Ytbjmbnodckhikaa.crownWrites
open Go.ChangeShapes Go.WideShapes Go.ChangeAt Go.RowKit
open Go.ChangeMaps (open_string shut_string)

theorem KBox.dr {W : World} {g : Nat} {f b c : Int} (h : KBox W g f b c) : KBox W.drew g f b c := h

set_option maxRecDepth 100000 in
set_option maxHeartbeats 4000000 in
theorem walk (f b c n : Int) (w : World) (_hc : I64 f ∧ I64 b ∧ I64 c) (_hn : -9223372036854775808 ≤ n ∧ n ≤ 9223372036854775807) :
    Calls Try.prog 3 #[crv f b c, .int .i64 n] w fun e w' => e = .returned (.bool true) ∧ Below w.heap.size w w' := by
  have HX0 : Hid (KBox (w.alloc (.cells (cells3 f b c) 23)) w.heap.size f b c) := KBox.new _ _ _ _
  have HB0 : Hid (Below w.heap.size w (w.alloc (.cells (cells3 f b c) 23))) := (Below.refl _ _).alloc (Nat.le_refl _) _
  have HWR := Lib.hid (fun v => write10_any f b c v)
  have HRW := Lib.hid (fun v => rwrite10_any f b c v)
  have HFM := Lib.hid (fun v => format_any f b c n v)
  have HRF := Lib.hid (fun v => rformat_any f b c n v)
  have HRT : Hid (∀ v, Calls Try.prog 11 #[crv f b c] v fun e w' => e = .returned (.bool (rightK f b c)) ∧ Below v.heap.size v w') :=
    fun v => (right_any f b c _ v rfl).mono fun e w' h => ⟨h.1, by rw [h.2]; exact (Below.refl _ _).alloc (Nat.le_refl _) _⟩
  have HRR : Hid (∀ v, Calls Try.prog 12 #[crv f b c] v fun e w' => e = .returned (.bool (rightK f b c)) ∧ Below v.heap.size v w') :=
    fun v => (rright_any f b c _ v rfl).mono fun e w' h => ⟨h.1, by rw [h.2]; exact (Below.refl _ _).alloc (Nat.le_refl _) _⟩
  unfold crv cells3 at *
  generalize rightK f b c = R at *
  generalize fmtK f b c n = M at *
  generalize (writeK f b c).1 = t at *
  generalize (writeK f b c).2 = z at *
  have q1 : (t.toList == t.toList) = true := by simp
  have q2 : (z == z) = true := by simp
  have q3 : (R == R) = true := by simp
  have q4 : (M == M) = true := by simp
  go_enter Try.func3, Try.ntmps3
  go_wp2_with fail
  refine (lives_any _).mono ?_
  rintro e w1 ⟨rfl, b1⟩
  have HX1 := Lib.hid (HX0.out.below b1 HX0.out.lt)
  have HB1 := Lib.hid (HB0.out.trans (b1.mono HB0.out.size))
  clear b1 HX0 HB0
  obtain ⟨c0, c1, c2⟩ := HX1.out.row
  go_wp2_with fail
  refine (HWR.out _).mono ?_
  rintro e w2 ⟨rfl, b2⟩
  have HX2 := Lib.hid (HX1.out.below b2 HX1.out.lt)
  have HB2 := Lib.hid (HB1.out.trans (b2.mono HB1.out.size))
  clear b2 HX1 HB1 c0 c1 c2
  obtain ⟨c0, c1, c2⟩ := HX2.out.row
  go_wp2_with fail
  refine (HRW.out _).mono ?_
  rintro e w3 ⟨rfl, b3⟩
  have HX3 := Lib.hid (HX2.out.below b3 HX2.out.lt)
  have HB3 := Lib.hid (HB2.out.trans (b3.mono HB2.out.size))
  clear b3 HX2 HB2 c0 c1 c2
  have S3 := Lib.hid HX3.out.row
  have hg3 := HX3.out.lt
  have hs3 := HB3.out.size
  go_upto_region 5 with fail
  go_region_held3 (fun v' => v'.cell? ⟨w.heap.size, 0, none⟩ = some (.int .i64 f) ∧ v'.cell? ⟨w.heap.size, 1, none⟩ = some (.int .i64 b) ∧ v'.cell? ⟨w.heap.size, 2, none⟩ = some (.int .i64 c))
    (first | exact S3.out | exact S4.out | exact S5.out | exact S6.out | exact S7.out)
    (first
      | (go_at_call 14; go_must (go_fit (HRF.out _))
         rintro e w7 ⟨rfl, b7⟩
         have HB7 := Lib.hid (HB6.out.trans (b7.mono HB6.out.size))
         have HX7 := Lib.hid (HX6.out.below b7 HX6.out.lt)
         have S7 := Lib.hid HX7.out.row
         clear b7)
      | (go_at_call 13; go_must (go_fit (HFM.out _))
         rintro e w6 ⟨rfl, b6⟩
         have HB6 := Lib.hid (HB5.out.trans (b6.mono HB5.out.size))
         have HX6 := Lib.hid (HX5.out.below b6 HX5.out.lt)
         have S6 := Lib.hid HX6.out.row
         clear b6)
      | (go_at_call 12; go_must (go_fit (HRR.out _))
         rintro e w5 ⟨rfl, b5⟩
         have HB5 := Lib.hid (HB4.out.trans (b5.mono HB4.out.size))
         have HX5 := Lib.hid (HX4.out.below b5 HX4.out.lt)
         have S5 := Lib.hid HX5.out.row
         clear b5)
      | (go_at_call 11; go_must (go_fit (HRT.out _))
         rintro e w4 ⟨rfl, b4⟩
         have HB4 := Lib.hid (HB3.out.trans (Below.und (b4.mono hs3)))
         have HX4 := Lib.hid (KBox.below (w' := w4) (KBox.dr HX3.out) b4 hg3)
         have S4 := Lib.hid HX4.out.row
         clear b4))
  all_goals
    clear S3 S4 S5 S6 S7
    go_wp2
    go_ret
    exact ⟨rfl, HB7.out⟩


set_option maxRecDepth 100000 in
theorem lifted (os : Os) (started : os.Started) (H : Type) (enc : TypeId × Value → H) :
    ReturnsInHanded {} Try.checked os 3 .any (Rows.crownWritesSpec.pre6 enc Try.prog Try.f3 Rows.crownWritesRow.domain false) (Rows.crownWritesSpec.post enc Try.prog Try.f3 false true false false) := by
  refine returnsInHanded_of_change_sized (C := Try.checked) own started (by kernel_rfl) Try.func3
    (ChangeSpec.witness6 (enc := enc) (C := Try.checked) false ⟨#[], #[.agg #[.int .i64 0, .int .i64 0, .int .i64 0], .int .i64 0], []⟩ 8 (by kernel_rfl) (by kernel_rfl) (by kernel_rfl) (by kernel_rfl)) ?_
  intro W base args ds gs before hval0 hW hcnd hsz0 _
  have hval : ∀ (j : Nat) t v, Try.f3.params[j]? = some t → args[j]? = some v → Value.okWide Try.prog W .any base t v := hval0
  have hW' := hW
  obtain ⟨p, q, hA0, hV, rfl, hfz, hnd⟩ := hW
  have hA : DataW.TrodAll enc Try.prog W 0 (fun _ => true) true Try.f3.params.toList args.toList ds p := hA0
  rw [Try.params3] at hA hval
  obtain ⟨v0, vs0, d0, ds0, p0, q0, hargs, rfl, rfl, h0, r0⟩ := trodAll_cons hA
  obtain ⟨v1, vs1, d1, ds1, p1, q1, rfl, rfl, rfl, h1, r1⟩ := trodAll_cons r0
  obtain ⟨rfl, rfl, rfl⟩ := trodAll_nil r1
  obtain rfl : args = #[v0, v1] := by cases args; simp_all
  obtain ⟨rfl, rfl⟩ := trodVars_none hV
  have lt0 : ∀ x ∈ p0, x.block < W.heap.size := by obtain ⟨m, hm⟩ := h0; exact DataW.trod_lt m _ _ _ hm
  obtain ⟨f0, b0, c0, rfl, w0⟩ := cr_open (hval 0 23 v0 rfl rfl) h0
  obtain ⟨n1, rfl, rfl, rfl, wn1⟩ := open_int Try.underlying3 (hval 1 3 v1 rfl rfl) h1
  clear hA0 hval0
  refine (walk f0 b0 c0 n1 W w0 (i64_of_wf wn1)).mono fun e W' ⟨he, bel⟩ => ?_
  subst he
  exact ⟨_, rfl, _, _, _, [], _, [], hW', trodAll_mk1 (shut_bool Try.underlying4 _), (trodAll_cons_mk (Below.trod laidOut (by kernel_rfl) (of_decide_eq_true (by kernel_rfl)) h0 bel lt0) (trodAll_cons_mk (shut_int Try.underlying3 wn1) trodAll_mk0)), rfl, bel.frame _, fun h => by cases h⟩

theorem over : Rows.crownWritesRow.holds Try.pinned (OpenSpec.ofChange Rows.crownWritesSpec) :=
  OpenClaim.holds_of_wide 3 Try.f3 rfl rfl rfl rfl rfl rfl rfl ⟨rfl, rfl, rfl, rfl, rfl⟩ rfl rfl rfl rfl rfl (by kernel_rfl) Try.func3 (by kernel_rfl)
    (of_decide_eq_true (by kernel_rfl)) (by unfold Func.isWrapper; first | (rw [if_pos (by decide +kernel)]; kernel_rfl) | (rw [if_neg (by decide +kernel)]; exact ⟨rfl, rfl⟩))
    (fun os started H enc _ => lifted os started H enc)

end Go.Proofs.Ytbjmbnodckhikaa.crownWrites
namespace Go.Proofs.Ytbjmbnodckhikaa
theorem crownWrites_proved : Rows.CrownWritesSaid := crownWrites.over
#print axioms crownWrites_proved
end Go.Proofs.Ytbjmbnodckhikaa
