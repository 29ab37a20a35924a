/-
  THE LAW DealNil: a deal that isn't there does nothing. It holds for every input.
-/
import Derived.Test.YtapjbffhihhnbaaGreatEF
set_option linter.unusedVariables false
set_option linter.unusedSimpArgs false
namespace Go.Proofs.YtapjbffhihhnbaaGreat.Dl.dealNil
open Go.ChangeShapes Go.WideShapes Go.ChangeAt Go.RowKit
open Go.ChangeMaps (open_string shut_string)
open Kr (crv KBox)

set_option maxRecDepth 100000 in
set_option maxHeartbeats 4000000 in
theorem walk {v : Value} (o : OpD) (w : World) (ho : OpAt w w.heap.size v o) :
    Calls Tryz.prog 6 #[v] w fun e w' => e = .returned (.bool true) ∧ Below w.heap.size w w' := by
  obtain ⟨A, m, l, A', m', l', rfl, hcd, hs⟩ := ho
  have HX0 : Hid (ORow (w.alloc (.cells (ocells o A m l A' m' l') 42)) w.heap.size o A m l A' m' l') := ORow.new w o A m l A' m' l'
  have HB0 : Hid (Below w.heap.size w (w.alloc (.cells (ocells o A m l A' m' l') 42))) := (Below.refl _ _).alloc (Nat.le_refl _) _
  have HNB : Hid (∀ (W : World) (o : Obj), Below W.heap.size W (W.alloc o)) := fun W o => (Below.refl _ _).alloc (Nat.le_refl _) _
  have HL := Lib.hid (fun W => lives12_any W)
  have HC := Lib.hid (fun W => crown_nil W)
  have HK := Lib.hid (fun W => card_nil o.i W)
  have HSC := Lib.hid (fun W => setcrown_nil o.f o.b o.u W)
  have HSK := Lib.hid (fun W => setcard_nil o.i o.cd A m l A' m' l' W)
  have hsz : (⟨#[]⟩ : ByteArray).size ≤ 9223372036854775807 := by decide
  unfold crv at *
  unfold zeroC at HK
  unfold ocells at HX0 HB0
  clear hcd hs
  go_enter Tryz.func6, Tryz.ntmps6
  go_wp2_with fail
  refine (HL.out _).mono ?_
  rintro e w1 ⟨rfl, b1⟩
  have HB1 := Lib.hid (HB0.out.trans (b1.mono HB0.out.size))
  have HX1 := Lib.hid (HX0.out.below b1)
  clear b1 HX0 HB0 HL
  obtain ⟨x0, x1, x2, x3, x4, x5⟩ := HX1.out.cells
  go_wp2_with (first
    | (go_at_call 19; refine (begin_none _).mono ?_; rintro e w' ⟨rfl, hw⟩; subst hw)
    | (go_at_call 20; refine (read_nil o.i _).mono ?_; rintro e w' ⟨rfl, hw⟩; subst hw)
    | (go_at_call 28; refine (HC.out _).mono ?_; rintro e w2 ⟨rfl, b2⟩
       have HB2 := Lib.hid ((HB1.out.trans (b2.mono HB1.out.size)).alloc (Nat.le_trans HB1.out.size b2.size) (.cells #[.int .i64 0, .int .i64 0, .int .i64 0] 36))
       have HX2 := Lib.hid ((HX1.out.below b2).below (HNB.out w2 (.cells #[.int .i64 0, .int .i64 0, .int .i64 0] 36)))
       clear b2 HB1 HX1 x0 x1 x2 x3 x4 x5
       obtain ⟨x0, x1, x2, x3, x4, x5⟩ := HX2.out.cells)
    | (go_at_call 24; refine (HK.out _).mono ?_; rintro e w3 ⟨rfl, b3⟩
       have HB3 := Lib.hid ((HB2.out.trans (b3.mono HB2.out.size)).alloc (Nat.le_trans HB2.out.size b3.size) (.cells #[.int .i64 0, .int .i64 0, .int .i64 0, .int .i64 0, .slice none 0 0, .int .i64 0, .int .i64 0, .slice none 0 0, .int .i64 0] 40))
       have HX3 := Lib.hid ((HX2.out.below b3).below (HNB.out w3 (.cells #[.int .i64 0, .int .i64 0, .int .i64 0, .int .i64 0, .slice none 0 0, .int .i64 0, .int .i64 0, .slice none 0 0, .int .i64 0] 40)))
       clear b3 HB2 HX2 x0 x1 x2 x3 x4 x5
       obtain ⟨x0, x1, x2, x3, x4, x5⟩ := HX3.out.cells)
    | (go_at_call 30; refine (undo_nil _).mono ?_; rintro e w' ⟨rfl, hw⟩; subst hw)
    | (go_at_call 31; refine (write_nil o.i ⟨#[]⟩ _).mono ?_; rintro e w' ⟨rfl, hw⟩; subst hw)
    | (go_at_call 27; refine (HSC.out _).mono ?_; rintro e w4 ⟨rfl, b4⟩
       have HB4 := Lib.hid (HB3.out.trans (b4.mono HB3.out.size))
       have HX4 := Lib.hid (HX3.out.below b4)
       clear b4 HB3 HX3 x0 x1 x2 x3 x4 x5
       obtain ⟨x0, x1, x2, x3, x4, x5⟩ := HX4.out.cells
       obtain ⟨y0, y1, y2, y3, y4, y5, y6, y7, y8⟩ := HX4.out.cells9)
    | (go_at_call 25; refine (HSK.out _).mono ?_; rintro e w5 ⟨rfl, b5⟩
       have HB5 := Lib.hid (HB4.out.trans (b5.mono HB4.out.size)))
    | (go_at_call 14; refine (changed_nil _).mono ?_; rintro e w' ⟨rfl, hw⟩; subst hw)
    | (go_at_call 23; refine (commit_nil _).mono ?_; rintro e w' ⟨rfl, hw⟩; subst hw))
  go_ret
  exact ⟨rfl, HB5.out⟩

set_option maxRecDepth 100000 in
theorem lifted (os : Os) (started : os.Started) (H : Type) (enc : TypeId × Value → H) :
    ReturnsInHanded {} Tryz.checked os 6 .any (Rows.dealNilSpec.pre6 enc Tryz.prog Tryz.f6 Rows.dealNilRow.domain false) (Rows.dealNilSpec.post enc Tryz.prog Tryz.f6 false true false false) := by
  refine returnsInHanded_of_change_sized (C := Tryz.checked) own started (by kernel_rfl) Tryz.func6
    (ChangeSpec.witness6 (enc := enc) (C := Tryz.checked) false ⟨#[], #[.agg #[.int .i64 0, .int .i64 0, .string ⟨#[]⟩, .int .i64 0, .int .i64 0, .int .i64 0, .int .i64 0, .int .i64 0, .int .i64 0, .int .i64 0, .slice none 0 0, .int .i64 0, .int .i64 0, .slice none 0 0, .int .i64 0]], []⟩ 8 (by kernel_rfl) (by kernel_rfl) (by kernel_rfl) (by kernel_rfl)) ?_
  intro W base args ds gs before hval0 hW hcnd hsz0 _
  have hval : ∀ (j : Nat) t v, Tryz.f6.params[j]? = some t → args[j]? = some v → Value.okWide Tryz.prog W .any base t v := hval0
  have hW' := hW
  obtain ⟨p, q, hA0, hV, rfl, hfz, hnd⟩ := hW
  have hA : DataW.TrodAll enc Tryz.prog W 0 (fun _ => true) true Tryz.f6.params.toList args.toList ds p := hA0
  rw [Tryz.params6] at hA hval
  obtain ⟨v0, vs0, d0, ds0, p0, q0, hargs, rfl, rfl, h0, r0⟩ := trodAll_cons hA
  obtain ⟨rfl, rfl, rfl⟩ := trodAll_nil r0
  obtain rfl : args = #[v0] := by cases args; simp_all
  obtain ⟨rfl, rfl⟩ := trodVars_none hV
  have lt0 : ∀ x ∈ p0, x.block < W.heap.size := by obtain ⟨m, hm⟩ := h0; exact DataW.trod_lt m _ _ _ hm
  obtain ⟨o0, -, w0⟩ := op_open (hval 0 42 v0 rfl rfl) h0
  clear hA0 hval0
  refine (walk o0 W w0).mono fun e W' ⟨he, bel⟩ => ?_
  subst he
  exact ⟨_, rfl, _, _, _, [], _, [], hW', trodAll_mk1 (shut_bool Tryz.underlying4 _), (trodAll_cons_mk (Below.trod laidOut (by kernel_rfl) (of_decide_eq_true (by kernel_rfl)) h0 bel lt0) trodAll_mk0), rfl, bel.frame _, fun h => by cases h⟩

theorem over : Rows.dealNilRow.holds Tryz.pinned (OpenSpec.ofChange Rows.dealNilSpec) :=
  OpenClaim.holds_of_wide 6 Tryz.f6 rfl rfl rfl rfl rfl rfl rfl ⟨rfl, rfl, rfl, rfl, rfl⟩ rfl rfl rfl rfl rfl (by kernel_rfl) Tryz.func6 (by kernel_rfl)
    (of_decide_eq_true (by kernel_rfl)) (by unfold Func.isWrapper; first | (rw [if_pos (by decide +kernel)]; kernel_rfl) | (rw [if_neg (by decide +kernel)]; exact ⟨rfl, rfl⟩))
    (fun os started H enc _ => lifted os started H enc)

end Go.Proofs.YtapjbffhihhnbaaGreat.Dl.dealNil
namespace Go.Proofs.YtapjbffhihhnbaaGreat
theorem dealNil_proved : Rows.DealNilSaid := Dl.dealNil.over
#print axioms dealNil_proved
end Go.Proofs.YtapjbffhihhnbaaGreat
