/-
  PROVED: SlabNil returns true, and each argument reads afterwards as it read before. No condition.
-/
import Derived.Test.YtclfklpekkkkfaaFrame
namespace Go.Proofs.Ytclfklpekkkkfaa.slabNil
open Go.ChangeShapes Go.WideShapes Go.ChangeAt Go.RowKit
open Go.ChangeMaps (open_string shut_string)

set_option maxHeartbeats 1000000 in
theorem walk (kd i : Int) (s : ByteArray) (A : Option Addr) (n c : Nat) (w : World) (_hk : -9223372036854775808 ≤ kd ∧ kd ≤ 9223372036854775807) (_hi : -9223372036854775808 ≤ i ∧ i ≤ 9223372036854775807) (_hs : s.size ≤ 9223372036854775807) :
    Calls Try.prog 5 #[.agg #[.int .i64 kd, .int .i64 i, .string s, .slice A n c]] w fun e w' => e = .returned (.bool true) ∧ Below w.heap.size w w' := by
  have HA : Hid (Turns [] w (w.alloc (.cells #[.int .i64 kd, .int .i64 i, .string s, .slice A n c] 46))) := Turns.alloc _ _ _
  go_enter Try.func5, Try.ntmps5
  go_wp2_with fail
  refine (lives_any _).mono ?_
  rintro e w1 ⟨rfl, b1⟩
  have t1 : Turns [] (w.alloc (.cells #[.int .i64 kd, .int .i64 i, .string s, .slice A n c] 46)) w1 := Turns.of_below _ b1
  have T1 := Lib.hid (HA.out.trans t1)
  have c0 := t1.cell (a := ⟨w.heap.size, 0, none⟩) (v := .int .i64 kd) (cell_new w _ 46 _ rfl) (by simp)
  have c1 := t1.cell (a := ⟨w.heap.size, 1, none⟩) (v := .int .i64 i) (cell_new w _ 46 _ rfl) (by simp)
  have c2 := t1.cell (a := ⟨w.heap.size, 2, none⟩) (v := .string s) (cell_new w _ 46 _ rfl) (by simp)
  have c3 := t1.cell (a := ⟨w.heap.size, 3, none⟩) (v := .slice A n c) (cell_new w _ 46 _ rfl) (by simp)
  clear t1 b1
  go_wp2_with fail
  refine (does_nil kd i s A n c _).mono ?_
  rintro e w2 ⟨rfl, b2⟩
  have t2 : Turns [] w1 w2 := Turns.of_below _ b2
  have d0 := t2.cell c0 (by simp)
  have d1 := t2.cell c1 (by simp)
  have d2 := t2.cell c2 (by simp)
  have d3 := t2.cell c3 (by simp)
  have T2 := Lib.hid (T1.out.trans t2)
  clear t2 b2 c0 c1 c2 c3 T1 HA
  go_wp2_with fail
  refine (kind_any kd i s A n c _).mono ?_
  rintro e w3 ⟨rfl, b3⟩
  have t3 : Turns [] w2 w3 := Turns.of_below _ b3
  have e1 := t3.cell d1 (by simp)
  have T3 := Lib.hid (T2.out.trans t3)
  have hE : ((nilE kd == 1) == decide (kd % 4 < 2)) = true := by unfold nilE; split <;> simp_all
  clear t3 b3 d0 d1 d2 d3 T2
  generalize nilE kd = E at *
  generalize kd % 4 = K at *
  go_wp2_with (first
    | (go_at_call 16; refine (read_nil i w3).mono ?_; rintro e w4 ⟨rfl, rfl⟩)
    | (go_at_call 14; refine (image_nil w3).mono ?_; rintro e w5 ⟨rfl, b5⟩)
    | (go_at_call 15; refine (size_nil w5).mono ?_; rintro e w6 ⟨rfl, rfl⟩)
    | (go_at_call 21; refine (calls_nil w5).mono ?_; rintro e w7 ⟨rfl, rfl⟩)
    | (go_at_call 17; refine (loose_nil w5).mono ?_; rintro e w8 ⟨rfl, rfl⟩))
  go_ret
  exact ⟨rfl, (T3.out.trans (Turns.of_below _ b5)).below (Nat.le_refl _) (by simp)⟩

set_option maxRecDepth 100000 in
theorem lifted (os : Os) (started : os.Started) (H : Type) (enc : TypeId × Value → H) :
    ReturnsInHanded {} Try.checked os 5 .any (Rows.slabNilSpec.pre6 enc Try.prog Try.f5 Rows.slabNilRow.domain false) (Rows.slabNilSpec.post enc Try.prog Try.f5 false true false false) := by
  refine returnsInHanded_of_change_sized (C := Try.checked) own started (by kernel_rfl) Try.func5
    (ChangeSpec.witness6 (enc := enc) (C := Try.checked) false ⟨#[], #[.agg #[.int .i64 0, .int .i64 0, .string ByteArray.empty, .slice none 0 0]], []⟩ 8 (by kernel_rfl) (by kernel_rfl) (by kernel_rfl) (by kernel_rfl)) ?_
  intro W base args ds gs before hval0 hW hcnd hsz0 _
  have hval : ∀ (j : Nat) t v, Try.f5.params[j]? = some t → args[j]? = some v → Value.okWide Try.prog W .any base t v := hval0
  have hW' := hW
  obtain ⟨p, q, hA0, hV, rfl, hfz, hnd⟩ := hW
  have hA : DataW.TrodAll enc Try.prog W 0 (fun _ => true) true Try.f5.params.toList args.toList ds p := hA0
  rw [Try.params5] at hA hval
  obtain ⟨v0, vs0, d0, ds0, p0, q0, hargs, rfl, rfl, h0, r0⟩ := trodAll_cons hA
  obtain ⟨rfl, rfl, rfl⟩ := trodAll_nil r0
  obtain rfl : args = #[v0] := by cases args; simp_all
  obtain ⟨rfl, rfl⟩ := trodVars_none hV
  have lt0 : ∀ x ∈ p0, x.block < W.heap.size := by obtain ⟨m, hm⟩ := h0; exact DataW.trod_lt m _ _ _ hm
  obtain ⟨kd0, i0, s0, A0, n0, c0, rfl, bk0, bi0, bs0⟩ := op_open (hval 0 46 v0 rfl rfl) h0
  clear hA0 hval0
  refine (walk kd0 i0 s0 A0 n0 c0 W bk0 bi0 bs0).mono fun e W' ⟨he, bel⟩ => ?_
  subst he
  exact ⟨_, rfl, _, _, _, [], _, [], hW', trodAll_mk1 (shut_bool Try.underlying4 _), (trodAll_cons_mk (Below.trod laidOut (by kernel_rfl) (of_decide_eq_true (by kernel_rfl)) h0 bel lt0) trodAll_mk0), rfl, bel.frame _, fun h => by cases h⟩

theorem over : Rows.slabNilRow.holds Try.pinned (OpenSpec.ofChange Rows.slabNilSpec) :=
  OpenClaim.holds_of_wide 5 Try.f5 rfl rfl rfl rfl rfl rfl rfl ⟨rfl, rfl, rfl, rfl, rfl⟩ rfl rfl rfl rfl rfl (by kernel_rfl) Try.func5 (by kernel_rfl)
    (of_decide_eq_true (by kernel_rfl)) (by unfold Func.isWrapper; first | (rw [if_pos (by decide +kernel)]; kernel_rfl) | (rw [if_neg (by decide +kernel)]; exact ⟨rfl, rfl⟩))
    (fun os started H enc _ => lifted os started H enc)

end Go.Proofs.Ytclfklpekkkkfaa.slabNil
namespace Go.Proofs.Ytclfklpekkkkfaa
theorem slabNil_proved : Rows.SlabNilSaid := slabNil.over
#print axioms slabNil_proved
end Go.Proofs.Ytclfklpekkkkfaa
