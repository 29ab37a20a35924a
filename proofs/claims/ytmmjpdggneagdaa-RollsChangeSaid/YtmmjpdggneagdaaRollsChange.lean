/-
  PROVED: 'wainwrightlaw07.RollsChange' returns true for every input (a slice of entries, a string, an int), and its arguments read afterwards as before. Conditions: none beside those that the row itself says (the form's own reach).
-/
import Derived.Test.YtmmjpdggneagdaaEFrame
namespace Go.Proofs.Ytmmjpdggneagdaa.rollsChange
open Go.ChangeShapes Go.WideShapes Go.ChangeAt Go.RowKit
open Go.ChangeMaps (open_string shut_string)
set_option linter.unusedVariables false

set_option maxHeartbeats 8000000 in
theorem walk (A : Option Addr) (n c : Nat) (l : List En) (s : ByteArray) (z : Int) (w : World) (h1 : EnsAt w w.heap.size A n l ∧ n ≤ c) (hs : s.size ≤ 140737488355328) (hz : -9223372036854775808 ≤ z ∧ z ≤ 9223372036854775807) :
    Calls Try.prog 4 #[.slice A n c, .string s, .int .i64 z] w fun e w' => e = .returned (.bool true) ∧ Below w.heap.size w w' := by
  obtain ⟨hE, hnc⟩ := h1
  have HE := Lib.hid hE
  clear hE
  go_enter Try.func4, Try.ntmps4
  go_wp2_with fail
  refine (lives_any w).mono ?_
  rintro e w1 ⟨rfl, b1⟩
  have HB1 := Lib.hid b1
  have HE1 := Lib.hid (HE.out.below b1 (Nat.le_refl _))
  clear b1
  go_wp2_with fail
  refine (early_any A n c w1 hnc).mono ?_
  rintro e w2 ⟨rfl, rfl⟩
  obtain ⟨m, hm⟩ : ∃ m : Nat, m = min n 200 := ⟨_, rfl⟩
  have HEM := Lib.hid (HE1.out.take m (by omega))
  have hm2 : m ≤ 200 := by omega
  rw [← hm]
  clear hm HE1
  generalize l.take m = l2 at *
  have HL := Lib.hid HEM.out.len
  have hal := addR_len l2 s z
  have hdl := dropR_len l2 s
  rw [HL.out] at hal hdl
  have HFA := Lib.hid (addR_fit HEM.out.2.1 hs hz)
  have HFD := Lib.hid (dropR_fit (s := s) HEM.out.2.1)
  have KA := Lib.hid (fun W (h : Below w.heap.size w1 W) (hw : w.heap.size ≤ W.heap.size) => add_any A m c w.heap.size l2 s z W (HEM.out.below h (Nat.le_refl _)) hw (by omega) hs hz)
  have KB := Lib.hid (fun W (h : Below w.heap.size w1 W) (hw : w.heap.size ≤ W.heap.size) => radd_any A m c w.heap.size l2 s z W (HEM.out.below h (Nat.le_refl _)) hw (by omega) hs hz)
  have KC := Lib.hid (fun W (h : Below w.heap.size w1 W) (hw : w.heap.size ≤ W.heap.size) => drop_any A m c w.heap.size l2 s W (HEM.out.below h (Nat.le_refl _)) hw (by omega))
  have KD := Lib.hid (fun W (h : Below w.heap.size w1 W) (hw : w.heap.size ≤ W.heap.size) => rdrop_any A m c w.heap.size l2 s W (HEM.out.below h (Nat.le_refl _)) hw (by omega) (by omega))
  generalize addR l2 s z = R at *
  generalize dropR l2 s = D at *
  obtain ⟨L, ze⟩ := R
  obtain ⟨M, zn, zf⟩ := D
  simp only at hal hdl HFA HFD
  have HW1 := Lib.hid HB1.out.size
  go_wp2_with fail
  refine (KA.out w1 (Below.refl _ _) HW1.out).mono ?_
  intro e w3 hr3
  obtain ⟨A3, c3, rfl, -, hE3, b3⟩ := hr3.ens HFA.out
  simp only at hE3 ⊢
  have HE3 := Lib.hid hE3
  have HB3 := Lib.hid (b3.mono HW1.out)
  have HW3 := Lib.hid (Nat.le_trans HW1.out b3.size)
  clear b3 hr3 hE3
  go_wp2_with fail
  refine (KB.out w3 HB3.out HW3.out).mono ?_
  intro e w4 hr4
  obtain ⟨A4, c4, rfl, -, hE4, b4⟩ := hr4.ens HFA.out
  simp only at hE4 ⊢
  have HE4 := Lib.hid (hE4.more (Nat.le_refl _))
  have HE34 := Lib.hid (HE3.out.below b4 (Nat.le_refl _))
  have HB4 := Lib.hid (HB3.out.trans (b4.mono HW3.out))
  have HW4 := Lib.hid (Nat.le_trans HW3.out b4.size)
  have HW34 := Lib.hid b4.size
  clear b4 hr4 hE4
  go_wp2_with fail
  refine (KC.out w4 HB4.out HW4.out).mono ?_
  intro e w5 hr5
  obtain ⟨A5, c5, rfl, -, hE5, b5⟩ := hr5.ens HFD.out
  simp only at hE5 ⊢
  have HE5 := Lib.hid hE5
  have HE45 := Lib.hid (HE4.out.below b5 (Nat.le_refl _))
  have HE35 := Lib.hid (HE34.out.below b5 HW34.out)
  have HB5 := Lib.hid (HB4.out.trans (b5.mono HW4.out))
  have HW5 := Lib.hid (Nat.le_trans HW4.out b5.size)
  have HW45 := Lib.hid b5.size
  clear b5 hr5 hE5
  go_wp2_with fail
  refine (KD.out w5 HB5.out HW5.out).mono ?_
  intro e w6 hr6
  obtain ⟨A6, c6, rfl, -, hE6, b6⟩ := hr6.ens HFD.out
  simp only at hE6 ⊢
  have HE6 := Lib.hid hE6
  have HE56 := Lib.hid (HE5.out.below b6 (Nat.le_refl _))
  have HE46 := Lib.hid (HE45.out.below b6 HW45.out)
  have HE36 := Lib.hid (HE35.out.below b6 (Nat.le_trans HW34.out HW45.out))
  have HB6 := Lib.hid (HB5.out.trans (b6.mono HW5.out))
  clear b6 hr6 hE6
  go_wp2_with fail
  refine (same_any A3 A4 L.length c3 c4 _ _ L w6 HE36.out HE46.out (by omega)).mono ?_
  rintro e w9 ⟨rfl, d9⟩
  have HB9 := Lib.hid (Below.drews HB6.out d9)
  have HE59 := Lib.hid (HE56.out.keep (w' := w9) (fun p _ => d9.cells p))
  have HE69 := Lib.hid (HE6.out.keep (w' := w9) (fun p _ => d9.cells p))
  clear d9
  go_wp2_with fail
  refine (same_any A5 A6 M.length c5 c6 _ _ M w9 HE59.out HE69.out (by omega)).mono ?_
  rintro e w12 ⟨rfl, d12⟩
  go_wp2
  go_ret
  exact ⟨rfl, Below.drews (HB1.out.trans HB9.out) d12⟩

set_option maxRecDepth 100000 in
theorem lifted (os : Os) (started : os.Started) (H : Type) (enc : TypeId × Value → H) :
    ReturnsInHanded {} Try.checked os 4 .any (Rows.rollsChangeSpec.pre6 enc Try.prog Try.f4 Rows.rollsChangeRow.domain false) (Rows.rollsChangeSpec.post enc Try.prog Try.f4 false true false false) := by
  refine returnsInHanded_of_change_sized (C := Try.checked) own started (by kernel_rfl) Try.func4
    (ChangeSpec.witness6 (enc := enc) (C := Try.checked) false ⟨#[], #[.slice none 0 0, .string ByteArray.empty, .int .i64 0], []⟩ 8 (by kernel_rfl) (by kernel_rfl) (by kernel_rfl) (by kernel_rfl)) ?_
  intro W base args ds gs before hval0 hW hcnd hsz0 _
  have hval : ∀ (j : Nat) t v, Try.f4.params[j]? = some t → args[j]? = some v → Value.okWide Try.prog W .any base t v := hval0
  have hsz : (DataW.weightsEach Try.prog (Try.f4.params.toList ++ Rows.rollsChangeSpec.plain.varTypes Try.prog) (ds ++ gs)).all (· ≤ reachBytes) = true := hsz0
  have hW' := hW
  obtain ⟨p, q, hA0, hV, rfl, hfz, hnd⟩ := hW
  have hA : DataW.TrodAll enc Try.prog W 0 (fun _ => true) true Try.f4.params.toList args.toList ds p := hA0
  rw [Try.params4] at hA hval hsz
  obtain ⟨v0, vs0, d0, ds0, p0, q0, hargs, rfl, rfl, h0, r0⟩ := trodAll_cons hA
  obtain ⟨v1, vs1, d1, ds1, p1, q1, rfl, rfl, rfl, h1, r1⟩ := trodAll_cons r0
  obtain ⟨v2, vs2, d2, ds2, p2, q2, rfl, rfl, rfl, h2, r2⟩ := trodAll_cons r1
  obtain ⟨rfl, rfl, rfl⟩ := trodAll_nil r2
  obtain rfl : args = #[v0, v1, v2] := by cases args; simp_all
  obtain ⟨rfl, rfl⟩ := trodVars_none hV
  have lt0 : ∀ x ∈ p0, x.block < W.heap.size := by obtain ⟨m, hm⟩ := h0; exact DataW.trod_lt m _ _ _ hm
  obtain ⟨a0, len0, cap0, rfl⟩ := okWide_slice Try.underlying22 (hval 0 22 v0 rfl rfl)
  obtain ⟨l0, w0⟩ := ens_open h0 (fun n hn => by simpa using List.all_eq_true.1 hsz _ (DataW.weights_mem_each (j := 0) rfl rfl n hn))
  obtain ⟨s1, rfl, rfl, rfl, hs1⟩ := open_string Try.underlying9 (hval 1 9 v1 rfl rfl) h1
  have b1 : s1.size ≤ 140737488355328 := by
    have := sized_string hsz (j := 1) (t := 9) rfl rfl
    rw [Array.length_toList] at this
    simp only [reachBytes] at this
    exact Nat.le_trans this (by decide)
  obtain ⟨n2, rfl, rfl, rfl, wn2⟩ := open_int Try.underlying3 (hval 2 3 v2 rfl rfl) h2
  clear hA0 hval0
  refine (walk a0 len0 cap0 l0 s1 n2 W w0 b1 (i64_of_wf wn2)).mono fun e W' ⟨he, bel⟩ => ?_
  subst he
  exact ⟨_, rfl, _, _, _, [], _, [], hW', trodAll_mk1 (shut_bool Try.underlying4 _), (trodAll_cons_mk (Below.trod laidOut (by kernel_rfl) (of_decide_eq_true (by kernel_rfl)) h0 bel lt0) (trodAll_cons_mk (shut_string Try.underlying9 hs1) (trodAll_cons_mk (shut_int Try.underlying3 wn2) trodAll_mk0))), rfl, bel.frame _, fun h => by cases h⟩

theorem over : Rows.rollsChangeRow.holds Try.pinned (OpenSpec.ofChange Rows.rollsChangeSpec) :=
  OpenClaim.holds_of_wide 4 Try.f4 rfl rfl rfl rfl rfl rfl rfl ⟨rfl, rfl, rfl, rfl, rfl⟩ rfl rfl rfl rfl rfl (by kernel_rfl) Try.func4 (by kernel_rfl)
    (of_decide_eq_true (by kernel_rfl)) (by unfold Func.isWrapper; first | (rw [if_pos (by decide +kernel)]; kernel_rfl) | (rw [if_neg (by decide +kernel)]; exact ⟨rfl, rfl⟩))
    (fun os started H enc _ => lifted os started H enc)

end Go.Proofs.Ytmmjpdggneagdaa.rollsChange
namespace Go.Proofs.Ytmmjpdggneagdaa
theorem rollsChange_proved : Rows.RollsChangeSaid := rollsChange.over
#print axioms rollsChange_proved
end Go.Proofs.Ytmmjpdggneagdaa
