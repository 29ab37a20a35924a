/-
  PROVED: 'wainwrightlaw07.RollsTell' returns true for every input (a slice of entries, a string), and its arguments read afterwards as before. Conditions: none beside those that the row itself says (the form's own reach).
-/
import Derived.Test.YtmmjpdggneagdaaEFrame
namespace Go.Proofs.Ytmmjpdggneagdaa.rollsTell
open Go.ChangeShapes Go.WideShapes Go.ChangeAt Go.RowKit
open Go.ChangeMaps (open_string shut_string)
set_option linter.unusedVariables false

set_option maxHeartbeats 8000000 in
theorem walk (A : Option Addr) (n c : Nat) (l : List En) (s : ByteArray) (w : World) (h1 : EnsAt w w.heap.size A n l ∧ n ≤ c) (hs : s.size ≤ 140737488355328) :
    Calls Try.prog 3 #[.slice A n c, .string s] w fun e w' => e = .returned (.bool true) ∧ Below w.heap.size w w' := by
  obtain ⟨hE, hnc⟩ := h1
  have HE := Lib.hid hE
  clear hE
  go_enter Try.func3, Try.ntmps3
  go_wp2_with fail
  refine (lives_any w).mono ?_
  rintro e w1 ⟨rfl, b1⟩
  have HB1 := Lib.hid b1
  have HE1 := Lib.hid (HE.out.below b1 (Nat.le_refl _))
  clear b1
  go_wp2_with fail
  refine (early_any A n c w1 hnc).mono ?_
  rintro e w2 ⟨rfl, rfl⟩
  obtain ⟨m, hm⟩ : ∃ m : Nat, m = min n 200 := ⟨_, rfl⟩
  have HEM := Lib.hid (HE1.out.take m (by omega))
  have hm2 : m ≤ 200 := by omega
  rw [← hm]
  clear hm HE1
  generalize l.take m = l2 at *
  have HL := Lib.hid HEM.out.len
  have hlv := live_len l2
  have hol := of_len l2
  rw [HL.out] at hlv hol
  have HFL := Lib.hid (live_fit HEM.out.2.1)
  have HFO := Lib.hid (of_fit HEM.out.2.1)
  have KF := Lib.hid (fun W (h : Below w.heap.size w1 W) (hw : w.heap.size ≤ W.heap.size) => find_any A m c w.heap.size l2 s W (HEM.out.below h (Nat.le_refl _)) hw (by omega))
  have KG := Lib.hid (fun W (h : Below w.heap.size w1 W) => rfind_any A m c w.heap.size l2 s W (HEM.out.below h (Nat.le_refl _)) (by omega) (by omega))
  have KR := Lib.hid (fun W (h : Below w.heap.size w1 W) (hw : w.heap.size ≤ W.heap.size) => rightE_any A m c w.heap.size l2 W (HEM.out.below h (Nat.le_refl _)) hw (by omega))
  have KS := Lib.hid (fun W (h : Below w.heap.size w1 W) (hw : w.heap.size ≤ W.heap.size) => rrightE_any A m c w.heap.size l2 W (HEM.out.below h (Nat.le_refl _)) hw (by omega))
  have KL := Lib.hid (fun W (h : Below w.heap.size w1 W) (hw : w.heap.size ≤ W.heap.size) => live_any A m c w.heap.size l2 W (HEM.out.below h (Nat.le_refl _)) hw (by omega))
  have KM := Lib.hid (fun W (h : Below w.heap.size w1 W) (hw : w.heap.size ≤ W.heap.size) => rlive_any A m c w.heap.size l2 W (HEM.out.below h (Nat.le_refl _)) hw (by omega))
  have KO := Lib.hid (fun W (h : Below w.heap.size w1 W) (hw : w.heap.size ≤ W.heap.size) => of_any A m c w.heap.size l2 W (HEM.out.below h (Nat.le_refl _)) hw (by omega))
  have KP := Lib.hid (fun W (h : Below w.heap.size w1 W) => rof_any A m c w.heap.size l2 W (HEM.out.below h (Nat.le_refl _)) (by omega))
  generalize liveR l2 = L at *
  generalize ofR l2 = O at *
  generalize (findR l2 s).1 = fz at *
  generalize (findR l2 s).2 = fb at *
  generalize rightR l2 = rb at *
  have HW1 := Lib.hid HB1.out.size
  go_wp2_with fail
  refine (KF.out w1 (Below.refl _ _) HW1.out).mono ?_
  rintro e w3 ⟨rfl, b3⟩
  have HB3 := Lib.hid (b3.mono HW1.out)
  have HW3 := Lib.hid (Nat.le_trans HW1.out b3.size)
  clear b3
  go_wp2_with fail
  refine (KG.out w3 HB3.out).mono ?_
  rintro e w4 ⟨rfl, rfl⟩
  go_wp2_with fail
  refine (KR.out w3 HB3.out HW3.out).mono ?_
  rintro e w5 ⟨rfl, b5⟩
  have HB5 := Lib.hid (HB3.out.trans (b5.mono HW3.out))
  have HW5 := Lib.hid (Nat.le_trans HW3.out b5.size)
  clear b5
  go_wp2_with fail
  refine (KS.out w5 HB5.out HW5.out).mono ?_
  rintro e w6 ⟨rfl, b6⟩
  have HB6 := Lib.hid (HB5.out.trans (b6.mono HW5.out))
  have HW6 := Lib.hid (Nat.le_trans HW5.out b6.size)
  clear b6
  go_wp2_with fail
  refine (KL.out w6 HB6.out HW6.out).mono ?_
  intro e w7 hr7
  obtain ⟨A7, c7, rfl, -, hE7, b7⟩ := hr7.ens HFL.out
  have HE7 := Lib.hid hE7
  have HB7 := Lib.hid (HB6.out.trans (b7.mono HW6.out))
  have HW7 := Lib.hid (Nat.le_trans HW6.out b7.size)
  clear b7 hr7 hE7
  go_wp2_with fail
  refine (KM.out w7 HB7.out HW7.out).mono ?_
  intro e w8 hr8
  obtain ⟨A8, c8, rfl, -, hE8, b8⟩ := hr8.ens HFL.out
  have HE8 := Lib.hid hE8
  have HE78 := Lib.hid (HE7.out.below b8 (Nat.le_refl _))
  have HB8 := Lib.hid (HB7.out.trans (b8.mono HW7.out))
  have HW8 := Lib.hid (Nat.le_trans HW7.out b8.size)
  clear b8 hr8 hE8
  go_wp2_with fail
  refine (same_any A7 A8 L.length c7 c8 _ _ L w8 HE78.out HE8.out (by omega)).mono ?_
  rintro e w9 ⟨rfl, d9⟩
  have HB9 := Lib.hid (Below.drews HB8.out d9)
  have HW9 : Hid (w.heap.size ≤ w9.heap.size) := by obtain ⟨q, rfl⟩ := d9; exact HW8.out
  clear d9
  go_wp2_with fail
  refine (KO.out w9 HB9.out HW9.out).mono ?_
  intro e w10 hr10
  obtain ⟨A10, c10, rfl, -, hE10, b10⟩ := hr10.ens HFO.out
  have HE10 := Lib.hid hE10
  have HB10 := Lib.hid (HB9.out.trans (b10.mono HW9.out))
  have HW10 := Lib.hid (Nat.le_trans HW9.out b10.size)
  clear b10 hr10 hE10
  go_wp2_with fail
  refine (KP.out w10 HB10.out).mono ?_
  intro e w11 hr11
  obtain ⟨A11, c11, rfl, -, hE11, b11⟩ := hr11.ens HFO.out
  have HE11 := Lib.hid hE11
  have HE1011 := Lib.hid (HE10.out.below b11 (Nat.le_refl _))
  have HB11 := Lib.hid (HB10.out.trans (b11.mono HW10.out))
  clear b11 hr11 hE11
  go_wp2_with fail
  refine (same_any A10 A11 O.length c10 c11 _ _ O w11 HE1011.out HE11.out (by omega)).mono ?_
  rintro e w12 ⟨rfl, d12⟩
  go_wp2
  go_ret
  exact ⟨rfl, Below.drews (HB1.out.trans HB11.out) d12⟩

set_option maxRecDepth 100000 in
theorem lifted (os : Os) (started : os.Started) (H : Type) (enc : TypeId × Value → H) :
    ReturnsInHanded {} Try.checked os 3 .any (Rows.rollsTellSpec.pre6 enc Try.prog Try.f3 Rows.rollsTellRow.domain false) (Rows.rollsTellSpec.post enc Try.prog Try.f3 false true false false) := by
  refine returnsInHanded_of_change_sized (C := Try.checked) own started (by kernel_rfl) Try.func3
    (ChangeSpec.witness6 (enc := enc) (C := Try.checked) false ⟨#[], #[.slice none 0 0, .string ByteArray.empty], []⟩ 8 (by kernel_rfl) (by kernel_rfl) (by kernel_rfl) (by kernel_rfl)) ?_
  intro W base args ds gs before hval0 hW hcnd hsz0 _
  have hval : ∀ (j : Nat) t v, Try.f3.params[j]? = some t → args[j]? = some v → Value.okWide Try.prog W .any base t v := hval0
  have hsz : (DataW.weightsEach Try.prog (Try.f3.params.toList ++ Rows.rollsTellSpec.plain.varTypes Try.prog) (ds ++ gs)).all (· ≤ reachBytes) = true := hsz0
  have hW' := hW
  obtain ⟨p, q, hA0, hV, rfl, hfz, hnd⟩ := hW
  have hA : DataW.TrodAll enc Try.prog W 0 (fun _ => true) true Try.f3.params.toList args.toList ds p := hA0
  rw [Try.params3] at hA hval hsz
  obtain ⟨v0, vs0, d0, ds0, p0, q0, hargs, rfl, rfl, h0, r0⟩ := trodAll_cons hA
  obtain ⟨v1, vs1, d1, ds1, p1, q1, rfl, rfl, rfl, h1, r1⟩ := trodAll_cons r0
  obtain ⟨rfl, rfl, rfl⟩ := trodAll_nil r1
  obtain rfl : args = #[v0, v1] := by cases args; simp_all
  obtain ⟨rfl, rfl⟩ := trodVars_none hV
  have lt0 : ∀ x ∈ p0, x.block < W.heap.size := by obtain ⟨m, hm⟩ := h0; exact DataW.trod_lt m _ _ _ hm
  obtain ⟨a0, len0, cap0, rfl⟩ := okWide_slice Try.underlying22 (hval 0 22 v0 rfl rfl)
  obtain ⟨l0, w0⟩ := ens_open h0 (fun n hn => by simpa using List.all_eq_true.1 hsz _ (DataW.weights_mem_each (j := 0) rfl rfl n hn))
  obtain ⟨s1, rfl, rfl, rfl, hs1⟩ := open_string Try.underlying9 (hval 1 9 v1 rfl rfl) h1
  have b1 : s1.size ≤ 140737488355328 := by
    have := sized_string hsz (j := 1) (t := 9) rfl rfl
    rw [Array.length_toList] at this
    simp only [reachBytes] at this
    exact Nat.le_trans this (by decide)
  clear hA0 hval0
  refine (walk a0 len0 cap0 l0 s1 W w0 b1).mono fun e W' ⟨he, bel⟩ => ?_
  subst he
  exact ⟨_, rfl, _, _, _, [], _, [], hW', trodAll_mk1 (shut_bool Try.underlying4 _), (trodAll_cons_mk (Below.trod laidOut (by kernel_rfl) (of_decide_eq_true (by kernel_rfl)) h0 bel lt0) (trodAll_cons_mk (shut_string Try.underlying9 hs1) trodAll_mk0)), rfl, bel.frame _, fun h => by cases h⟩

theorem over : Rows.rollsTellRow.holds Try.pinned (OpenSpec.ofChange Rows.rollsTellSpec) :=
  OpenClaim.holds_of_wide 3 Try.f3 rfl rfl rfl rfl rfl rfl rfl ⟨rfl, rfl, rfl, rfl, rfl⟩ rfl rfl rfl rfl rfl (by kernel_rfl) Try.func3 (by kernel_rfl)
    (of_decide_eq_true (by kernel_rfl)) (by unfold Func.isWrapper; first | (rw [if_pos (by decide +kernel)]; kernel_rfl) | (rw [if_neg (by decide +kernel)]; exact ⟨rfl, rfl⟩))
    (fun os started H enc _ => lifted os started H enc)

end Go.Proofs.Ytmmjpdggneagdaa.rollsTell
namespace Go.Proofs.Ytmmjpdggneagdaa
theorem rollsTell_proved : Rows.RollsTellSaid := rollsTell.over
#print axioms rollsTell_proved
end Go.Proofs.Ytmmjpdggneagdaa
