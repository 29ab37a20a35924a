/-
  PROVED: 'wainwrightlaw08.IndexTell' returns true for every input (a slice of slices of entries, a string), and its arguments read afterwards as before. Conditions: none beside those that the row itself says (the form's own reach).
-/
import Derived.Test.YtflijnhgonigjaaPFrame
import Derived.Test.YtflijnhgonigjaaPRefFind
namespace Go.Proofs.Ytflijnhgonigjaa.indexTell
open Go.ChangeShapes Go.WideShapes Go.ChangeAt Go.RowKit
open Go.ChangeMaps (open_string shut_string)
set_option linter.unusedVariables false

set_option maxRecDepth 100000 in
set_option maxHeartbeats 8000000 in
theorem walk (A : Option Addr) (n c : Nat) (p0 : Pg) (s : ByteArray) (w : World) (h1 : PgsAt w w.heap.size A n p0 ∧ n ≤ c ∧ c ≤ maxLen) (hs : s.size ≤ 140737488355328) :
    Calls Try.prog 3 #[.slice A n c, .string s] w fun e w' => e = .returned (.bool true) ∧ Below w.heap.size w w' := by
  obtain ⟨hP0, hnc, hcm⟩ := h1
  have HE := Lib.hid (fun W (hW : Below w.heap.size w W) => early_any A n c w.heap.size p0 W (hP0.below hW (Nat.le_refl _)) hW.size (by omega))
  clear hP0
  have hel := earlyP_len p0
  have hml : ∀ l ∈ earlyP p0, l.length ≤ 100000 := fun l hl => Nat.le_trans (earlyP_mem p0 l hl) (by omega)
  have hfl := earlyP_flat p0
  generalize earlyP p0 = p at *
  go_enter Try.func3, Try.ntmps3
  go_wp2_with fail
  refine (lives_any w).mono ?_
  rintro e w1 ⟨rfl, b1⟩
  go_wp2_with fail
  refine (HE.out w1 b1).mono ?_
  rintro e w2 ⟨A2, c2, rfl, hc2, hP, b2⟩
  have HB2 := Lib.hid (b1.trans (b2.mono b1.size))
  have K1 := Lib.hid (fun W (h : Below w2.heap.size w2 W) => find_any A2 p.length c2 w2.heap.size p s W (hP.below h (Nat.le_refl _)) h.size (by omega) hml)
  have K2 := Lib.hid (fun W (h : Below w2.heap.size w2 W) => rfind_anyP A2 p.length c2 w2.heap.size p s W (hP.below h (Nat.le_refl _)) h.size (by omega) (by omega))
  have K3 := Lib.hid (fun W (h : Below w2.heap.size w2 W) => rall_any A2 p.length c2 w2.heap.size p W (hP.below h (Nat.le_refl _)) h.size (by omega) (by omega))
  have K4 := Lib.hid (fun W (h : Below w2.heap.size w2 W) => iright_any A2 p.length c2 w2.heap.size p W (hP.below h (Nat.le_refl _)) h.size (by omega) hml)
  have K5 := Lib.hid (fun W (h : Below w2.heap.size w2 W) => rright_anyP A2 p.length c2 w2.heap.size p W (hP.below h (Nat.le_refl _)) h.size (by omega) (by omega))
  have K6 := Lib.hid (fun W (h : Below w2.heap.size w2 W) => all_any A2 p.length c2 w2.heap.size p W (hP.below h (Nat.le_refl _)) h.size (by omega) (by omega))
  have HFT := Lib.hid hP.fit
  clear hP b1 b2 hel hml HE
  generalize findP p s = F at *
  obtain ⟨fz, fb⟩ := F
  simp only at K1 K2
  generalize rightP p = rp at *
  generalize p.flatten = l at *
  generalize p.length = m at *
  go_wp2_with fail
  refine (K1.out w2 (Below.refl _ _)).mono ?_
  rintro e w3 ⟨rfl, b3⟩
  have B3 := Lib.hid b3
  clear b3
  go_wp2_with fail
  refine (K2.out w3 B3.out).mono ?_
  rintro e w4 ⟨rfl, b4⟩
  have B4 := Lib.hid (B3.out.trans (b4.mono B3.out.size))
  clear b4
  go_wp2_with fail
  refine (K3.out w4 B4.out).mono ?_
  intro e w5 hr5
  obtain ⟨A5, c5, rfl, hc5, hE5, b5⟩ := hr5.ens HFT.out
  have HE5 := Lib.hid hE5
  have B5 := Lib.hid (B4.out.trans (b5.mono B4.out.size))
  clear hr5 hE5 b5
  generalize hlm : l.length = lm at *
  have HLM := Lib.hid hlm
  clear hlm
  go_wp2_with fail
  refine (K4.out w5 B5.out).mono ?_
  rintro e w6 ⟨rfl, b6⟩
  have B6 := Lib.hid (B5.out.trans (b6.mono B5.out.size))
  have B56 := Lib.hid b6
  clear b6
  go_wp2_with fail
  refine (K5.out w6 B6.out).mono ?_
  rintro e w7 ⟨rfl, b7⟩
  have B7 := Lib.hid (B6.out.trans (b7.mono B6.out.size))
  have B57 := Lib.hid (B56.out.trans (b7.mono B56.out.size))
  clear b7
  go_wp2_with fail
  refine (K6.out w7 B7.out).mono ?_
  intro e w8 hr8
  obtain ⟨A8, c8, rfl, hc8, hE8, b8⟩ := hr8.ens HFT.out
  have HE8 := Lib.hid hE8
  have B8 := Lib.hid (B7.out.trans (b8.mono B7.out.size))
  have B58 := Lib.hid (B57.out.trans (b8.mono B57.out.size))
  clear hr8 hE8 b8
  rw [HLM.out]
  rw [HLM.out] at HE8
  have HS := Lib.hid (same_any A8 A5 lm c8 c5 _ _ l w8 HE8.out (HE5.out.below B58.out (Nat.le_refl _)) (by omega))
  go_wp2_with fail
  refine HS.out.mono ?_
  rintro e w9 ⟨rfl, d9⟩
  have B9 := Lib.hid (Below.drews B8.out d9)
  have B59 := Lib.hid (Below.drews B58.out d9)
  clear d9 HS
  have K7 := Lib.hid (fun W (h : Below w5.heap.size w5 W) => iof_any A5 lm c5 w5.heap.size l W (HE5.out.below h (Nat.le_refl _)) h.size (by omega) hc5)
  have K8 := Lib.hid (fun W (h : Below w5.heap.size w5 W) => rof_any A5 lm c5 w5.heap.size l W (HE5.out.below h (Nat.le_refl _)) h.size (by omega) hc5)
  go_wp2_with fail
  refine (K7.out w9 B59.out).mono ?_
  rintro e w10 ⟨A10, c10, rfl, hc10, hP10, b10⟩
  have HP10 := Lib.hid hP10
  have B10 := Lib.hid (B9.out.trans (b10.mono B9.out.size))
  have B510 := Lib.hid (B59.out.trans (b10.mono B59.out.size))
  clear hP10 b10
  go_wp2_with fail
  refine (K8.out w10 B510.out).mono ?_
  rintro e w11 ⟨A11, c11, rfl, hc11, hP11, b11⟩
  have HP11 := Lib.hid hP11
  have HP10' := Lib.hid (HP10.out.below b11 (Nat.le_refl _))
  have B11 := Lib.hid (B10.out.trans (b11.mono B10.out.size))
  clear hP11 b11
  have HS2 := Lib.hid (sameP_any A10 A11 (chunksL l).length c10 c11 _ _ (chunksL l) w11 HP10'.out HP11.out (by rw [chunksL_len, HLM.out]; unfold qOf; omega) (fun x hx => Nat.le_trans (chunksL_mem l x hx) (by omega)))
  generalize (chunksL l).length = qn at *
  go_wp2_with fail
  refine HS2.out.mono ?_
  rintro e w12 ⟨rfl, d12⟩
  go_wp2
  go_ret
  exact ⟨rfl, Below.drews (HB2.out.trans (B11.out.mono HB2.out.size)) d12⟩

set_option maxRecDepth 100000 in
theorem lifted (os : Os) (started : os.Started) (H : Type) (enc : TypeId × Value → H) :
    ReturnsInHanded {} Try.checked os 3 .any (Rows.indexTellSpec.pre6 enc Try.prog Try.f3 Rows.indexTellRow.domain false) (Rows.indexTellSpec.post enc Try.prog Try.f3 false true false false) := by
  refine returnsInHanded_of_change_sized (C := Try.checked) own started (by kernel_rfl) Try.func3
    (ChangeSpec.witness6 (enc := enc) (C := Try.checked) false ⟨#[], #[.slice none 0 0, .string ByteArray.empty], []⟩ 8 (by kernel_rfl) (by kernel_rfl) (by kernel_rfl) (by kernel_rfl)) ?_
  intro W base args ds gs before hval0 hW hcnd hsz0 _
  have hval : ∀ (j : Nat) t v, Try.f3.params[j]? = some t → args[j]? = some v → Value.okWide Try.prog W .any base t v := hval0
  have hsz : (DataW.weightsEach Try.prog (Try.f3.params.toList ++ Rows.indexTellSpec.plain.varTypes Try.prog) (ds ++ gs)).all (· ≤ reachBytes) = true := hsz0
  have hW' := hW
  obtain ⟨p, q, hA0, hV, rfl, hfz, hnd⟩ := hW
  have hA : DataW.TrodAll enc Try.prog W 0 (fun _ => true) true Try.f3.params.toList args.toList ds p := hA0
  rw [Try.params3] at hA hval hsz
  obtain ⟨v0, vs0, d0, ds0, p0, q0, hargs, rfl, rfl, h0, r0⟩ := trodAll_cons hA
  obtain ⟨v1, vs1, d1, ds1, p1, q1, rfl, rfl, rfl, h1, r1⟩ := trodAll_cons r0
  obtain ⟨rfl, rfl, rfl⟩ := trodAll_nil r1
  obtain rfl : args = #[v0, v1] := by cases args; simp_all
  obtain ⟨rfl, rfl⟩ := trodVars_none hV
  have lt0 : ∀ x ∈ p0, x.block < W.heap.size := by obtain ⟨m, hm⟩ := h0; exact DataW.trod_lt m _ _ _ hm
  obtain ⟨a0, len0, cap0, rfl⟩ := okWide_slice Try.underlying22 (hval 0 22 v0 rfl rfl)
  obtain ⟨l0, w0⟩ := pgs_open h0 (fun n hn => by simpa using List.all_eq_true.1 hsz _ (DataW.weights_mem_each (j := 0) rfl rfl n hn))
  obtain ⟨s1, rfl, rfl, rfl, hs1⟩ := open_string Try.underlying9 (hval 1 9 v1 rfl rfl) h1
  have b1 : s1.size ≤ 140737488355328 := by
    have := sized_string hsz (j := 1) (t := 9) rfl rfl
    rw [Array.length_toList] at this
    simp only [reachBytes] at this
    exact Nat.le_trans this (by decide)
  clear hA0 hval0
  refine (walk a0 len0 cap0 l0 s1 W w0 b1).mono fun e W' ⟨he, bel⟩ => ?_
  subst he
  exact ⟨_, rfl, _, _, _, [], _, [], hW', trodAll_mk1 (shut_bool Try.underlying4 _), (trodAll_cons_mk (Below.trod laidOut (by kernel_rfl) (of_decide_eq_true (by kernel_rfl)) h0 bel lt0) (trodAll_cons_mk (shut_string Try.underlying9 hs1) trodAll_mk0)), rfl, bel.frame _, fun h => by cases h⟩

theorem over : Rows.indexTellRow.holds Try.pinned (OpenSpec.ofChange Rows.indexTellSpec) :=
  OpenClaim.holds_of_wide 3 Try.f3 rfl rfl rfl rfl rfl rfl rfl ⟨rfl, rfl, rfl, rfl, rfl⟩ rfl rfl rfl rfl rfl (by kernel_rfl) Try.func3 (by kernel_rfl)
    (of_decide_eq_true (by kernel_rfl)) (by unfold Func.isWrapper; first | (rw [if_pos (by decide +kernel)]; kernel_rfl) | (rw [if_neg (by decide +kernel)]; exact ⟨rfl, rfl⟩))
    (fun os started H enc _ => lifted os started H enc)

end Go.Proofs.Ytflijnhgonigjaa.indexTell
namespace Go.Proofs.Ytflijnhgonigjaa
theorem indexTell_proved : Rows.IndexTellSaid := indexTell.over
#print axioms indexTell_proved
end Go.Proofs.Ytflijnhgonigjaa
