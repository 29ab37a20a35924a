/-
  PROVED: 'wainwrightlaw08.IndexChange' returns true for every input (a slice of slices of entries, a string, an int), and its arguments read afterwards as before. Conditions: none beside those that the row itself says (the form's own reach).
-/
import Derived.Test.YtflijnhgonigjaaPFrame
import Derived.Test.YtflijnhgonigjaaPRBoth
namespace Go.Proofs.Ytflijnhgonigjaa.indexChange
open Go.ChangeShapes Go.WideShapes Go.ChangeAt Go.RowKit
open Go.ChangeMaps (open_string shut_string)
set_option linter.unusedVariables false

set_option maxRecDepth 100000 in
set_option maxHeartbeats 8000000 in
theorem walk (A : Option Addr) (n c : Nat) (p0 : Pg) (s : ByteArray) (z : Int) (w : World) (h1 : PgsAt w w.heap.size A n p0 ∧ n ≤ c ∧ c ≤ maxLen) (hs : s.size ≤ 140737488355328) (hz : -9223372036854775808 ≤ z ∧ z ≤ 9223372036854775807) :
    Calls Try.prog 4 #[.slice A n c, .string s, .int .i64 z] w fun e w' => e = .returned (.bool true) ∧ Below w.heap.size w w' := by
  obtain ⟨hP0, hnc, hcm⟩ := h1
  have HE := Lib.hid (fun W (hW : Below w.heap.size w W) => early_any A n c w.heap.size p0 W (hP0.below hW (Nat.le_refl _)) hW.size (by omega))
  clear hP0
  have hel := earlyP_len p0
  have hfl := earlyP_flat p0
  generalize earlyP p0 = p at *
  go_enter Try.func4, Try.ntmps4
  go_wp2_with fail
  refine (lives_any w).mono ?_
  rintro e w1 ⟨rfl, b1⟩
  go_wp2_with fail
  refine (HE.out w1 b1).mono ?_
  rintro e w2 ⟨A2, c2, rfl, hc2, hP, b2⟩
  have HB2 := Lib.hid (b1.trans (b2.mono b1.size))
  have K1 := Lib.hid (fun W (h : Below w2.heap.size w2 W) => add_any A2 p.length c2 w2.heap.size p s z W (hP.below h (Nat.le_refl _)) h.size (by omega) (by omega))
  have K2 := Lib.hid (fun W (h : Below w2.heap.size w2 W) => radd_any A2 p.length c2 w2.heap.size p s z W (hP.below h (Nat.le_refl _)) h.size (by omega) (by omega) hs)
  have K3 := Lib.hid (fun W (h : Below w2.heap.size w2 W) => drop_any A2 p.length c2 w2.heap.size p s W (hP.below h (Nat.le_refl _)) h.size (by omega) (by omega))
  have K4 := Lib.hid (fun W (h : Below w2.heap.size w2 W) => rdrop_any A2 p.length c2 w2.heap.size p s W (hP.below h (Nat.le_refl _)) h.size (by omega) (by omega))
  have hS1 := Lib.hid (addP_small p s z)
  have hS2 := Lib.hid (dropP_small p s)
  clear hP b1 b2 hel HE hfl
  generalize addP p s z = R1 at *
  obtain ⟨P1, z1⟩ := R1
  generalize dropP p s = R2 at *
  obtain ⟨P2, z2, z3⟩ := R2
  generalize p.length = m at *
  go_wp2_with fail
  refine (K1.out w2 (Below.refl _ _)).mono ?_
  rintro e w3 ⟨A3, c3, rfl, -, hP3, b3⟩
  have B3 := Lib.hid b3
  have HP3 := Lib.hid hP3
  clear b3 hP3
  simp only at HP3
  go_wp2_with fail
  refine (K2.out w3 B3.out).mono ?_
  rintro e w4 ⟨A4, c4, rfl, -, hP4, b4⟩
  have B4 := Lib.hid (B3.out.trans (b4.mono B3.out.size))
  have B34 := Lib.hid b4
  have HP4 := Lib.hid hP4
  clear b4 hP4
  simp only at HP4
  go_wp2_with fail
  refine (K3.out w4 B4.out).mono ?_
  rintro e w5 ⟨A5, c5, rfl, -, hP5, b5⟩
  have B5 := Lib.hid (B4.out.trans (b5.mono B4.out.size))
  have B35 := Lib.hid (B34.out.trans (b5.mono B34.out.size))
  have B45 := Lib.hid b5
  have HP5 := Lib.hid hP5
  clear b5 hP5
  simp only at HP5
  go_wp2_with fail
  refine (K4.out w5 B5.out).mono ?_
  rintro e w6 ⟨A6, c6, rfl, -, hP6, b6⟩
  have B6 := Lib.hid (B5.out.trans (b6.mono B5.out.size))
  have B36 := Lib.hid (B35.out.trans (b6.mono B35.out.size))
  have B46 := Lib.hid (B45.out.trans (b6.mono B45.out.size))
  have B56 := Lib.hid b6
  have HP6 := Lib.hid hP6
  clear b6 hP6
  simp only at HP6
  have HS1 := Lib.hid (sameP_any A3 A4 P1.length c3 c4 _ _ P1 w6 (HP3.out.below B36.out (Nat.le_refl _)) (HP4.out.below B46.out (Nat.le_refl _)) (Nat.le_trans hS1.out.1 (by omega)) (fun l hl => Nat.le_trans (hS1.out.2 l hl) (by omega)))
  have HS2 := Lib.hid (fun W (hd : Drew w6 W) => sameP_any A5 A6 P2.length c5 c6 _ _ P2 W ((HP5.out.below B56.out (Nat.le_refl _)).keep fun a _ => hd.cells a) (HP6.out.keep fun a _ => hd.cells a) (Nat.le_trans hS2.out.1 (by omega)) (fun l hl => Nat.le_trans (hS2.out.2 l hl) (by omega)))
  simp only
  generalize P1.length = n1 at *
  generalize P2.length = n2 at *
  go_wp2_with fail
  refine HS1.out.mono ?_
  rintro e w7 ⟨rfl, d7⟩
  go_wp2_with fail
  refine (HS2.out w7 d7).mono ?_
  rintro e w8 ⟨rfl, d8⟩
  go_wp2
  go_ret
  exact ⟨rfl, Below.drews (Below.drews (HB2.out.trans (B6.out.mono HB2.out.size)) d7) d8⟩

set_option maxRecDepth 100000 in
theorem lifted (os : Os) (started : os.Started) (H : Type) (enc : TypeId × Value → H) :
    ReturnsInHanded {} Try.checked os 4 .any (Rows.indexChangeSpec.pre6 enc Try.prog Try.f4 Rows.indexChangeRow.domain false) (Rows.indexChangeSpec.post enc Try.prog Try.f4 false true false false) := by
  refine returnsInHanded_of_change_sized (C := Try.checked) own started (by kernel_rfl) Try.func4
    (ChangeSpec.witness6 (enc := enc) (C := Try.checked) false ⟨#[], #[.slice none 0 0, .string ByteArray.empty, .int .i64 0], []⟩ 8 (by kernel_rfl) (by kernel_rfl) (by kernel_rfl) (by kernel_rfl)) ?_
  intro W base args ds gs before hval0 hW hcnd hsz0 _
  have hval : ∀ (j : Nat) t v, Try.f4.params[j]? = some t → args[j]? = some v → Value.okWide Try.prog W .any base t v := hval0
  have hsz : (DataW.weightsEach Try.prog (Try.f4.params.toList ++ Rows.indexChangeSpec.plain.varTypes Try.prog) (ds ++ gs)).all (· ≤ reachBytes) = true := hsz0
  have hW' := hW
  obtain ⟨p, q, hA0, hV, rfl, hfz, hnd⟩ := hW
  have hA : DataW.TrodAll enc Try.prog W 0 (fun _ => true) true Try.f4.params.toList args.toList ds p := hA0
  rw [Try.params4] at hA hval hsz
  obtain ⟨v0, vs0, d0, ds0, p0, q0, hargs, rfl, rfl, h0, r0⟩ := trodAll_cons hA
  obtain ⟨v1, vs1, d1, ds1, p1, q1, rfl, rfl, rfl, h1, r1⟩ := trodAll_cons r0
  obtain ⟨v2, vs2, d2, ds2, p2, q2, rfl, rfl, rfl, h2, r2⟩ := trodAll_cons r1
  obtain ⟨rfl, rfl, rfl⟩ := trodAll_nil r2
  obtain rfl : args = #[v0, v1, v2] := by cases args; simp_all
  obtain ⟨rfl, rfl⟩ := trodVars_none hV
  have lt0 : ∀ x ∈ p0, x.block < W.heap.size := by obtain ⟨m, hm⟩ := h0; exact DataW.trod_lt m _ _ _ hm
  obtain ⟨a0, len0, cap0, rfl⟩ := okWide_slice Try.underlying22 (hval 0 22 v0 rfl rfl)
  obtain ⟨l0, w0⟩ := pgs_open h0 (fun n hn => by simpa using List.all_eq_true.1 hsz _ (DataW.weights_mem_each (j := 0) rfl rfl n hn))
  obtain ⟨s1, rfl, rfl, rfl, hs1⟩ := open_string Try.underlying9 (hval 1 9 v1 rfl rfl) h1
  have b1 : s1.size ≤ 140737488355328 := by
    have := sized_string hsz (j := 1) (t := 9) rfl rfl
    rw [Array.length_toList] at this
    simp only [reachBytes] at this
    exact Nat.le_trans this (by decide)
  obtain ⟨n2, rfl, rfl, rfl, wn2⟩ := open_int Try.underlying3 (hval 2 3 v2 rfl rfl) h2
  clear hA0 hval0
  refine (walk a0 len0 cap0 l0 s1 n2 W w0 b1 (i64_of_wf wn2)).mono fun e W' ⟨he, bel⟩ => ?_
  subst he
  exact ⟨_, rfl, _, _, _, [], _, [], hW', trodAll_mk1 (shut_bool Try.underlying4 _), (trodAll_cons_mk (Below.trod laidOut (by kernel_rfl) (of_decide_eq_true (by kernel_rfl)) h0 bel lt0) (trodAll_cons_mk (shut_string Try.underlying9 hs1) (trodAll_cons_mk (shut_int Try.underlying3 wn2) trodAll_mk0))), rfl, bel.frame _, fun h => by cases h⟩

theorem over : Rows.indexChangeRow.holds Try.pinned (OpenSpec.ofChange Rows.indexChangeSpec) :=
  OpenClaim.holds_of_wide 4 Try.f4 rfl rfl rfl rfl rfl rfl rfl ⟨rfl, rfl, rfl, rfl, rfl⟩ rfl rfl rfl rfl rfl (by kernel_rfl) Try.func4 (by kernel_rfl)
    (of_decide_eq_true (by kernel_rfl)) (by unfold Func.isWrapper; first | (rw [if_pos (by decide +kernel)]; kernel_rfl) | (rw [if_neg (by decide +kernel)]; exact ⟨rfl, rfl⟩))
    (fun os started H enc _ => lifted os started H enc)

end Go.Proofs.Ytflijnhgonigjaa.indexChange
namespace Go.Proofs.Ytflijnhgonigjaa
theorem indexChange_proved : Rows.IndexChangeSaid := indexChange.over
#print axioms indexChange_proved
end Go.Proofs.Ytflijnhgonigjaa
