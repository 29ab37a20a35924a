/-
  PROVED: 'wainwrightlaw08.IndexRolls' returns true for every input (a slice of slices of entries, a string), and its arguments read afterwards as before. Conditions: none beside those that the row itself says (the form's own reach).
-/
import Derived.Test.YtflijnhgonigjaaPFrame
import Derived.Test.YtflijnhgonigjaaPRolls
import Derived.Test.YtflijnhgonigjaaPRollM
namespace Go.Proofs.Ytflijnhgonigjaa.indexRolls
open Go.ChangeShapes Go.WideShapes Go.ChangeAt Go.RowKit
open Go.ChangeMaps (open_string shut_string)
set_option linter.unusedVariables false

set_option maxRecDepth 100000 in
set_option maxHeartbeats 8000000 in
theorem walk (A : Option Addr) (n c : Nat) (p0 : Pg) (s : ByteArray) (w : World) (h1 : PgsAt w w.heap.size A n p0 ∧ n ≤ c ∧ c ≤ maxLen) (hs : s.size ≤ 140737488355328) :
    Calls Try.prog 7 #[.slice A n c, .string s] w fun e w' => e = .returned (.bool true) ∧ Below w.heap.size w w' := by
  obtain ⟨hP0, hnc, hcm⟩ := h1
  have HE := Lib.hid (fun W (hW : Below w.heap.size w W) => early_any A n c w.heap.size p0 W (hP0.below hW (Nat.le_refl _)) hW.size (by omega))
  clear hP0
  have hel := earlyP_len p0
  have hml : ∀ l ∈ earlyP p0, l.length ≤ 100000 := fun l hl => Nat.le_trans (earlyP_mem p0 l hl) (by omega)
  have hfl := earlyP_flat p0
  generalize earlyP p0 = p at *
  go_enter Try.func7, Try.ntmps7
  go_wp2_with fail
  refine (lives_any w).mono ?_
  rintro e w1 ⟨rfl, b1⟩
  go_wp2_with fail
  refine (HE.out w1 b1).mono ?_
  rintro e w2 ⟨A2, c2, rfl, hc2, hP, b2⟩
  have HB2 := Lib.hid (b1.trans (b2.mono b1.size))
  have K1 := Lib.hid (fun W (h : Below w2.heap.size w2 W) => find_any A2 p.length c2 w2.heap.size p s W (hP.below h (Nat.le_refl _)) h.size (by omega) hml)
  have K4 := Lib.hid (iright_any A2 p.length c2 w2.heap.size p w2 hP (Nat.le_refl _) (by omega) hml)
  have K6 := Lib.hid (fun W (h : Below w2.heap.size w2 W) => all_any A2 p.length c2 w2.heap.size p W (hP.below h (Nat.le_refl _)) h.size (by omega) (by omega))
  have HFT := Lib.hid hP.fit
  have hfr : rightP p = true → findR (ofR p.flatten) s = findP p s ∧ findP (chunksL p.flatten) s = findP p s ∧ rightP (chunksL p.flatten) = true := fun h => ⟨findP_roll h s, findP_chunks h s, by
    have hr := rightP_iff.1 h
    exact chunksL_right hr.2.1 hr.2.2⟩
  have HFR := Lib.hid hfr
  clear hP b1 b2 hel hml HE hfr
  cases hr : rightP p with
  | false =>
    rw [hr] at K4
    clear hr HFR
    generalize p.length = m at *
    go_wp2_with fail
    refine K4.out.mono ?_
    rintro e w3 ⟨rfl, b3⟩
    go_wp2
    go_ret
    exact ⟨rfl, HB2.out.trans (b3.mono HB2.out.size)⟩
  | true =>
    rw [hr] at K4
    obtain ⟨e1, e2, e3⟩ := HFR.out hr
    have HX1 := Lib.hid e1
    have HX2 := Lib.hid e2
    have HX3 := Lib.hid e3
    clear hr HFR e1 e2 e3
    generalize findP p s = F at *
    obtain ⟨fz, fb⟩ := F
    simp only at K1
    generalize p.flatten = l at *
    generalize p.length = m at *
    go_wp2_with fail
    refine K4.out.mono ?_
    rintro e w3 ⟨rfl, b3⟩
    have B3 := Lib.hid b3
    clear b3
    go_wp2_with fail
    refine (K6.out w3 B3.out).mono ?_
    intro e w4 hr4
    obtain ⟨A4, c4, rfl, hc4, hE4, b4⟩ := hr4.ens HFT.out
    have B4 := Lib.hid (B3.out.trans (b4.mono B3.out.size))
    have HO := Lib.hid (rof7_any A4 l.length c4 w4.heap.size l w4 hE4 (by omega))
    clear hr4 hE4 b4
    have hol := of_len l
    have HOF := Lib.hid (of_fit HFT.out)
    generalize hlm : l.length = lm at *
    have HLM := Lib.hid hlm
    clear hlm
    go_wp2_with fail
    refine HO.out.mono ?_
    intro e w5 hr5
    obtain ⟨A5, c5, rfl, hc5, hE5, b5⟩ := hr5.ens HOF.out
    have HE5 := Lib.hid hE5
    have B5 := Lib.hid (B4.out.trans (b5.mono B4.out.size))
    clear hr5 hE5 b5 HO
    generalize hom : (ofR l).length = om at *
    have HOM := Lib.hid hom
    clear hom
    go_wp2_with fail
    refine (K1.out w5 B5.out).mono ?_
    rintro e w6 ⟨rfl, b6⟩
    have B6 := Lib.hid (B5.out.trans (b6.mono B5.out.size))
    have HRF := Lib.hid (rfind_any A5 om c5 w5.heap.size (ofR l) s w6 (HE5.out.below b6 (Nat.le_refl _)) (by omega) (by omega))
    rw [HX1.out] at HRF
    clear b6
    simp only at HRF
    go_wp2_with fail
    refine HRF.out.mono ?_
    rintro e w7 ⟨rfl, rfl⟩
    go_wp2_with fail
    refine (K6.out w6 B6.out).mono ?_
    intro e w8 hr8
    obtain ⟨A8, c8, rfl, hc8, hE8, b8⟩ := hr8.ens HFT.out
    have B8 := Lib.hid (B6.out.trans (b8.mono B6.out.size))
    rw [HLM.out] at hE8 hc8
    have HQ := Lib.hid (iof_any A8 lm c8 w8.heap.size l w8 hE8 (Nat.le_refl _) (by omega) hc8)
    clear hr8 hE8 b8
    rw [HLM.out]
    go_wp2_with fail
    refine HQ.out.mono ?_
    rintro e w9 ⟨A9, c9, rfl, hc9, hP9, b9⟩
    have B9 := Lib.hid (B8.out.trans (b9.mono B8.out.size))
    have hqn : (chunksL l).length ≤ 100000 := by rw [chunksL_len, HLM.out]; unfold qOf; omega
    have hqm : ∀ x ∈ chunksL l, x.length ≤ 100000 := fun x hx => Nat.le_trans (chunksL_mem l x hx) (by omega)
    have KF := Lib.hid (find_any A9 (chunksL l).length c9 w9.heap.size (chunksL l) s w9 hP9 (Nat.le_refl _) hqn hqm)
    have KR := Lib.hid (fun W (h : Below w9.heap.size w9 W) => iright_any A9 (chunksL l).length c9 w9.heap.size (chunksL l) W (hP9.below h (Nat.le_refl _)) h.size hqn hqm)
    rw [HX2.out] at KF
    rw [HX3.out] at KR
    simp only at KF
    clear hP9 b9 hqn hqm HQ
    generalize (chunksL l).length = qn at *
    go_wp2_with fail
    refine KF.out.mono ?_
    rintro e w10 ⟨rfl, b10⟩
    have B10 := Lib.hid (B9.out.trans (b10.mono B9.out.size))
    have HK := Lib.hid (KR.out w10 b10)
    clear b10
    go_wp2_with fail
    refine HK.out.mono ?_
    rintro e w11 ⟨rfl, b11⟩
    have B11 := Lib.hid (B10.out.trans (b11.mono B10.out.size))
    clear b11
    cases fb <;> go_wp2 <;> go_ret <;> exact ⟨rfl, HB2.out.trans (B11.out.mono HB2.out.size)⟩

set_option maxRecDepth 100000 in
theorem lifted (os : Os) (started : os.Started) (H : Type) (enc : TypeId × Value → H) :
    ReturnsInHanded {} Try.checked os 7 .any (Rows.indexRollsSpec.pre6 enc Try.prog Try.f7 Rows.indexRollsRow.domain false) (Rows.indexRollsSpec.post enc Try.prog Try.f7 false true false false) := by
  refine returnsInHanded_of_change_sized (C := Try.checked) own started (by kernel_rfl) Try.func7
    (ChangeSpec.witness6 (enc := enc) (C := Try.checked) false ⟨#[], #[.slice none 0 0, .string ByteArray.empty], []⟩ 8 (by kernel_rfl) (by kernel_rfl) (by kernel_rfl) (by kernel_rfl)) ?_
  intro W base args ds gs before hval0 hW hcnd hsz0 _
  have hval : ∀ (j : Nat) t v, Try.f7.params[j]? = some t → args[j]? = some v → Value.okWide Try.prog W .any base t v := hval0
  have hsz : (DataW.weightsEach Try.prog (Try.f7.params.toList ++ Rows.indexRollsSpec.plain.varTypes Try.prog) (ds ++ gs)).all (· ≤ reachBytes) = true := hsz0
  have hW' := hW
  obtain ⟨p, q, hA0, hV, rfl, hfz, hnd⟩ := hW
  have hA : DataW.TrodAll enc Try.prog W 0 (fun _ => true) true Try.f7.params.toList args.toList ds p := hA0
  rw [Try.params7] at hA hval hsz
  obtain ⟨v0, vs0, d0, ds0, p0, q0, hargs, rfl, rfl, h0, r0⟩ := trodAll_cons hA
  obtain ⟨v1, vs1, d1, ds1, p1, q1, rfl, rfl, rfl, h1, r1⟩ := trodAll_cons r0
  obtain ⟨rfl, rfl, rfl⟩ := trodAll_nil r1
  obtain rfl : args = #[v0, v1] := by cases args; simp_all
  obtain ⟨rfl, rfl⟩ := trodVars_none hV
  have lt0 : ∀ x ∈ p0, x.block < W.heap.size := by obtain ⟨m, hm⟩ := h0; exact DataW.trod_lt m _ _ _ hm
  obtain ⟨a0, len0, cap0, rfl⟩ := okWide_slice Try.underlying22 (hval 0 22 v0 rfl rfl)
  obtain ⟨l0, w0⟩ := pgs_open h0 (fun n hn => by simpa using List.all_eq_true.1 hsz _ (DataW.weights_mem_each (j := 0) rfl rfl n hn))
  obtain ⟨s1, rfl, rfl, rfl, hs1⟩ := open_string Try.underlying9 (hval 1 9 v1 rfl rfl) h1
  have b1 : s1.size ≤ 140737488355328 := by
    have := sized_string hsz (j := 1) (t := 9) rfl rfl
    rw [Array.length_toList] at this
    simp only [reachBytes] at this
    exact Nat.le_trans this (by decide)
  clear hA0 hval0
  refine (walk a0 len0 cap0 l0 s1 W w0 b1).mono fun e W' ⟨he, bel⟩ => ?_
  subst he
  exact ⟨_, rfl, _, _, _, [], _, [], hW', trodAll_mk1 (shut_bool Try.underlying4 _), (trodAll_cons_mk (Below.trod laidOut (by kernel_rfl) (of_decide_eq_true (by kernel_rfl)) h0 bel lt0) (trodAll_cons_mk (shut_string Try.underlying9 hs1) trodAll_mk0)), rfl, bel.frame _, fun h => by cases h⟩

theorem over : Rows.indexRollsRow.holds Try.pinned (OpenSpec.ofChange Rows.indexRollsSpec) :=
  OpenClaim.holds_of_wide 7 Try.f7 rfl rfl rfl rfl rfl rfl rfl ⟨rfl, rfl, rfl, rfl, rfl⟩ rfl rfl rfl rfl rfl (by kernel_rfl) Try.func7 (by kernel_rfl)
    (of_decide_eq_true (by kernel_rfl)) (by unfold Func.isWrapper; first | (rw [if_pos (by decide +kernel)]; kernel_rfl) | (rw [if_neg (by decide +kernel)]; exact ⟨rfl, rfl⟩))
    (fun os started H enc _ => lifted os started H enc)

end Go.Proofs.Ytflijnhgonigjaa.indexRolls
namespace Go.Proofs.Ytflijnhgonigjaa
theorem indexRolls_proved : Rows.IndexRollsSaid := indexRolls.over
#print axioms indexRolls_proved
end Go.Proofs.Ytflijnhgonigjaa
