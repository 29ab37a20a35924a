/-
  PROVED: 'wainwrightlaw06.PathsNames' returns true for every two texts, and leaves its arguments as they were; the card ties the tables that the row lists to the program's text. Conditions: none.
-/
import Derived.Test.YtcijpefddicmiaaDoorFrame
namespace Go.Proofs.YtcijpefddicmiaaDoor.pathsNames
open Go.ChangeShapes Go.WideShapes Go.ChangeAt Go.RowKit
open Go.ChangeMaps (open_string shut_string)

theorem same_self (x : List (List UInt8)) : sameL x x = true := by simp [sameL]

set_option maxHeartbeats 4000000 in
theorem walk (a b : ByteArray) (w : World) (ha : a.size ≤ 140737488355328) (hb : b.size ≤ 140737488355328) (hm : MaxAt w) :
    Calls Tryd.prog 3 #[.string a, .string b] w fun e w' => e = .returned (.bool true) ∧ Below w.heap.size w w' := by
  obtain ⟨q, rfl⟩ : ∃ q, b = bs q := ⟨b.data.toList, (bs_eq b).symm⟩
  have HL := Lib.hid (lives_any w hm)
  have HS : Hid (∀ W, MaxAt W → Calls Tryd.prog 9 #[.string (bs q)] W (RetNames W (namesL q))) := fun W h => split_any q W hb h
  have HR : Hid (∀ W, Calls Tryd.prog 10 #[.string (bs q)] W (RetNames W (namesL q))) := fun W => rsplit_any q W hb
  have HA : Hid (∀ W, Calls Tryd.prog 11 #[.string a] W _) := fun W => right_any a W
  have HB : Hid (∀ W, Calls Tryd.prog 12 #[.string a] W _) := fun W => rright_any a W (by omega)
  have HLQ : Hid (((namesL q).getD []).length ≤ 256) := by
    show _ ≤ _
    cases h : namesL q with
    | none => simp
    | some l => exact names_len h
  have HM := Lib.hid hm
  clear hm ha hb
  generalize bs q = Q at *
  generalize namesL q = o at *
  have e1 : (rightB a == rightB a) = true := by simp
  have e2 : (errI o == errI o) = true := by simp
  generalize rightB a = v at *
  generalize errI o = x at *
  go_enter Tryd.func3, Tryd.ntmps3
  go_wp2_with fail
  refine HL.out.mono ?_
  rintro e w1 ⟨rfl, hb1⟩
  go_wp2_with fail
  refine (HS.out w1 (HM.out.to hb1)).mono ?_
  rintro e w2 ⟨A, n, c, rfl, hb2, hA, -⟩
  go_wp2_with fail
  refine (HR.out w2).mono ?_
  rintro e w3 ⟨A', n', c', rfl, hb3, hA', -⟩
  go_wp2_with fail
  refine (HA.out w3).mono ?_
  rintro e w4 ⟨rfl, hb4⟩
  go_wp2_with fail
  refine (HB.out w4).mono ?_
  rintro e w5 ⟨rfl, rfl⟩
  have q2 := hb1.trans (hb2.mono hb1.size)
  have q3 := q2.trans (hb3.mono q2.size)
  have q4 := q3.trans (hb4.mono q3.size)
  have hA4 := (hA.to hb3).to hb4
  have hA4' := hA'.to hb4
  have l1 := hA4.len
  have l2 := hA4'.len
  have HSM := same_any _ _ A A' n n' c c' w5 hA4 hA4' (by have := HLQ.out; omega) (by have := HLQ.out; omega)
  rw [same_self] at HSM
  have HSM' := Lib.hid HSM
  have HQ4 := Lib.hid q4
  clear HSM q2 q3 q4 hA hA' hA4 hA4' l1 l2 hb1 hb2 hb3 hb4
  go_wp2_with fail
  refine HSM'.out.mono ?_
  rintro e w6 ⟨rfl, hb6⟩
  go_wp2
  go_ret
  exact ⟨rfl, HQ4.out.trans (hb6.mono HQ4.out.size)⟩

set_option maxRecDepth 100000 in
theorem lifted (os : Os) (started : os.Started) (H : Type) (enc : TypeId × Value → H) :
    ReturnsInHanded {} Tryd.checked os 3 .any (fun w args => (Rows.pathsNamesSpec.pre enc Tryd.prog Tryd.f3 [] false w args ∧ laidMetH Tryd.prog LAID w) ∧ sizedMet enc Tryd.prog Tryd.f3 (OpenSpec.ofChange Rows.pathsNamesSpec) false w args) (Rows.pathsNamesSpec.post enc Tryd.prog Tryd.f3 false true false false) := by
  refine returns_shaped (C := Tryd.checked) (X := fun w _ => laidMetH Tryd.prog LAID w) own started (by kernel_rfl) Tryd.func3
    (ChangeSpec.witness_shaped (enc := enc) (C := Tryd.checked) (os := os) (X := fun w _ => laidMetH Tryd.prog LAID w) false (World.laidAll Tryd.prog os LAID) #[.string ByteArray.empty, .string ByteArray.empty] 8 (World.laidAll_os _ _ _)
      (World.shaped_of_ZipB (by kernel_rfl) (by kernel_rfl)) (by kernel_rfl) (by kernel_rfl) (by kernel_rfl)
      (by rw [laid_plain]; exact laidMet_laidAll _ (by kernel_rfl) (by kernel_rfl))) ?_
  intro W base args ds gs before hval0 hW hsz0 hsh
  have hval : ∀ (j : Nat) t v, Tryd.f3.params[j]? = some t → args[j]? = some v → Value.okWide Tryd.prog W .any base t v := hval0
  have hsz : (DataW.weightsEach Tryd.prog (Tryd.f3.params.toList ++ Rows.pathsNamesSpec.plain.varTypes Tryd.prog) (ds ++ gs)).all (· ≤ reachBytes) = true := hsz0
  have hW' := hW
  obtain ⟨p, q, hA0, hV, rfl, hfz, hnd⟩ := hW
  have hA : DataW.TrodAll enc Tryd.prog W 0 (fun _ => true) true Tryd.f3.params.toList args.toList ds p := hA0
  rw [Tryd.params3] at hA hval hsz
  obtain ⟨v0, vs0, d0, ds0, p0, q0, hargs, rfl, rfl, h0, r0⟩ := trodAll_cons hA
  obtain ⟨v1, vs1, d1, ds1, p1, q1, rfl, rfl, rfl, h1, r1⟩ := trodAll_cons r0
  obtain ⟨rfl, rfl, rfl⟩ := trodAll_nil r1
  obtain rfl : args = #[v0, v1] := by cases args; simp_all
  obtain ⟨rfl, rfl⟩ := trodVars_none hV
  obtain ⟨s0, rfl, rfl, rfl, hs0⟩ := open_string Tryd.underlying9 (hval 0 9 v0 rfl rfl) h0
  have b0 : s0.size ≤ 140737488355328 := by
    have := sized_string hsz (j := 0) (t := 9) rfl rfl
    rw [Array.length_toList] at this
    simp only [reachBytes] at this
    exact Nat.le_trans this (by decide)
  obtain ⟨s1, rfl, rfl, rfl, hs1⟩ := open_string Tryd.underlying9 (hval 1 9 v1 rfl rfl) h1
  have b1 : s1.size ≤ 140737488355328 := by
    have := sized_string hsz (j := 1) (t := 9) rfl rfl
    rw [Array.length_toList] at this
    simp only [reachBytes] at this
    exact Nat.le_trans this (by decide)
  clear hA0 hval0
  refine (walk s0 s1 W b0 b1 (max_at hsh)).mono fun e W' ⟨he, bel⟩ => ?_
  subst he
  exact ⟨_, rfl, _, _, _, [], _, [], hW', trodAll_mk1 (shut_bool Tryd.underlying4 _), (trodAll_cons_mk (shut_string Tryd.underlying9 hs0) (trodAll_cons_mk (shut_string Tryd.underlying9 hs1) trodAll_mk0)), rfl, bel.frame _, fun h => by cases h⟩

theorem over : Rows.pathsNamesRow.holds Tryd.pinned (OpenSpec.ofChange Rows.pathsNamesSpec) :=
  OpenClaim.holds_of_wide 3 Tryd.f3 rfl rfl rfl rfl rfl rfl rfl ⟨rfl, rfl, rfl, rfl, rfl⟩ rfl rfl rfl rfl rfl (by kernel_rfl) Tryd.func3 (by kernel_rfl)
    (of_decide_eq_true (by kernel_rfl)) (by unfold Func.isWrapper; first | (rw [if_pos (by decide +kernel)]; kernel_rfl) | (rw [if_neg (by decide +kernel)]; exact ⟨rfl, rfl⟩))
    (fun os started H enc _ => lifted os started H enc)

theorem card : Claim7.holds Tryd.pinned (.plain (OpenSpec.ofChange Rows.pathsNamesSpec)) Rows.pathsNamesCard :=
  Claim7.holds_tied_plain_at .later [] [.data, .pinned] true (true, "0704139ed722d04aeb671207528e4375d1497b3764c93c83cee7d66e3859cc24") false over (fun _ h => by cases h) (by kernel_rfl) (fun _ h => by cases h) pathsNames_row_tie rfl ⟨rfl, rfl⟩ (by kernel_rfl) rfl
    (fun f fn hf hfn => by
      obtain rfl : f = 3 := Option.some.inj ((show Tryd.prog.funcNamed Rows.pathsNamesRow.func = some 3 by kernel_rfl).symm.trans hf) |>.symm
      obtain rfl : fn = Tryd.f3 := (Option.some.inj (Tryd.func3.symm.trans hfn)).symm
      exact ⟨by kernel_rfl, fun j t ht => by
        rw [Tryd.params3] at ht
        have hm : t ∈ [9, 9] := by simpa using Array.mem_of_getElem? ht
        have hall : ([9, 9].all fun u => !Tryd.prog.wantsStandIn u) = true := by kernel_rfl
        exact (show Tryd.prog.wantsStandIn t = false by simpa using List.all_eq_true.1 hall t hm)⟩)
    (by kernel_rfl)

end Go.Proofs.YtcijpefddicmiaaDoor.pathsNames
namespace Go.Proofs.YtcijpefddicmiaaDoor
theorem pathsNames_proved : Rows.PathsNamesCardSaid := pathsNames.card
#print axioms pathsNames_proved
end Go.Proofs.YtcijpefddicmiaaDoor
