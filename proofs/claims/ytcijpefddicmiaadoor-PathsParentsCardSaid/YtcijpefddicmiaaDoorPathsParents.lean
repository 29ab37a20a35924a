/-
  PROVED: 'wainwrightlaw06.PathsParents' returns true for every two texts, and leaves its arguments as they were; the card ties the tables that the row lists to the program's text. Conditions: none.
-/
import Derived.Test.YtcijpefddicmiaaDoorFrame
namespace Go.Proofs.YtcijpefddicmiaaDoor.pathsParents
open Go.ChangeShapes Go.WideShapes Go.ChangeAt Go.RowKit
open Go.ChangeMaps (open_string shut_string)

set_option maxHeartbeats 4000000 in
theorem walk (a b : ByteArray) (w : World) (ha : a.size ≤ 140737488355328) (hb : b.size ≤ 140737488355328) (hm : MaxAt w) :
    Calls Tryd.prog 4 #[.string a, .string b] w fun e w' => e = .returned (.bool true) ∧ Below w.heap.size w w' := by
  obtain ⟨p, rfl⟩ : ∃ p, a = bs p := ⟨a.data.toList, (bs_eq a).symm⟩
  obtain ⟨q, rfl⟩ : ∃ q, b = bs q := ⟨b.data.toList, (bs_eq b).symm⟩
  have HL := Lib.hid (lives_any w hm)
  have HP : Hid (∀ W, MaxAt W → Calls Tryd.prog 14 #[.string (bs p)] W (RetParent W (parentL (namesL p)))) := fun W h => parent_any p W ha h
  have HR : Hid (∀ W, Calls Tryd.prog 15 #[.string (bs p)] W (RetParent W (parentL (namesL p)))) := fun W => rparent_any p W ha
  have HU : Hid (∀ W, MaxAt W → Calls Tryd.prog 16 #[.string (bs p), .string (bs q)] W _) := fun W h => under_any p q W ha hb h
  have HV : Hid (∀ W, Calls Tryd.prog 17 #[.string (bs p), .string (bs q)] W _) := fun W => runder_any p q W ha hb
  have HM := Lib.hid hm
  clear hm ha hb
  generalize bs p = P at *
  generalize bs q = Q at *
  generalize underO (namesL p) (namesL q) = v at *
  generalize parentL (namesL p) = x at *
  obtain ⟨x1, x2, x3⟩ := x
  unfold RetParent at HP HR
  simp only at HP HR
  have e1 : ((bs x1).toList == (bs x1).toList) = true := by simp
  have e2 : ((bs x2).toList == (bs x2).toList) = true := by simp
  have e3 : (x3 == x3) = true := by simp
  have e4 : (v == v) = true := by simp
  generalize bs x1 = X1 at *
  generalize bs x2 = X2 at *
  go_enter Tryd.func4, Tryd.ntmps4
  go_wp2_with fail
  refine HL.out.mono ?_
  rintro e w1 ⟨rfl, hb1⟩
  have hm1 := HM.out.to hb1
  go_wp2_with fail
  refine (HP.out w1 hm1).mono ?_
  rintro e w2 ⟨rfl, hb2⟩
  have hm2 := hm1.to hb2
  go_wp2_with fail
  refine (HR.out w2).mono ?_
  rintro e w3 ⟨rfl, hb3⟩
  have hm3 := hm2.to hb3
  go_wp2_with fail
  refine (HU.out w3 hm3).mono ?_
  rintro e w4 ⟨rfl, hb4⟩
  go_wp2_with fail
  refine (HV.out w4).mono ?_
  rintro e w5 ⟨rfl, hb5⟩
  have q2 := hb1.trans (hb2.mono hb1.size)
  have q3 := q2.trans (hb3.mono q2.size)
  have q4 := q3.trans (hb4.mono q3.size)
  have q5 := q4.trans (hb5.mono q4.size)
  go_wp2
  go_ret
  exact ⟨rfl, q5⟩

set_option maxRecDepth 100000 in
theorem lifted (os : Os) (started : os.Started) (H : Type) (enc : TypeId × Value → H) :
    ReturnsInHanded {} Tryd.checked os 4 .any (fun w args => (Rows.pathsParentsSpec.pre enc Tryd.prog Tryd.f4 [] false w args ∧ laidMetH Tryd.prog LAID w) ∧ sizedMet enc Tryd.prog Tryd.f4 (OpenSpec.ofChange Rows.pathsParentsSpec) false w args) (Rows.pathsParentsSpec.post enc Tryd.prog Tryd.f4 false true false false) := by
  refine returns_shaped (C := Tryd.checked) (X := fun w _ => laidMetH Tryd.prog LAID w) own started (by kernel_rfl) Tryd.func4
    (ChangeSpec.witness_shaped (enc := enc) (C := Tryd.checked) (os := os) (X := fun w _ => laidMetH Tryd.prog LAID w) false (World.laidAll Tryd.prog os LAID) #[.string ByteArray.empty, .string ByteArray.empty] 8 (World.laidAll_os _ _ _)
      (World.shaped_of_ZipB (by kernel_rfl) (by kernel_rfl)) (by kernel_rfl) (by kernel_rfl) (by kernel_rfl)
      (by rw [laid_plain]; exact laidMet_laidAll _ (by kernel_rfl) (by kernel_rfl))) ?_
  intro W base args ds gs before hval0 hW hsz0 hsh
  have hval : ∀ (j : Nat) t v, Tryd.f4.params[j]? = some t → args[j]? = some v → Value.okWide Tryd.prog W .any base t v := hval0
  have hsz : (DataW.weightsEach Tryd.prog (Tryd.f4.params.toList ++ Rows.pathsParentsSpec.plain.varTypes Tryd.prog) (ds ++ gs)).all (· ≤ reachBytes) = true := hsz0
  have hW' := hW
  obtain ⟨p, q, hA0, hV, rfl, hfz, hnd⟩ := hW
  have hA : DataW.TrodAll enc Tryd.prog W 0 (fun _ => true) true Tryd.f4.params.toList args.toList ds p := hA0
  rw [Tryd.params4] at hA hval hsz
  obtain ⟨v0, vs0, d0, ds0, p0, q0, hargs, rfl, rfl, h0, r0⟩ := trodAll_cons hA
  obtain ⟨v1, vs1, d1, ds1, p1, q1, rfl, rfl, rfl, h1, r1⟩ := trodAll_cons r0
  obtain ⟨rfl, rfl, rfl⟩ := trodAll_nil r1
  obtain rfl : args = #[v0, v1] := by cases args; simp_all
  obtain ⟨rfl, rfl⟩ := trodVars_none hV
  obtain ⟨s0, rfl, rfl, rfl, hs0⟩ := open_string Tryd.underlying9 (hval 0 9 v0 rfl rfl) h0
  have b0 : s0.size ≤ 140737488355328 := by
    have := sized_string hsz (j := 0) (t := 9) rfl rfl
    rw [Array.length_toList] at this
    simp only [reachBytes] at this
    exact Nat.le_trans this (by decide)
  obtain ⟨s1, rfl, rfl, rfl, hs1⟩ := open_string Tryd.underlying9 (hval 1 9 v1 rfl rfl) h1
  have b1 : s1.size ≤ 140737488355328 := by
    have := sized_string hsz (j := 1) (t := 9) rfl rfl
    rw [Array.length_toList] at this
    simp only [reachBytes] at this
    exact Nat.le_trans this (by decide)
  clear hA0 hval0
  refine (walk s0 s1 W b0 b1 (max_at hsh)).mono fun e W' ⟨he, bel⟩ => ?_
  subst he
  exact ⟨_, rfl, _, _, _, [], _, [], hW', trodAll_mk1 (shut_bool Tryd.underlying4 _), (trodAll_cons_mk (shut_string Tryd.underlying9 hs0) (trodAll_cons_mk (shut_string Tryd.underlying9 hs1) trodAll_mk0)), rfl, bel.frame _, fun h => by cases h⟩

theorem over : Rows.pathsParentsRow.holds Tryd.pinned (OpenSpec.ofChange Rows.pathsParentsSpec) :=
  OpenClaim.holds_of_wide 4 Tryd.f4 rfl rfl rfl rfl rfl rfl rfl ⟨rfl, rfl, rfl, rfl, rfl⟩ rfl rfl rfl rfl rfl (by kernel_rfl) Tryd.func4 (by kernel_rfl)
    (of_decide_eq_true (by kernel_rfl)) (by unfold Func.isWrapper; first | (rw [if_pos (by decide +kernel)]; kernel_rfl) | (rw [if_neg (by decide +kernel)]; exact ⟨rfl, rfl⟩))
    (fun os started H enc _ => lifted os started H enc)

theorem card : Claim7.holds Tryd.pinned (.plain (OpenSpec.ofChange Rows.pathsParentsSpec)) Rows.pathsParentsCard :=
  Claim7.holds_tied_plain_at .later [] [.data, .pinned] true (true, "0704139ed722d04aeb671207528e4375d1497b3764c93c83cee7d66e3859cc24") false over (fun _ h => by cases h) (by kernel_rfl) (fun _ h => by cases h) pathsParents_row_tie rfl ⟨rfl, rfl⟩ (by kernel_rfl) rfl
    (fun f fn hf hfn => by
      obtain rfl : f = 4 := Option.some.inj ((show Tryd.prog.funcNamed Rows.pathsParentsRow.func = some 4 by kernel_rfl).symm.trans hf) |>.symm
      obtain rfl : fn = Tryd.f4 := (Option.some.inj (Tryd.func4.symm.trans hfn)).symm
      exact ⟨by kernel_rfl, fun j t ht => by
        rw [Tryd.params4] at ht
        have hm : t ∈ [9, 9] := by simpa using Array.mem_of_getElem? ht
        have hall : ([9, 9].all fun u => !Tryd.prog.wantsStandIn u) = true := by kernel_rfl
        exact (show Tryd.prog.wantsStandIn t = false by simpa using List.all_eq_true.1 hall t hm)⟩)
    (by kernel_rfl)

end Go.Proofs.YtcijpefddicmiaaDoor.pathsParents
namespace Go.Proofs.YtcijpefddicmiaaDoor
theorem pathsParents_proved : Rows.PathsParentsCardSaid := pathsParents.card
#print axioms pathsParents_proved
end Go.Proofs.YtcijpefddicmiaaDoor
