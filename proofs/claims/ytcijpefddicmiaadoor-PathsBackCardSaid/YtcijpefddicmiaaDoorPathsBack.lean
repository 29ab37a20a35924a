/-
  PROVED: 'wainwrightlaw06.PathsBack' returns true for every text, and leaves its argument as it was; the card ties the tables that the row lists to the program's text. Conditions: none.
-/
import Derived.Test.YtcijpefddicmiaaDoorFrame
namespace Go.Proofs.YtcijpefddicmiaaDoor.pathsBack
open Go.ChangeShapes Go.WideShapes Go.ChangeAt Go.RowKit
open Go.ChangeMaps (open_string shut_string)

theorem under_self (l : List (List UInt8)) : underO (some l) (some l) = true := by
  show decide _ = true
  rw [decide_eq_true_eq, List.take_length]
theorem under_up (l : List (List UInt8)) (k : Nat) : underO (some (l.take k)) (some l) = true := by
  show decide _ = true
  rw [decide_eq_true_eq, List.length_take]
  rcases Nat.le_total k l.length with h | h
  · rw [Nat.min_eq_left h]
  · rw [Nat.min_eq_right h, List.take_length, List.take_of_length_le h]
theorem join_short {l : List (List UInt8)} {p : List UInt8} (h : joinL l = some p) : p.length ≤ 255 := by
  unfold joinL at h
  split at h
  · cases h; simp
  · split at h
    · rename_i hh; cases h; exact hh.2
    · cases h

set_option maxHeartbeats 8000000 in
theorem walk (a : ByteArray) (w : World) (ha : a.size ≤ 140737488355328) (hm : MaxAt w) :
    Calls Tryd.prog 6 #[.string a] w fun e w' => e = .returned (.bool true) ∧ Below w.heap.size w w' := by
  obtain ⟨p, rfl⟩ : ∃ p, a = bs p := ⟨a.data.toList, (bs_eq a).symm⟩
  have HL := Lib.hid (lives_any w hm)
  have HS : Hid (∀ W, MaxAt W → Calls Tryd.prog 9 #[.string (bs p)] W (RetNames W (namesL p))) := fun W h => split_any p W ha h
  have HP : Hid (∀ W, MaxAt W → Calls Tryd.prog 14 #[.string (bs p)] W (RetParent W (parentL (namesL p)))) := fun W h => parent_any p W ha h
  have HU : Hid (∀ W, MaxAt W → Calls Tryd.prog 16 #[.string (bs p), .string (bs p)] W _) := fun W h => under_any p p W ha ha h
  have HM := Lib.hid hm
  cases ho : namesL p with
  | none =>
    rw [ho] at HS HP HU
    rw [under_none] at HU
    clear hm ha
    generalize bs p = P at *
    go_enter Tryd.func6, Tryd.ntmps6
    go_wp2_with fail
    refine HL.out.mono ?_
    rintro e w1 ⟨rfl, hb1⟩
    have hm1 := HM.out.to hb1
    go_wp2_with fail
    refine (HS.out w1 hm1).mono ?_
    rintro e w2 ⟨A, n, c, rfl, hb2, hA, -⟩
    rw [show errI (none : Option (List (List UInt8))) = 4 from rfl]
    have hn : n = 0 := hA.len.symm
    subst hn
    have hm2 := hm1.to hb2
    clear hA
    go_wp2_with fail
    refine (HU.out w2 hm2).mono ?_
    rintro e w3 ⟨rfl, hb3⟩
    have q2 := hb1.trans (hb2.mono hb1.size)
    have q3 := q2.trans (hb3.mono q2.size)
    go_wp2
    go_ret
    exact ⟨rfl, q3⟩
  | some l =>
    have hj := namesL_join ho
    have hlen := names_len ho
    rw [ho] at HS HP HU
    rw [under_self] at HU
    have HJ : Hid (∀ W A n c, StrsAt W W.heap.size A n l → n ≤ 256 → Calls Tryd.prog 18 #[.slice A n c] W (RetJoin W (some p))) := fun W A n c h hn => by
      have := join_any l A n c W h (by omega)
      rwa [hj] at this
    unfold RetJoin at HJ
    rw [show errI (some p) = 0 from rfl, show (some p).getD [] = p from rfl] at HJ
    have e1 : ((bs p).toList == (bs p).toList) = true := by simp
    by_cases h0 : l.length = 0
    · have hpar : parentL (some l) = ([], [], 1) := by simp [parentL, h0]
      rw [hpar] at HP
      unfold RetParent at HP
      simp only at HP
      clear hm ha hj hpar
      generalize bs p = P at *
      go_enter Tryd.func6, Tryd.ntmps6
      go_wp2_with fail
      refine HL.out.mono ?_
      rintro e w1 ⟨rfl, hb1⟩
      have hm1 := HM.out.to hb1
      go_wp2_with fail
      refine (HS.out w1 hm1).mono ?_
      rintro e w2 ⟨A, n, c, rfl, hb2, hA, -⟩
      rw [show errI (some l) = 0 from rfl]
      have hn : n = 0 := by rw [← hA.len]; exact h0
      subst hn
      have hm2 := hm1.to hb2
      have hA2 : StrsAt w2 w2.heap.size A 0 l := hA
      clear hA
      go_wp2_with fail
      refine (HJ.out w2 A 0 c hA2 (by omega)).mono ?_
      rintro e w3 ⟨rfl, hb3⟩
      have hm3 := hm2.to hb3
      go_wp2_with fail
      refine (HP.out w3 hm3).mono ?_
      rintro e w4 ⟨rfl, hb4⟩
      have q2 := hb1.trans (hb2.mono hb1.size)
      have q3 := q2.trans (hb3.mono q2.size)
      have q4 := q3.trans (hb4.mono q3.size)
      go_wp2
      go_ret
      exact ⟨rfl, q4⟩
    · obtain ⟨J, hJ⟩ : ∃ J, joinL (l.take (l.length - 1)) = some J := joinL_take hj _
      have hJs := join_short hJ
      have hJn := joinL_names hJ
      have hpar : parentL (some l) = (J, l.getD (l.length - 1) [], 0) := by simp [parentL, h0, hJ]
      rw [hpar] at HP
      unfold RetParent at HP
      simp only at HP
      have HU1 : Hid (∀ W, MaxAt W → Calls Tryd.prog 16 #[.string (bs J), .string (bs p)] W fun e w' => e = .returned (.bool true) ∧ Below W.heap.size W w') := fun W h => by
        have := under_any J p W (by omega) ha h
        rwa [hJn, ho, under_up] at this
      have HU2 : Hid (∀ W, MaxAt W → Calls Tryd.prog 16 #[.string (bs p), .string (bs J)] W fun e w' => e = .returned (.bool false) ∧ Below W.heap.size W w') := fun W h => by
        have := under_any p J W ha (by omega) h
        rwa [hJn, ho, under_long (by rw [List.length_take]; omega)] at this
      have e2 : ((bs (l.getD (l.length - 1) [])).toList == (bs (l.getD (l.length - 1) [])).toList) = true := by simp
      clear hm ha hj hpar hJn hJs hJ
      generalize bs p = P at *
      generalize bs J = U at *
      go_enter Tryd.func6, Tryd.ntmps6
      go_wp2_with fail
      refine HL.out.mono ?_
      rintro e w1 ⟨rfl, hb1⟩
      have hm1 := HM.out.to hb1
      go_wp2_with fail
      refine (HS.out w1 hm1).mono ?_
      rintro e w2 ⟨A, n, c, rfl, hb2, hA, -⟩
      rw [show errI (some l) = 0 from rfl]
      have hA2 : StrsAt w2 w2.heap.size A n l := hA
      have hl : l.length = n := hA2.len
      obtain ⟨m, rfl⟩ : ∃ m, n = m + 1 := ⟨n - 1, by omega⟩
      rw [hl, show m + 1 - 1 = m from rfl] at HP e2
      have hm2 := hm1.to hb2
      have hmn : m + 1 ≤ 256 := by omega
      have hne : (((m + 1 : Nat) : Int) == 0) = false := by rw [beq_eq_false_iff_ne]; omega
      have hm1' : ((m + 1 : Nat) : Int) - 1 = (m : Int) := by omega
      have hm0 : (0 : Int) ≤ (m : Int) := by omega
      clear hA hl h0 hlen
      go_wp2_with fail
      refine (HJ.out w2 A (m + 1) c hA2 hmn).mono ?_
      rintro e w3 ⟨rfl, hb3⟩
      have hm3 := hm2.to hb3
      have hA3 := hA2.to hb3
      go_wp2_with fail
      refine (HP.out w3 hm3).mono ?_
      rintro e w4 ⟨rfl, hb4⟩
      have hm4 := hm3.to hb4
      obtain ⟨b, o, rfl, hB, hcell⟩ := (hA3.to hb4).at_ (k := m) (by omega)
      have q2 := hb1.trans (hb2.mono hb1.size)
      have q3 := q2.trans (hb3.mono q2.size)
      have q4 := q3.trans (hb4.mono q3.size)
      have HQ4 := Lib.hid q4
      have HM4 := Lib.hid hm4
      clear q2 q3 q4 hA2 hA3 hb1 hb2 hb3 hb4 hm1 hm2 hm3 hm4
      generalize bs (l.getD m []) = X at *
      go_wp2_with fail
      refine (HU1.out w4 HM4.out).mono ?_
      rintro e w5 ⟨rfl, hb5⟩
      have q5 := HQ4.out.trans (hb5.mono HQ4.out.size)
      have hm5 := HM4.out.to hb5
      go_wp2_with fail
      refine (HU.out w5 hm5).mono ?_
      rintro e w6 ⟨rfl, hb6⟩
      have q6 := q5.trans (hb6.mono q5.size)
      have hm6 := hm5.to hb6
      go_wp2_with fail
      refine (HU2.out w6 hm6).mono ?_
      rintro e w7 ⟨rfl, hb7⟩
      have q7 := q6.trans (hb7.mono q6.size)
      go_wp2
      go_ret
      exact ⟨rfl, q7⟩

set_option maxRecDepth 100000 in
theorem lifted (os : Os) (started : os.Started) (H : Type) (enc : TypeId × Value → H) :
    ReturnsInHanded {} Tryd.checked os 6 .any (fun w args => (Rows.pathsBackSpec.pre enc Tryd.prog Tryd.f6 [] false w args ∧ laidMetH Tryd.prog LAID w) ∧ sizedMet enc Tryd.prog Tryd.f6 (OpenSpec.ofChange Rows.pathsBackSpec) false w args) (Rows.pathsBackSpec.post enc Tryd.prog Tryd.f6 false true false false) := by
  refine returns_shaped (C := Tryd.checked) (X := fun w _ => laidMetH Tryd.prog LAID w) own started (by kernel_rfl) Tryd.func6
    (ChangeSpec.witness_shaped (enc := enc) (C := Tryd.checked) (os := os) (X := fun w _ => laidMetH Tryd.prog LAID w) false (World.laidAll Tryd.prog os LAID) #[.string ByteArray.empty] 8 (World.laidAll_os _ _ _)
      (World.shaped_of_ZipB (by kernel_rfl) (by kernel_rfl)) (by kernel_rfl) (by kernel_rfl) (by kernel_rfl)
      (by rw [laid_plain]; exact laidMet_laidAll _ (by kernel_rfl) (by kernel_rfl))) ?_
  intro W base args ds gs before hval0 hW hsz0 hsh
  have hval : ∀ (j : Nat) t v, Tryd.f6.params[j]? = some t → args[j]? = some v → Value.okWide Tryd.prog W .any base t v := hval0
  have hsz : (DataW.weightsEach Tryd.prog (Tryd.f6.params.toList ++ Rows.pathsBackSpec.plain.varTypes Tryd.prog) (ds ++ gs)).all (· ≤ reachBytes) = true := hsz0
  have hW' := hW
  obtain ⟨p, q, hA0, hV, rfl, hfz, hnd⟩ := hW
  have hA : DataW.TrodAll enc Tryd.prog W 0 (fun _ => true) true Tryd.f6.params.toList args.toList ds p := hA0
  rw [Tryd.params6] at hA hval hsz
  obtain ⟨v0, vs0, d0, ds0, p0, q0, hargs, rfl, rfl, h0, r0⟩ := trodAll_cons hA
  obtain ⟨rfl, rfl, rfl⟩ := trodAll_nil r0
  obtain rfl : args = #[v0] := by cases args; simp_all
  obtain ⟨rfl, rfl⟩ := trodVars_none hV
  obtain ⟨s0, rfl, rfl, rfl, hs0⟩ := open_string Tryd.underlying9 (hval 0 9 v0 rfl rfl) h0
  have b0 : s0.size ≤ 140737488355328 := by
    have := sized_string hsz (j := 0) (t := 9) rfl rfl
    rw [Array.length_toList] at this
    simp only [reachBytes] at this
    exact Nat.le_trans this (by decide)
  clear hA0 hval0
  refine (walk s0 W b0 (max_at hsh)).mono fun e W' ⟨he, bel⟩ => ?_
  subst he
  exact ⟨_, rfl, _, _, _, [], _, [], hW', trodAll_mk1 (shut_bool Tryd.underlying4 _), (trodAll_cons_mk (shut_string Tryd.underlying9 hs0) trodAll_mk0), rfl, bel.frame _, fun h => by cases h⟩

theorem over : Rows.pathsBackRow.holds Tryd.pinned (OpenSpec.ofChange Rows.pathsBackSpec) :=
  OpenClaim.holds_of_wide 6 Tryd.f6 rfl rfl rfl rfl rfl rfl rfl ⟨rfl, rfl, rfl, rfl, rfl⟩ rfl rfl rfl rfl rfl (by kernel_rfl) Tryd.func6 (by kernel_rfl)
    (of_decide_eq_true (by kernel_rfl)) (by unfold Func.isWrapper; first | (rw [if_pos (by decide +kernel)]; kernel_rfl) | (rw [if_neg (by decide +kernel)]; exact ⟨rfl, rfl⟩))
    (fun os started H enc _ => lifted os started H enc)

theorem card : Claim7.holds Tryd.pinned (.plain (OpenSpec.ofChange Rows.pathsBackSpec)) Rows.pathsBackCard :=
  Claim7.holds_tied_plain_at .later [] [.data, .pinned] true (true, "0704139ed722d04aeb671207528e4375d1497b3764c93c83cee7d66e3859cc24") false over (fun _ h => by cases h) (by kernel_rfl) (fun _ h => by cases h) pathsBack_row_tie rfl ⟨rfl, rfl⟩ (by kernel_rfl) rfl
    (fun f fn hf hfn => by
      obtain rfl : f = 6 := Option.some.inj ((show Tryd.prog.funcNamed Rows.pathsBackRow.func = some 6 by kernel_rfl).symm.trans hf) |>.symm
      obtain rfl : fn = Tryd.f6 := (Option.some.inj (Tryd.func6.symm.trans hfn)).symm
      exact ⟨by kernel_rfl, fun j t ht => by
        rw [Tryd.params6] at ht
        have hm : t ∈ [9] := by simpa using Array.mem_of_getElem? ht
        have hall : ([9].all fun u => !Tryd.prog.wantsStandIn u) = true := by kernel_rfl
        exact (show Tryd.prog.wantsStandIn t = false by simpa using List.all_eq_true.1 hall t hm)⟩)
    (by kernel_rfl)

end Go.Proofs.YtcijpefddicmiaaDoor.pathsBack
namespace Go.Proofs.YtcijpefddicmiaaDoor
theorem pathsBack_proved : Rows.PathsBackCardSaid := pathsBack.card
#print axioms pathsBack_proved
end Go.Proofs.YtcijpefddicmiaaDoor
