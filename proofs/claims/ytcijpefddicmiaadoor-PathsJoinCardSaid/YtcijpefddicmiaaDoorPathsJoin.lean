/-
  PROVED: 'wainwrightlaw06.PathsJoin' returns true for every list of texts, and leaves its argument as it was; the card ties the tables that the row lists to the program's text. Conditions: none.
-/
import Derived.Test.YtcijpefddicmiaaDoorFrame
namespace Go.Proofs.YtcijpefddicmiaaDoor.pathsJoin
open Go.ChangeShapes Go.WideShapes Go.ChangeAt Go.RowKit
open Go.ChangeMaps (open_string shut_string)

theorem same_self (x : List (List UInt8)) : sameL x x = true := by simp [sameL]
theorem join_short {l : List (List UInt8)} {p : List UInt8} (h : joinL l = some p) : p.length ≤ 255 := by
  unfold joinL at h
  split at h
  · cases h; simp
  · split at h
    · rename_i hh; cases h; exact hh.2
    · cases h

set_option maxHeartbeats 4000000 in
theorem walk (A : Option Addr) (n c : Nat) (l : List (List UInt8)) (w : World) (hA : StrsAt w w.heap.size A n l) (hn : n ≤ 8796093022208) (hx : ∀ k, (l.getD k []).length ≤ 9223372036854775807) (hm : MaxAt w) :
    Calls Tryd.prog 5 #[.slice A n c] w fun e w' => e = .returned (.bool true) ∧ Below w.heap.size w w' := by
  have HL := Lib.hid (lives_any w hm)
  have HJ : Hid (∀ W, StrsAt W W.heap.size A n l → Calls Tryd.prog 18 #[.slice A n c] W (RetJoin W (joinL l))) := fun W h => join_any l A n c W h (by omega)
  have HK : Hid (∀ W, StrsAt W W.heap.size A n l → Calls Tryd.prog 19 #[.slice A n c] W (RetJoin W (joinL l))) := fun W h => rjoin_any l A n c W h hn hx
  have HM := Lib.hid hm
  have HA := Lib.hid hA
  clear hm hx
  cases ho : joinL l with
  | none =>
    rw [ho] at HJ HK
    have HS : Hid (∀ W, MaxAt W → Calls Tryd.prog 9 #[.string (bs [])] W (RetNames W none)) := fun W h => split_any [] W (by decide) h
    unfold RetJoin at HJ HK
    rw [show errI (none : Option (List UInt8)) = 4 from rfl, show (none : Option (List UInt8)).getD [] = [] from rfl] at HJ HK
    have e1 : ((bs []).toList == (bs []).toList) = true := by simp
    generalize bs [] = P at *
    clear hA ho
    go_enter Tryd.func5, Tryd.ntmps5
    go_wp2_with fail
    refine HL.out.mono ?_
    rintro e w1 ⟨rfl, hb1⟩
    have hA1 := HA.out.to hb1
    go_wp2_with fail
    refine (HJ.out w1 hA1).mono ?_
    rintro e w2 ⟨rfl, hb2⟩
    have hA2 := hA1.to hb2
    have hm2 := (HM.out.to hb1).to hb2
    go_wp2_with fail
    refine (HK.out w2 hA2).mono ?_
    rintro e w3 ⟨rfl, hb3⟩
    have hm3 := hm2.to hb3
    clear hA1 hA2
    go_wp2_with fail
    refine (HS.out w3 hm3).mono ?_
    rintro e w4 ⟨A', n', c', rfl, hb4, -, -⟩
    rw [show errI (none : Option (List (List UInt8))) = 4 from rfl]
    have q2 := hb1.trans (hb2.mono hb1.size)
    have q3 := q2.trans (hb3.mono q2.size)
    have q4 := q3.trans (hb4.mono q3.size)
    go_wp2
    go_ret
    exact ⟨rfl, q4⟩
  | some p =>
    rw [ho] at HJ HK
    have HS : Hid (∀ W, MaxAt W → Calls Tryd.prog 9 #[.string (bs p)] W (RetNames W (some l))) := fun W h => by
      have := split_any p W (by have := join_short ho; omega) h
      rwa [joinL_names ho] at this
    unfold RetJoin at HJ HK
    rw [show errI (some p) = 0 from rfl, show (some p).getD [] = p from rfl] at HJ HK
    have e1 : ((bs p).toList == (bs p).toList) = true := by simp
    generalize bs p = P at *
    clear hA ho
    go_enter Tryd.func5, Tryd.ntmps5
    go_wp2_with fail
    refine HL.out.mono ?_
    rintro e w1 ⟨rfl, hb1⟩
    have hA1 := HA.out.to hb1
    go_wp2_with fail
    refine (HJ.out w1 hA1).mono ?_
    rintro e w2 ⟨rfl, hb2⟩
    have hA2 := hA1.to hb2
    have hm2 := (HM.out.to hb1).to hb2
    go_wp2_with fail
    refine (HK.out w2 hA2).mono ?_
    rintro e w3 ⟨rfl, hb3⟩
    have hm3 := hm2.to hb3
    have hA3 := hA2.to hb3
    go_wp2_with fail
    refine (HS.out w3 hm3).mono ?_
    rintro e w4 ⟨A', n', c', rfl, hb4, hA', -⟩
    rw [show errI (some l) = 0 from rfl]
    have hA4 := hA3.to hb4
    have hA4' : StrsAt w4 w4.heap.size A' n' l := hA'
    have l1 := hA4.len
    have l2 := hA4'.len
    have HSM := same_any l l A A' n n' c c' w4 hA4 hA4' (by omega) (by omega)
    rw [same_self] at HSM
    have HSM' := Lib.hid HSM
    have q2 := hb1.trans (hb2.mono hb1.size)
    have q3 := q2.trans (hb3.mono q2.size)
    have q4 := q3.trans (hb4.mono q3.size)
    have HQ4 := Lib.hid q4
    clear HSM q2 q3 q4 hA1 hA2 hA3 hA' hA4 hA4' l1 l2 hb1 hb2 hb3 hb4 hm2 hm3
    go_wp2_with fail
    refine HSM'.out.mono ?_
    rintro e w6 ⟨rfl, hb6⟩
    go_wp2
    go_ret
    exact ⟨rfl, HQ4.out.trans (hb6.mono HQ4.out.size)⟩

set_option maxRecDepth 100000 in
theorem lifted (os : Os) (started : os.Started) (H : Type) (enc : TypeId × Value → H) :
    ReturnsInHanded {} Tryd.checked os 5 .any (fun w args => (Rows.pathsJoinSpec.pre enc Tryd.prog Tryd.f5 [] false w args ∧ laidMetH Tryd.prog LAID w) ∧ sizedMet enc Tryd.prog Tryd.f5 (OpenSpec.ofChange Rows.pathsJoinSpec) false w args) (Rows.pathsJoinSpec.post enc Tryd.prog Tryd.f5 false true false false) := by
  refine returns_shaped (C := Tryd.checked) (X := fun w _ => laidMetH Tryd.prog LAID w) own started (by kernel_rfl) Tryd.func5
    (ChangeSpec.witness_shaped (enc := enc) (C := Tryd.checked) (os := os) (X := fun w _ => laidMetH Tryd.prog LAID w) false (World.laidAll Tryd.prog os LAID) #[.slice none 0 0] 8 (World.laidAll_os _ _ _)
      (World.shaped_of_ZipB (by kernel_rfl) (by kernel_rfl)) (by kernel_rfl) (by kernel_rfl) (by kernel_rfl)
      (by rw [laid_plain]; exact laidMet_laidAll _ (by kernel_rfl) (by kernel_rfl))) ?_
  intro W base args ds gs before hval0 hW hsz0 hsh
  have hval : ∀ (j : Nat) t v, Tryd.f5.params[j]? = some t → args[j]? = some v → Value.okWide Tryd.prog W .any base t v := hval0
  have hsz : (DataW.weightsEach Tryd.prog (Tryd.f5.params.toList ++ Rows.pathsJoinSpec.plain.varTypes Tryd.prog) (ds ++ gs)).all (· ≤ reachBytes) = true := hsz0
  have hW' := hW
  obtain ⟨p, q, hA0, hV, rfl, hfz, hnd⟩ := hW
  have hA : DataW.TrodAll enc Tryd.prog W 0 (fun _ => true) true Tryd.f5.params.toList args.toList ds p := hA0
  rw [Tryd.params5] at hA hval hsz
  obtain ⟨v0, vs0, d0, ds0, p0, q0, hargs, rfl, rfl, h0, r0⟩ := trodAll_cons hA
  obtain ⟨rfl, rfl, rfl⟩ := trodAll_nil r0
  obtain rfl : args = #[v0] := by cases args; simp_all
  obtain ⟨rfl, rfl⟩ := trodVars_none hV
  have lt0 : ∀ x ∈ p0, x.block < W.heap.size := by obtain ⟨m, hm⟩ := h0; exact DataW.trod_lt m _ _ _ hm
  obtain ⟨a0, len0, cap0, rfl⟩ := okWide_slice Tryd.underlying23 (hval 0 23 v0 rfl rfl)
  obtain ⟨l0, w0, b0, x0⟩ := strs_open h0 (fun elems spare hd => sized_slice hsz (j := 0) (t := 23) (e := 9) rfl (by rw [hd]; rfl) Tryd.underlying23)
  clear hA0 hval0
  refine (walk a0 len0 cap0 l0 W w0 b0 x0 (max_at hsh)).mono fun e W' ⟨he, bel⟩ => ?_
  subst he
  exact ⟨_, rfl, _, _, _, [], _, [], hW', trodAll_mk1 (shut_bool Tryd.underlying4 _), (trodAll_cons_mk (Below.trod laidOut (by kernel_rfl) (of_decide_eq_true (by kernel_rfl)) h0 bel lt0) trodAll_mk0), rfl, bel.frame _, fun h => by cases h⟩

theorem over : Rows.pathsJoinRow.holds Tryd.pinned (OpenSpec.ofChange Rows.pathsJoinSpec) :=
  OpenClaim.holds_of_wide 5 Tryd.f5 rfl rfl rfl rfl rfl rfl rfl ⟨rfl, rfl, rfl, rfl, rfl⟩ rfl rfl rfl rfl rfl (by kernel_rfl) Tryd.func5 (by kernel_rfl)
    (of_decide_eq_true (by kernel_rfl)) (by unfold Func.isWrapper; first | (rw [if_pos (by decide +kernel)]; kernel_rfl) | (rw [if_neg (by decide +kernel)]; exact ⟨rfl, rfl⟩))
    (fun os started H enc _ => lifted os started H enc)

theorem card : Claim7.holds Tryd.pinned (.plain (OpenSpec.ofChange Rows.pathsJoinSpec)) Rows.pathsJoinCard :=
  Claim7.holds_tied_plain_at .later [] [.data, .pinned] true (true, "0704139ed722d04aeb671207528e4375d1497b3764c93c83cee7d66e3859cc24") false over (fun _ h => by cases h) (by kernel_rfl) (fun _ h => by cases h) pathsJoin_row_tie rfl ⟨rfl, rfl⟩ (by kernel_rfl) rfl
    (fun f fn hf hfn => by
      obtain rfl : f = 5 := Option.some.inj ((show Tryd.prog.funcNamed Rows.pathsJoinRow.func = some 5 by kernel_rfl).symm.trans hf) |>.symm
      obtain rfl : fn = Tryd.f5 := (Option.some.inj (Tryd.func5.symm.trans hfn)).symm
      exact ⟨by kernel_rfl, fun j t ht => by
        rw [Tryd.params5] at ht
        have hm : t ∈ [23] := by simpa using Array.mem_of_getElem? ht
        have hall : ([23].all fun u => !Tryd.prog.wantsStandIn u) = true := by kernel_rfl
        exact (show Tryd.prog.wantsStandIn t = false by simpa using List.all_eq_true.1 hall t hm)⟩)
    (by kernel_rfl)

end Go.Proofs.YtcijpefddicmiaaDoor.pathsJoin
namespace Go.Proofs.YtcijpefddicmiaaDoor
theorem pathsJoin_proved : Rows.PathsJoinCardSaid := pathsJoin.card
#print axioms pathsJoin_proved
end Go.Proofs.YtcijpefddicmiaaDoor
