/-
  PROVED: 'wainwrightlaw04.SpansOf' returns true for every input (a slice of ints, a slice of spans, an int), and its arguments read afterwards as before. Conditions: none beside those that the row itself says (the form's own reach).
-/
import Derived.Test.YtcillodbkgopdaaFrame
import Derived.Test.YtcillodbkgopdaaRefOf
import Derived.Test.YtcillodbkgopdaaRefMap
import Derived.Test.YtcillodbkgopdaaBlocks
namespace Go.Proofs.Ytcillodbkgopdaa.spansOf
open Go.ChangeShapes Go.WideShapes Go.ChangeAt Go.RowKit
set_option linter.unusedVariables false

set_option maxHeartbeats 2000000 in
theorem walk (A : Option Addr) (n c : Nat) (zs : List Int) (A' : Option Addr) (n' c' : Nat) (l : List Sp) (z : Int) (w : World) (h1 : IntsAt w w.heap.size A n zs ∧ n ≤ c) (h2 : SpsAt w w.heap.size A' n' l ∧ n' ≤ 9223372036854775807)
    (hz : -9223372036854775808 ≤ z ∧ z ≤ 9223372036854775807) :
    Calls Try.prog 3 #[.slice A n c, .slice A' n' c', .int .i64 z] w fun e w' => e = .returned (.bool true) ∧ Below w.heap.size w w' := by
  obtain ⟨hI, hnc⟩ := h1
  obtain ⟨hS, hn'⟩ := h2
  have HI := Lib.hid hI
  have HS := Lib.hid hS
  clear hI hS
  go_enter Try.func3, Try.ntmps3
  go_wp2_with fail
  refine (lives_any w).mono ?_
  rintro e w1 ⟨rfl, b1⟩
  have HB1 := Lib.hid b1
  have HI1 := Lib.hid (HI.out.below b1 (Nat.le_refl _))
  have HS1 := Lib.hid (HS.out.below b1 (Nat.le_refl _))
  clear b1
  go_wp2_with fail
  refine (early_any A n c w1 hnc).mono ?_
  rintro e w2 ⟨rfl, rfl⟩
  obtain ⟨m, hm⟩ : ∃ m : Nat, m = min n 300 := ⟨_, rfl⟩
  have HIM := Lib.hid (HI1.out.take m (by omega))
  have hm3 : m ≤ 300 := by omega
  have hmc : m ≤ c := by omega
  rw [← hm]
  clear hm
  generalize zs.take m = ys at *
  go_wp2_with fail
  refine (few_any A' n' c' w.heap.size l w1 HS1.out HB1.out.size hn').mono ?_
  rintro e w2 ⟨D, cd, rfl, hcd, hF, b2⟩
  have HMID := Lib.hid (fewR_mid HS.out.2.1)
  have hfl := fewR_len l
  have HB2 := Lib.hid (HB1.out.trans (b2.mono HB1.out.size))
  have HIM2 := Lib.hid (HIM.out.below b2 HB1.out.size)
  have HF := Lib.hid hF
  clear b2 hF
  generalize fewR l = L at *
  generalize hLn : L.length = k at *
  have HLn := Lib.hid hLn
  clear hLn
  have HOF := Lib.hid (of_any A m c w.heap.size ys w2 HIM2.out HB2.out.size hmc (by omega))
  have HRF := Lib.hid (fun (w' : World) (h : Below w2.heap.size w2 w') => rof_any A m c w.heap.size ys w' (HIM2.out.below h HB2.out.size) (Nat.le_trans HB2.out.size h.size) (by omega))
  have hol : (ofR ys).length ≤ 100000 := by
    have h1 := HIM2.out.len
    have h2 := ofN_len ys (min ys.length 65536)
    unfold ofR
    omega
  generalize ofR ys = R at *
  go_wp2_with fail
  all_goals
    refine HOF.out.mono ?_
    rintro e w3 ⟨E, ce, rfl, hce, hE, b3⟩
    have HE3 := Lib.hid hE
    have HB3 := Lib.hid b3
    clear b3 hE hce
    go_wp2_with fail
    refine (HRF.out w3 HB3.out).mono ?_
    rintro e w4 ⟨G, cg, rfl, hcg, hG, b4⟩
    have HG4 := Lib.hid hG
    have HE4 := Lib.hid (HE3.out.below b4 (Nat.le_refl _))
    have HB4 := Lib.hid (HB3.out.trans (b4.mono HB3.out.size))
    clear b4 hG hcg
    go_wp2_with fail
    refine (same_sps E G R.length ce cg _ _ R w4 HE4.out HG4.out (by omega)).mono ?_
    rintro e w5 ⟨rfl, d5⟩
    have HB5 := Lib.hid (Below.drews HB4.out d5)
    have HF5 := Lib.hid (HF.out.below HB5.out (Nat.le_refl _))
    clear d5
    go_wp2_with fail
    refine (map_any D k cd w2.heap.size L _ w5 HF5.out HB5.out.size (by omega) HMID.out (by omega)).mono ?_
    rintro e w6 ⟨E', ce', rfl, hce', hE', b6⟩
    have HE6 := Lib.hid hE'
    have HB6 := Lib.hid (HB5.out.trans (b6.mono HB5.out.size))
    have HF6 := Lib.hid (HF.out.below HB6.out (Nat.le_refl _))
    clear b6 hE' hce'
    go_wp2_with fail
    refine (rmap_any D k cd w2.heap.size L _ w6 HF6.out HB6.out.size (by omega) HMID.out (by omega)).mono ?_
    rintro e w7 ⟨G', cg', rfl, hcg', hG', b7⟩
    have HG7 := Lib.hid hG'
    have HE7 := Lib.hid (HE6.out.below b7 (Nat.le_refl _))
    have HB7 := Lib.hid (HB6.out.trans (b7.mono HB6.out.size))
    clear b7 hG' hcg'
    go_wp2_with fail
    refine (same_ints E' G' _ ce' cg' _ _ _ w7 HE7.out HG7.out (by rw [mapR_len]; omega)).mono ?_
    rintro e w8 ⟨rfl, d8⟩
    go_wp2
    go_ret
    exact ⟨rfl, Below.drews (HB2.out.trans (HB7.out.mono HB2.out.size)) d8⟩

set_option maxRecDepth 100000 in
theorem lifted (os : Os) (started : os.Started) (H : Type) (enc : TypeId × Value → H) :
    ReturnsInHanded {} Try.checked os 3 .any (Rows.spansOfSpec.pre6 enc Try.prog Try.f3 Rows.spansOfRow.domain false) (Rows.spansOfSpec.post enc Try.prog Try.f3 false true false false) := by
  refine returnsInHanded_of_change_sized (C := Try.checked) own started (by kernel_rfl) Try.func3
    (ChangeSpec.witness6 (enc := enc) (C := Try.checked) false ⟨#[], #[.slice none 0 0, .slice none 0 0, .int .i64 0], []⟩ 8 (by kernel_rfl) (by kernel_rfl) (by kernel_rfl) (by kernel_rfl)) ?_
  intro W base args ds gs before hval0 hW hcnd hsz0 _
  have hval : ∀ (j : Nat) t v, Try.f3.params[j]? = some t → args[j]? = some v → Value.okWide Try.prog W .any base t v := hval0
  have hW' := hW
  obtain ⟨p, q, hA0, hV, rfl, hfz, hnd⟩ := hW
  have hA : DataW.TrodAll enc Try.prog W 0 (fun _ => true) true Try.f3.params.toList args.toList ds p := hA0
  rw [Try.params3] at hA hval
  obtain ⟨v0, vs0, d0, ds0, p0, q0, hargs, rfl, rfl, h0, r0⟩ := trodAll_cons hA
  obtain ⟨v1, vs1, d1, ds1, p1, q1, rfl, rfl, rfl, h1, r1⟩ := trodAll_cons r0
  obtain ⟨v2, vs2, d2, ds2, p2, q2, rfl, rfl, rfl, h2, r2⟩ := trodAll_cons r1
  obtain ⟨rfl, rfl, rfl⟩ := trodAll_nil r2
  obtain rfl : args = #[v0, v1, v2] := by cases args; simp_all
  obtain ⟨rfl, rfl⟩ := trodVars_none hV
  have lt0 : ∀ x ∈ p0, x.block < W.heap.size := by obtain ⟨m, hm⟩ := h0; exact DataW.trod_lt m _ _ _ hm
  obtain ⟨a0, len0, cap0, rfl⟩ := okWide_slice Try.underlying22 (hval 0 22 v0 rfl rfl)
  obtain ⟨l0, w0⟩ := ints_open h0
  have lt1 : ∀ x ∈ p1, x.block < W.heap.size := by obtain ⟨m, hm⟩ := h1; exact DataW.trod_lt m _ _ _ hm
  obtain ⟨a1, len1, cap1, rfl⟩ := okWide_slice Try.underlying23 (hval 1 23 v1 rfl rfl)
  obtain ⟨l1, w1⟩ := sps_open h1
  obtain ⟨n2, rfl, rfl, rfl, wn2⟩ := open_int Try.underlying3 (hval 2 3 v2 rfl rfl) h2
  clear hA0 hval0
  refine (walk a0 len0 cap0 l0 a1 len1 cap1 l1 n2 W w0 w1 (i64_of_wf wn2)).mono fun e W' ⟨he, bel⟩ => ?_
  subst he
  exact ⟨_, rfl, _, _, _, [], _, [], hW', trodAll_mk1 (shut_bool Try.underlying4 _), (trodAll_cons_mk (Below.trod laidOut (by kernel_rfl) (of_decide_eq_true (by kernel_rfl)) h0 bel lt0) (trodAll_cons_mk (Below.trod laidOut (by kernel_rfl) (of_decide_eq_true (by kernel_rfl)) h1 bel lt1) (trodAll_cons_mk (shut_int Try.underlying3 wn2) trodAll_mk0))), rfl, bel.frame _, fun h => by cases h⟩

theorem over : Rows.spansOfRow.holds Try.pinned (OpenSpec.ofChange Rows.spansOfSpec) :=
  OpenClaim.holds_of_wide 3 Try.f3 rfl rfl rfl rfl rfl rfl rfl ⟨rfl, rfl, rfl, rfl, rfl⟩ rfl rfl rfl rfl rfl (by kernel_rfl) Try.func3 (by kernel_rfl)
    (of_decide_eq_true (by kernel_rfl)) (by unfold Func.isWrapper; first | (rw [if_pos (by decide +kernel)]; kernel_rfl) | (rw [if_neg (by decide +kernel)]; exact ⟨rfl, rfl⟩))
    (fun os started H enc _ => lifted os started H enc)

end Go.Proofs.Ytcillodbkgopdaa.spansOf
namespace Go.Proofs.Ytcillodbkgopdaa
theorem spansOf_proved : Rows.SpansOfSaid := spansOf.over
#print axioms spansOf_proved
end Go.Proofs.Ytcillodbkgopdaa
