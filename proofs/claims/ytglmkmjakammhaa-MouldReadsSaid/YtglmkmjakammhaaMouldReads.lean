/-
  PROVED: 'wainwrightlaw01.MouldReads' returns true for every input (a slice of ints and a string, of whatever length and content), and its arguments read afterwards as before. Conditions: none beside those that the row itself says (the form's own reach).
-/
import Derived.Test.YtglmkmjakammhaaFrame
namespace Go.Proofs.Ytglmkmjakammhaa.mouldReads
open Go.ChangeShapes Go.WideShapes Go.ChangeAt Go.RowKit
open Go.ChangeMaps (open_string shut_string)
set_option linter.unusedVariables false

theorem readR_len (ws bs : List Int) : (readR ws bs).1.length ≤ ws.length := by
  unfold readR
  split
  · split
    · simp
    · simp [readTo_len]
  · simp

set_option maxHeartbeats 1000000 in
theorem walk (A : Option Addr) (n c : Nat) (ws : List Int) (s : ByteArray) (w : World) (hr : IntsAt w w.heap.size A n ws) (hn : n ≤ 17592186044416) (hs : s.size ≤ 1000000000000000) :
    Calls Try.prog 4 #[.slice A n c, .string s] w fun e w' => e = .returned (.bool true) ∧ Below w.heap.size w w' := by
  go_enter Try.func4, Try.ntmps4
  go_wp2_with fail
  refine (lives_any w).mono ?_
  rintro e w1 ⟨rfl, hb1⟩
  have h1 := hr.below hb1 (Nat.le_refl _)
  go_wp2_with fail
  refine (read_any A n c w.heap.size ws s w1 h1 hb1.size (by omega) hs).mono ?_
  rintro e w2 ⟨A1, n1, c1, rfl, hi1, hb2⟩
  have hb12 := hb1.trans (hb2.mono hb1.size)
  have h2 := hr.below hb12 (Nat.le_refl _)
  go_wp2_with fail
  refine (rread_any A n c w.heap.size ws s w2 h2 hb12.size (by omega) hs).mono ?_
  rintro e w3 ⟨A2, n2, c2, rfl, hi2, hb3⟩
  have hb13 := hb12.trans (hb3.mono hb12.size)
  have hi1' := (hi1.below hb3 (Nat.le_refl _)).more hb3.size
  have hl := readR_len ws (bytesOf s)
  have e1 := hi1.len
  have e2 := hi2.len
  have e0 := hr.len
  have g1 : n1 ≤ 20000000000000 := by omega
  have g2 : n2 ≤ 20000000000000 := by omega
  clear h1 h2 hb1 hb2 hb12 e1 e2 e0 hl
  generalize (readR ws (bytesOf s)).2 = er at *
  generalize (readR ws (bytesOf s)).1 = zs at *
  go_wp2_with (go_at_call 15; refine (same_any A1 A2 n1 c1 n2 c2 w3.heap.size zs zs w3 hi1' hi2 (Nat.le_refl _) g1 g2).mono ?_; rintro e w4 ⟨rfl, hb4⟩)
  all_goals go_ret
  all_goals exact ⟨by simp, hb13.trans (hb4.mono hb13.size)⟩

set_option maxRecDepth 100000 in
theorem lifted (os : Os) (started : os.Started) (H : Type) (enc : TypeId × Value → H) :
    ReturnsInHanded {} Try.checked os 4 .any (Rows.mouldReadsSpec.pre6 enc Try.prog Try.f4 Rows.mouldReadsRow.domain false) (Rows.mouldReadsSpec.post enc Try.prog Try.f4 false true false false) := by
  refine returnsInHanded_of_change_sized (C := Try.checked) own started (by kernel_rfl) Try.func4
    (ChangeSpec.witness6 (enc := enc) (C := Try.checked) false ⟨#[], #[.slice none 0 0, .string ByteArray.empty], []⟩ 8 (by kernel_rfl) (by kernel_rfl) (by kernel_rfl) (by kernel_rfl)) ?_
  intro W base args ds gs before hval0 hW hcnd hsz0 _
  have hval : ∀ (j : Nat) t v, Try.f4.params[j]? = some t → args[j]? = some v → Value.okWide Try.prog W .any base t v := hval0
  have hsz : (DataW.weightsEach Try.prog (Try.f4.params.toList ++ Rows.mouldReadsSpec.plain.varTypes Try.prog) (ds ++ gs)).all (· ≤ reachBytes) = true := hsz0
  have hW' := hW
  obtain ⟨p, q, hA0, hV, rfl, hfz, hnd⟩ := hW
  have hA : DataW.TrodAll enc Try.prog W 0 (fun _ => true) true Try.f4.params.toList args.toList ds p := hA0
  rw [Try.params4] at hA hval hsz
  obtain ⟨v0, vs0, d0, ds0, p0, q0, hargs, rfl, rfl, h0, r0⟩ := trodAll_cons hA
  obtain ⟨v1, vs1, d1, ds1, p1, q1, rfl, rfl, rfl, h1, r1⟩ := trodAll_cons r0
  obtain ⟨rfl, rfl, rfl⟩ := trodAll_nil r1
  obtain rfl : args = #[v0, v1] := by cases args; simp_all
  obtain ⟨rfl, rfl⟩ := trodVars_none hV
  obtain ⟨a0, len0, cap0, rfl⟩ := okWide_slice Try.underlying22 (hval 0 22 v0 rfl rfl)
  have lt0 : ∀ x ∈ p0, x.block < W.heap.size := by obtain ⟨m, hm⟩ := h0; exact DataW.trod_lt m _ _ _ hm
  obtain ⟨z0, w0, b0⟩ := row_open h0 (fun elems spare hd => sized_slice hsz (j := 0) (t := 22) (e := 3) rfl (by rw [hd]; rfl) Try.underlying22)
  obtain ⟨s1, rfl, rfl, rfl, hs1⟩ := open_string Try.underlying9 (hval 1 9 v1 rfl rfl) h1
  have b1 : s1.size ≤ 1000000000000000 := by
    have := sized_string hsz (j := 1) (t := 9) rfl rfl
    rw [Array.length_toList] at this
    simp only [reachBytes] at this
    exact Nat.le_trans this (by decide)
  clear hA0 hval0
  refine (walk a0 len0 cap0 z0 s1 W w0 b0 b1).mono fun e W' ⟨he, bel⟩ => ?_
  subst he
  exact ⟨_, rfl, _, _, _, [], _, [], hW', trodAll_mk1 (shut_bool Try.underlying4 _), (trodAll_cons_mk (Below.trod laidOut (by kernel_rfl) (of_decide_eq_true (by kernel_rfl)) h0 bel lt0) (trodAll_cons_mk (shut_string Try.underlying9 hs1) trodAll_mk0)), rfl, bel.frame _, fun h => by cases h⟩

theorem over : Rows.mouldReadsRow.holds Try.pinned (OpenSpec.ofChange Rows.mouldReadsSpec) :=
  OpenClaim.holds_of_wide 4 Try.f4 rfl rfl rfl rfl rfl rfl rfl ⟨rfl, rfl, rfl, rfl, rfl⟩ rfl rfl rfl rfl rfl (by kernel_rfl) Try.func4 (by kernel_rfl)
    (of_decide_eq_true (by kernel_rfl)) (by unfold Func.isWrapper; first | (rw [if_pos (by decide +kernel)]; kernel_rfl) | (rw [if_neg (by decide +kernel)]; exact ⟨rfl, rfl⟩))
    (fun os started H enc _ => lifted os started H enc)

end Go.Proofs.Ytglmkmjakammhaa.mouldReads
namespace Go.Proofs.Ytglmkmjakammhaa
theorem mouldReads_proved : Rows.MouldReadsSaid := mouldReads.over
#print axioms mouldReads_proved
end Go.Proofs.Ytglmkmjakammhaa
