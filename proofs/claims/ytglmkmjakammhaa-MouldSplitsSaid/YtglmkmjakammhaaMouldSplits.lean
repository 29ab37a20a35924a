/-
  PROVED: 'wainwrightlaw01.MouldSplits' returns true for every input (two slices of ints and an int, whatever they hold), and its arguments read afterwards as before. Conditions: none beside those that the row itself says (the form's own reach).
-/
import Derived.Test.YtglmkmjakammhaaFrame
import Derived.Test.YtglmkmjakammhaaPlainC
import Derived.Deep.RegionWith
namespace Go.Proofs.Ytglmkmjakammhaa.mouldSplits
open Go.ChangeShapes Go.WideShapes Go.ChangeAt Go.RowKit
set_option linter.unusedVariables false

theorem writeR_lens (ws vs : List Int) (h : (writeR ws vs).2 = 0) : ws.length = vs.length := by
  unfold writeR at h
  split at h
  · rename_i hc; exact hc.2
  · simp at h
theorem _root_.Go.Proofs.Ytglmkmjakammhaa.IntsAt.take {w : World} {B : Nat} {A : Option Addr} {n k : Nat} {zs : List Int} (h : IntsAt w B A n zs) (hk : k ≤ n) : IntsAt w B A k (zs.take k) := by
  refine ⟨by rw [List.length_take, h.len]; omega, fun z hz => h.2.1 z (List.mem_of_mem_take hz), fun i hi => ?_⟩
  obtain ⟨b, o, e, hb, hc⟩ := h.2.2 i (by omega)
  exact ⟨b, o, e, hb, by rw [hc, getD_take zs hi]⟩
theorem nums_append (a b : List Int) : strOfNums a ++ strOfNums b = strOfNums (a ++ b) := by
  apply ByteArray.ext
  apply Array.ext'
  simp [strOfNums]
theorem _root_.Go.Proofs.Ytglmkmjakammhaa.IntsAt.drop {w : World} {B : Nat} {A : Option Addr} {n k : Nat} {zs : List Int} (h : IntsAt w B A n zs) (hk : k ≤ n) : IntsAt w B (Option.map (fun x => x.add k) A) (n - k) (zs.drop k) := by
  refine ⟨by rw [List.length_drop, h.len], fun z hz => h.2.1 z (List.mem_of_mem_drop hz), fun i hi => ?_⟩
  obtain ⟨b, o, e, hb, hc⟩ := h.2.2 (k + i) (by omega)
  subst e
  refine ⟨b, o + k, by simp only [Option.map_some, Go.WideShapes.add_plain], hb, ?_⟩
  rw [show o + k + i = o + (k + i) by omega, hc, getD_drop]
theorem _root_.Go.Proofs.Ytglmkmjakammhaa.IntsAt.end_ {w : World} {B : Nat} {A : Option Addr} {n : Nat} {zs : List Int} (h : IntsAt w B A n zs) (A' : Option Addr) : IntsAt w B A' 0 (zs.drop n) := by
  rw [List.drop_of_length_le (by rw [h.len]; exact Nat.le_refl _)]
  exact ⟨rfl, by simp, by intro k hk; omega⟩
theorem row_cap {H : Type} {enc : TypeId × Value → H} {W : World} {a : Option Addr} {len cap : Nat} {d : DataW H} {p : List MemPlace}
    (h : DataW.Trod enc Try.prog W 0 (fun _ => true) true 22 (.slice a len cap) d p) : len ≤ cap := by
  obtain ⟨fuel, hf⟩ := h
  rcases open_ints Try.underlying22 Try.underlying3 (by kernel_rfl) hf with ⟨hcs, _⟩ | ⟨x, l, c, zs, hcs, _, hl, _⟩
  · simp [Value.cells] at hcs; omega
  · simp [Value.cells] at hcs; omega
theorem cut_place (cut : Int) (n : Nat) (hn : n ≤ 17592186044416) : ∃ k : Nat, wrap64 ((IntKind.u64.wrap cut).tmod (n + 1)) = k ∧ k ≤ n := by
  have hw : 0 ≤ IntKind.u64.wrap cut := by rw [IntKind.wrap_u64]; omega
  generalize IntKind.u64.wrap cut = u at *
  rw [Int.tmod_eq_emod_of_nonneg hw]
  have h1 := Int.emod_nonneg u (show ((n : Int) + 1) ≠ 0 by omega)
  have h2 := Int.emod_lt_of_pos u (show (0 : Int) < (n : Int) + 1 by omega)
  generalize u % ((n : Int) + 1) = r at *
  refine ⟨r.toNat, ?_, by omega⟩
  unfold wrap64; omega

set_option maxHeartbeats 1000000 in
theorem walk (A : Option Addr) (n c : Nat) (ws : List Int) (A' : Option Addr) (m c' : Nat) (vs : List Int) (cut : Int) (w : World) (hr : IntsAt w w.heap.size A n ws) (hn : n ≤ 17592186044416) (hc : n ≤ c) (hr' : IntsAt w w.heap.size A' m vs) (hm : m ≤ 17592186044416) (hc' : m ≤ c') (hcut : -9223372036854775808 ≤ cut ∧ cut ≤ 9223372036854775807) :
    Calls Try.prog 7 #[.slice A n c, .slice A' m c', .int .i64 cut] w fun e w' => e = .returned (.bool true) ∧ Below w.heap.size w w' := by
  by_cases hw : (writeR ws vs).2 = 0
  · have hlen : n = m := by have := writeR_lens ws vs hw; rw [hr.len, hr'.len] at this; exact this
    subst hlen
    go_enter Try.func7, Try.ntmps7
    go_wp2_with fail
    refine (lives_any w).mono ?_
    rintro e w1 ⟨rfl, hb1⟩
    have h1 := hr.below hb1 (Nat.le_refl _)
    have h1' := hr'.below hb1 (Nat.le_refl _)
    go_wp2_with fail
    refine (write_any A A' n c _ c' w.heap.size ws vs w1 h1 h1' hb1.size (by omega) (by omega)).mono ?_
    rintro e w2 ⟨rfl, hb2⟩
    have hb12 := hb1.trans (hb2.mono hb1.size)
    have h2 := hr.below hb12 (Nat.le_refl _)
    have h2' := hr'.below hb12 (Nat.le_refl _)
    rw [hw]
    have HW := Lib.hid hw
    clear h1 h1' hb1 hb2 hw
    go_wp2
    obtain ⟨k, hk, hkn⟩ := cut_place cut n hn
    rw [hk]
    clear hk
    have hkc : (k : Int) ≤ (c : Int) := by omega
    have hkc' : (k : Int) ≤ (c' : Int) := by omega
    have h3 := h2.take hkn
    have h3' := h2'.take hkn
    go_region_with ((go_at_call 9; refine (write_any A A' k c k c' w.heap.size (ws.take k) (vs.take k) _ (by exact h3) (by exact h3') (by exact hb12.size) (by omega) (by omega)).mono ?_; rintro e w3 ⟨rfl, hb3⟩))
    go_wp2
    have hb23 : Below w.heap.size w w3 := hb12.trans ⟨hb3.os, hb3.tape, hb3.output, hb3.size, fun i hi => hb3.block i (Nat.lt_of_lt_of_le hi hb12.size)⟩
    have hknI : (k : Int) ≤ (n : Int) := by omega
    have hncI : (n : Int) ≤ (c : Int) := by omega
    have hncI' : (n : Int) ≤ (c' : Int) := by omega
    clear h2 h2' h3 h3' hb3 hb12
    have hsp := writeR_split ws vs k (by rw [hr.len]; exact hkn) HW.out
    have HS1 := Lib.hid hsp.1
    have HS2 := Lib.hid hsp.2.1
    have HCAT : Hid (strOfNums (writeR (ws.take k) (vs.take k)).1 ++ strOfNums (writeR (ws.drop k) (vs.drop k)).1 = strOfNums (writeR ws vs).1) := by
      show _ = _; rw [← hsp.2.2]; exact nums_append _ _
    have hsz1 : (strOfNums (writeR (ws.take k) (vs.take k)).1).size ≤ 70368744177664 := by
      rw [strOfNums_size]; have := writeR_len (ws.take k) (vs.take k); rw [List.length_take, hr.len] at this; omega
    have hsz2 : (strOfNums (writeR (ws.drop k) (vs.drop k)).1).size ≤ 70368744177664 := by
      rw [strOfNums_size]; have := writeR_len (ws.drop k) (vs.drop k); rw [List.length_drop, hr.len] at this; omega
    have h4 := (hr.below hb23 (Nat.le_refl _)).drop hkn
    have h4' := (hr'.below hb23 (Nat.le_refl _)).drop hkn
    have H0 : Hid (n = k → ∀ A, IntsAt w3 w.heap.size A (n - k) (ws.drop k)) := by
      intro e A; subst e; rw [Nat.sub_self]; exact (hr.below hb23 (Nat.le_refl _)).end_ A
    have H0' : Hid (n = k → ∀ A, IntsAt w3 w.heap.size A (n - k) (vs.drop k)) := by
      intro e A; subst e; rw [Nat.sub_self]; exact (hr'.below hb23 (Nat.le_refl _)).end_ A
    rw [HS1.out]
    clear hsp
    by_cases hck : c = k
    · by_cases hck' : c' = k
      · go_region_with ((go_at_call 9; refine (write_any _ _ _ _ _ _ w.heap.size (ws.drop k) (vs.drop k) _ (by exact H0.out (by omega) _) (by exact H0'.out (by omega) _) (by exact hb23.size) (by omega) (by omega)).mono ?_; rintro e w4 ⟨rfl, hb4⟩; rw [HS2.out]))
        generalize strOfNums (writeR (ws.take k) (vs.take k)).1 = st1 at *
        generalize strOfNums (writeR (ws.drop k) (vs.drop k)).1 = st2 at *
        generalize strOfNums (writeR ws vs).1 = st at *
        have hb24 : Below w.heap.size w w4 := hb23.trans ⟨hb4.os, hb4.tape, hb4.output, hb4.size, fun i hi => hb4.block i (Nat.lt_of_lt_of_le hi hb23.size)⟩
        go_wp2
        go_ret
        exact ⟨ret_bool (by rw [HCAT.out]; simp), hb24⟩
      · go_region_with ((go_at_call 9; refine (write_any _ _ _ _ _ _ w.heap.size (ws.drop k) (vs.drop k) _ (by exact H0.out (by omega) _) (by exact h4') (by exact hb23.size) (by omega) (by omega)).mono ?_; rintro e w4 ⟨rfl, hb4⟩; rw [HS2.out]))
        generalize strOfNums (writeR (ws.take k) (vs.take k)).1 = st1 at *
        generalize strOfNums (writeR (ws.drop k) (vs.drop k)).1 = st2 at *
        generalize strOfNums (writeR ws vs).1 = st at *
        have hb24 : Below w.heap.size w w4 := hb23.trans ⟨hb4.os, hb4.tape, hb4.output, hb4.size, fun i hi => hb4.block i (Nat.lt_of_lt_of_le hi hb23.size)⟩
        go_wp2
        go_ret
        exact ⟨ret_bool (by rw [HCAT.out]; simp), hb24⟩
    · by_cases hck' : c' = k
      · go_region_with ((go_at_call 9; refine (write_any _ _ _ _ _ _ w.heap.size (ws.drop k) (vs.drop k) _ (by exact h4) (by exact H0'.out (by omega) _) (by exact hb23.size) (by omega) (by omega)).mono ?_; rintro e w4 ⟨rfl, hb4⟩; rw [HS2.out]))
        generalize strOfNums (writeR (ws.take k) (vs.take k)).1 = st1 at *
        generalize strOfNums (writeR (ws.drop k) (vs.drop k)).1 = st2 at *
        generalize strOfNums (writeR ws vs).1 = st at *
        have hb24 : Below w.heap.size w w4 := hb23.trans ⟨hb4.os, hb4.tape, hb4.output, hb4.size, fun i hi => hb4.block i (Nat.lt_of_lt_of_le hi hb23.size)⟩
        go_wp2
        go_ret
        exact ⟨ret_bool (by rw [HCAT.out]; simp), hb24⟩
      · go_region_with ((go_at_call 9; refine (write_any _ _ _ _ _ _ w.heap.size (ws.drop k) (vs.drop k) _ (by exact h4) (by exact h4') (by exact hb23.size) (by omega) (by omega)).mono ?_; rintro e w4 ⟨rfl, hb4⟩; rw [HS2.out]))
        generalize strOfNums (writeR (ws.take k) (vs.take k)).1 = st1 at *
        generalize strOfNums (writeR (ws.drop k) (vs.drop k)).1 = st2 at *
        generalize strOfNums (writeR ws vs).1 = st at *
        have hb24 : Below w.heap.size w w4 := hb23.trans ⟨hb4.os, hb4.tape, hb4.output, hb4.size, fun i hi => hb4.block i (Nat.lt_of_lt_of_le hi hb23.size)⟩
        go_wp2
        go_ret
        exact ⟨ret_bool (by rw [HCAT.out]; simp), hb24⟩
  · have he := writeR_err ws vs hw
    have hne : ((writeR ws vs).2 != 0) = true := bne_iff_ne.2 hw
    have HE := Lib.hid he
    clear he hw
    go_enter Try.func7, Try.ntmps7
    go_wp2_with fail
    refine (lives_any w).mono ?_
    rintro e w1 ⟨rfl, hb1⟩
    have h1 := hr.below hb1 (Nat.le_refl _)
    have h1' := hr'.below hb1 (Nat.le_refl _)
    go_wp2_with fail
    refine (write_any A A' n c _ c' w.heap.size ws vs w1 h1 h1' hb1.size (by omega) (by omega)).mono ?_
    rintro e w2 ⟨rfl, hb2⟩
    have hb12 := hb1.trans (hb2.mono hb1.size)
    rw [HE.out]
    generalize (writeR ws vs).2 = er at *
    have hs0 : strOfNums [] = ⟨#[]⟩ := rfl
    rw [hs0]
    clear h1 h1' hb1 hb2 hs0
    go_wp2
    go_ret
    exact ⟨rfl, hb12⟩
set_option maxRecDepth 100000 in
theorem lifted (os : Os) (started : os.Started) (H : Type) (enc : TypeId × Value → H) :
    ReturnsInHanded {} Try.checked os 7 .any (Rows.mouldSplitsSpec.pre6 enc Try.prog Try.f7 Rows.mouldSplitsRow.domain false) (Rows.mouldSplitsSpec.post enc Try.prog Try.f7 false true false false) := by
  refine returnsInHanded_of_change_sized (C := Try.checked) own started (by kernel_rfl) Try.func7
    (ChangeSpec.witness6 (enc := enc) (C := Try.checked) false ⟨#[], #[.slice none 0 0, .slice none 0 0, .int .i64 0], []⟩ 8 (by kernel_rfl) (by kernel_rfl) (by kernel_rfl) (by kernel_rfl)) ?_
  intro W base args ds gs before hval0 hW hcnd hsz0 _
  have hval : ∀ (j : Nat) t v, Try.f7.params[j]? = some t → args[j]? = some v → Value.okWide Try.prog W .any base t v := hval0
  have hsz : (DataW.weightsEach Try.prog (Try.f7.params.toList ++ Rows.mouldSplitsSpec.plain.varTypes Try.prog) (ds ++ gs)).all (· ≤ reachBytes) = true := hsz0
  have hW' := hW
  obtain ⟨p, q, hA0, hV, rfl, hfz, hnd⟩ := hW
  have hA : DataW.TrodAll enc Try.prog W 0 (fun _ => true) true Try.f7.params.toList args.toList ds p := hA0
  rw [Try.params7] at hA hval hsz
  obtain ⟨v0, vs0, d0, ds0, p0, q0, hargs, rfl, rfl, h0, r0⟩ := trodAll_cons hA
  obtain ⟨v1, vs1, d1, ds1, p1, q1, rfl, rfl, rfl, h1, r1⟩ := trodAll_cons r0
  obtain ⟨v2, vs2, d2, ds2, p2, q2, rfl, rfl, rfl, h2, r2⟩ := trodAll_cons r1
  obtain ⟨rfl, rfl, rfl⟩ := trodAll_nil r2
  obtain rfl : args = #[v0, v1, v2] := by cases args; simp_all
  obtain ⟨rfl, rfl⟩ := trodVars_none hV
  obtain ⟨a0, len0, cap0, rfl⟩ := okWide_slice Try.underlying22 (hval 0 22 v0 rfl rfl)
  have lt0 : ∀ x ∈ p0, x.block < W.heap.size := by obtain ⟨m, hm⟩ := h0; exact DataW.trod_lt m _ _ _ hm
  obtain ⟨z0, w0, b0⟩ := row_open h0 (fun elems spare hd => sized_slice hsz (j := 0) (t := 22) (e := 3) rfl (by rw [hd]; rfl) Try.underlying22)
  obtain ⟨a1, len1, cap1, rfl⟩ := okWide_slice Try.underlying22 (hval 1 22 v1 rfl rfl)
  have lt1 : ∀ x ∈ p1, x.block < W.heap.size := by obtain ⟨m, hm⟩ := h1; exact DataW.trod_lt m _ _ _ hm
  obtain ⟨z1, w1, b1⟩ := row_open h1 (fun elems spare hd => sized_slice hsz (j := 1) (t := 22) (e := 3) rfl (by rw [hd]; rfl) Try.underlying22)
  obtain ⟨n2, rfl, rfl, rfl, wn2⟩ := open_int Try.underlying3 (hval 2 3 v2 rfl rfl) h2
  have b2 : -9223372036854775808 ≤ n2 ∧ n2 ≤ 9223372036854775807 := by simpa [Lit.wf, IntKind.min, IntKind.max, IntKind.signed, IntKind.bits] using wn2
  clear hA0 hval0
  refine (walk a0 len0 cap0 z0 a1 len1 cap1 z1 n2 W w0 b0 (row_cap h0) w1 b1 (row_cap h1) b2).mono fun e W' ⟨he, bel⟩ => ?_
  subst he
  exact ⟨_, rfl, _, _, _, [], _, [], hW', trodAll_mk1 (shut_bool Try.underlying4 _), (trodAll_cons_mk (Below.trod laidOut (by kernel_rfl) (of_decide_eq_true (by kernel_rfl)) h0 bel lt0) (trodAll_cons_mk (Below.trod laidOut (by kernel_rfl) (of_decide_eq_true (by kernel_rfl)) h1 bel lt1) (trodAll_cons_mk (shut_int Try.underlying3 wn2) trodAll_mk0))), rfl, bel.frame _, fun h => by cases h⟩

theorem over : Rows.mouldSplitsRow.holds Try.pinned (OpenSpec.ofChange Rows.mouldSplitsSpec) :=
  OpenClaim.holds_of_wide 7 Try.f7 rfl rfl rfl rfl rfl rfl rfl ⟨rfl, rfl, rfl, rfl, rfl⟩ rfl rfl rfl rfl rfl (by kernel_rfl) Try.func7 (by kernel_rfl)
    (of_decide_eq_true (by kernel_rfl)) (by unfold Func.isWrapper; first | (rw [if_pos (by decide +kernel)]; kernel_rfl) | (rw [if_neg (by decide +kernel)]; exact ⟨rfl, rfl⟩))
    (fun os started H enc _ => lifted os started H enc)

end Go.Proofs.Ytglmkmjakammhaa.mouldSplits
namespace Go.Proofs.Ytglmkmjakammhaa
theorem mouldSplits_proved : Rows.MouldSplitsSaid := mouldSplits.over
#print axioms mouldSplits_proved
end Go.Proofs.Ytglmkmjakammhaa
