/-
  PROVED: 'wainwrightlaw04.SpansOnly' returns true for every input (a slice of spans), and its arguments read afterwards as before. Conditions: none beside those that the row itself says (the form's own reach).
-/
import Derived.Test.YtcillodbkgopdaaFrame
import Derived.Test.YtcillodbkgopdaaBlocks
namespace Go.Proofs.Ytcillodbkgopdaa.spansOnly
open Go.ChangeShapes Go.WideShapes Go.ChangeAt Go.RowKit
set_option linter.unusedVariables false

set_option maxHeartbeats 4000000 in
theorem walk (A' : Option Addr) (n' c' : Nat) (l : List Sp) (w : World) (h2 : SpsAt w w.heap.size A' n' l ∧ n' ≤ 9223372036854775807) :
    Calls Try.prog 5 #[.slice A' n' c'] w fun e w' => e = .returned (.bool true) ∧ Below w.heap.size w w' := by
  obtain ⟨hS, hn'⟩ := h2
  have HS := Lib.hid hS
  clear hS
  go_enter Try.func5, Try.ntmps5
  go_wp2_with fail
  refine (lives_any w).mono ?_
  rintro e w1 ⟨rfl, b1⟩
  have HB1 := Lib.hid b1
  have HS1 := Lib.hid (HS.out.below b1 (Nat.le_refl _))
  clear b1
  go_wp2_with fail
  refine (few_any A' n' c' w.heap.size l w1 HS1.out HB1.out.size hn').mono ?_
  rintro e w2 ⟨D, cd, rfl, hcd, hF, b2⟩
  have HMID := Lib.hid (fewR_mid HS.out.2.1)
  have hfl := fewR_len l
  have HB2 := Lib.hid (HB1.out.trans (b2.mono HB1.out.size))
  have HF := Lib.hid hF
  clear b2 hF
  generalize fewR l = L at *
  have HRT := Lib.hid (right_any D L.length cd w2.heap.size L w2 HF.out (Nat.le_refl _) (by omega))
  cases hr : rightL none L with
  | false =>
    rw [hr] at HRT
    have HC : Hid (cutR L 5 = []) := by show _ = _; unfold cutR; rw [hr]; rfl
    have KC := Lib.hid (fun (v : World) (h : Below w2.heap.size w2 v) => cut_any D L.length cd w2.heap.size L 5 v (HF.out.below h (Nat.le_refl _)) h.size (by omega) (by unfold Fit; omega))
    rw [HC.out] at KC
    clear hr
    generalize L.length = k at *
    go_wp2_with fail
    refine HRT.out.mono ?_
    rintro e w3 ⟨rfl, b3⟩
    go_wp2_with fail
    refine (KC.out w3 b3).mono ?_
    rintro e w4 ⟨E, ce, rfl, hce, hE, b4⟩
    have HB4 : Hid (Below w.heap.size w w4) := (HB2.out.trans (b3.mono HB2.out.size)).trans (b4.mono (Nat.le_trans HB2.out.size b3.size))
    clear b3 b4 hE
    go_wp2
    go_ret
    exact ⟨rfl, HB4.out⟩
  | true =>
    rw [hr] at HRT
    have HOM := Lib.hid (of_map hr)
    have hend := endL_bd hr
    have HLN := Lib.hid (mapR_len L (endL L).toNat)
    have KM := Lib.hid (fun (v : World) (h : Below w2.heap.size w2 v) => map_any D L.length cd w2.heap.size L (endL L) v (HF.out.below h (Nat.le_refl _)) h.size (by omega) HMID.out hend.2)
    have KO := Lib.hid (fun (v : World) (E : Option Addr) (ce : Nat) (h : IntsAt v v.heap.size E (mapR L (endL L).toNat).length (mapR L (endL L).toNat)) (hce : (mapR L (endL L).toNat).length ≤ ce) => of_any E _ ce v.heap.size _ v h (Nat.le_refl _) hce (by rw [HLN.out]; omega))
    rw [HOM.out] at KO
    rcases snoc_cases L with hL | ⟨r, a, hL⟩
    · have he : endL L = 0 := by rw [hL]; rfl
      have hk : L.length = 0 := by rw [hL]; rfl
      rw [he] at KM KO
      simp only [Int.toNat_zero] at KM KO
      clear hr HOM hend HLN he hL
      generalize mapR L 0 = M at *
      have HK := Lib.hid hk
      have hk0 : decide ((0 : Int) < (L.length : Int)) = false := by simp [hk]
      have hk0' : decide (0 < L.length) = false := by simp [hk]
      clear hk
      go_wp2_with fail
      refine HRT.out.mono ?_
      rintro e w3 ⟨rfl, b3⟩
      have HB3 := Lib.hid b3
      clear b3
      go_wp2_with fail
      refine (KM.out w3 HB3.out).mono ?_
      rintro e w4 ⟨E, ce, rfl, hce, hE, b4⟩
      have HB4 := Lib.hid (HB3.out.trans (b4.mono HB3.out.size))
      clear b4
      go_wp2_with fail
      refine (KO.out w4 E ce hE hce).mono ?_
      rintro e w5 ⟨G, cg, rfl, hcg, hG, b5⟩
      have HB5 := Lib.hid (HB4.out.trans (b5.mono HB4.out.size))
      have HG := Lib.hid hG
      have HF5 := Lib.hid (HF.out.below HB5.out (Nat.le_refl _))
      clear b5 hG hE
      go_wp2_with fail
      refine (same_sps G D L.length cg cd _ _ L w5 HG.out HF5.out (by omega)).mono ?_
      rintro e w6 ⟨rfl, d6⟩
      go_wp2
      go_ret
      exact ⟨rfl, Below.drews (HB2.out.trans (HB5.out.mono HB2.out.size)) d6⟩
    · have he : endL L = a.at_ + a.len := by rw [hL]; exact endL_snoc r a
      have hLl : L.length = r.length + 1 := by rw [hL]; simp
      have hget : L.getD r.length Sp.z = a := by rw [hL]; exact snoc_get r a
      have hin := inB_iff.1 (right_mem L none hr a (by rw [hL]; simp))
      obtain ⟨b, o, rfl, hbl, g1, g2, g3⟩ := HF.out.at_ (show r.length < L.length by omega)
      rw [hget] at g1 g2 g3
      have HLl := Lib.hid hLl
      rw [he] at KM KO
      rw [hLl] at HRT KM HF
      rw [hLl]
      obtain ⟨aa, ap, al⟩ := a
      simp only at g1 g2 g3 hin KM KO
      have h8 : r.length ≤ 8 := by omega
      clear hr HOM hend HLN he hL hget hLl hfl
      generalize mapR L (aa + al).toNat = M at *
      generalize r.length = m at *
      have hk0 : decide ((0 : Int) < (m : Int) + 1) = true := by simp
      have hk0' : decide (0 < m + 1) = true := by simp
      have x1 : (0 : Int) ≤ (m : Int) := by omega
      have x2 : (m : Int) < (m : Int) + 1 := by omega
      go_wp2_with fail
      refine HRT.out.mono ?_
      rintro e w3 ⟨rfl, b3⟩
      have c1 := bcell b3 g1 hbl
      have c3 := bcell b3 g3 hbl
      have HB3 := Lib.hid b3
      clear b3 g1 g2 g3
      go_wp2
      go_quiet (fail)
      have HBq := Lib.hid (Below.drews HB3.out ⟨nq, rfl⟩)
      clear c1 c3
      generalize w3.drewN nq = w3' at *
      go_wp2_with fail
      refine (KM.out w3' HBq.out).mono ?_
      rintro e w4 ⟨E, ce, rfl, hce, hE, b4⟩
      have HB4 := Lib.hid (HBq.out.trans (b4.mono HBq.out.size))
      clear b4
      go_wp2_with fail
      refine (KO.out w4 E ce hE hce).mono ?_
      rintro e w5 ⟨G, cg, rfl, hcg, hG, b5⟩
      have HB5 := Lib.hid (HB4.out.trans (b5.mono HB4.out.size))
      have HG := Lib.hid hG
      rw [HLl.out] at HG
      rw [HLl.out]
      have HF5 := Lib.hid (HF.out.below HB5.out (Nat.le_refl _))
      clear b5 hG hE
      go_wp2_with fail
      refine (same_sps G (some ⟨b, o, none⟩) (m + 1) cg cd _ _ L w5 HG.out HF5.out (by omega)).mono ?_
      rintro e w6 ⟨rfl, d6⟩
      go_wp2
      go_ret
      exact ⟨rfl, Below.drews (HB2.out.trans (HB5.out.mono HB2.out.size)) d6⟩

set_option maxRecDepth 100000 in
theorem lifted (os : Os) (started : os.Started) (H : Type) (enc : TypeId × Value → H) :
    ReturnsInHanded {} Try.checked os 5 .any (Rows.spansOnlySpec.pre6 enc Try.prog Try.f5 Rows.spansOnlyRow.domain false) (Rows.spansOnlySpec.post enc Try.prog Try.f5 false true false false) := by
  refine returnsInHanded_of_change_sized (C := Try.checked) own started (by kernel_rfl) Try.func5
    (ChangeSpec.witness6 (enc := enc) (C := Try.checked) false ⟨#[], #[.slice none 0 0], []⟩ 8 (by kernel_rfl) (by kernel_rfl) (by kernel_rfl) (by kernel_rfl)) ?_
  intro W base args ds gs before hval0 hW hcnd hsz0 _
  have hval : ∀ (j : Nat) t v, Try.f5.params[j]? = some t → args[j]? = some v → Value.okWide Try.prog W .any base t v := hval0
  have hW' := hW
  obtain ⟨p, q, hA0, hV, rfl, hfz, hnd⟩ := hW
  have hA : DataW.TrodAll enc Try.prog W 0 (fun _ => true) true Try.f5.params.toList args.toList ds p := hA0
  rw [Try.params5] at hA hval
  obtain ⟨v0, vs0, d0, ds0, p0, q0, hargs, rfl, rfl, h0, r0⟩ := trodAll_cons hA
  obtain ⟨rfl, rfl, rfl⟩ := trodAll_nil r0
  obtain rfl : args = #[v0] := by cases args; simp_all
  obtain ⟨rfl, rfl⟩ := trodVars_none hV
  have lt0 : ∀ x ∈ p0, x.block < W.heap.size := by obtain ⟨m, hm⟩ := h0; exact DataW.trod_lt m _ _ _ hm
  obtain ⟨a0, len0, cap0, rfl⟩ := okWide_slice Try.underlying23 (hval 0 23 v0 rfl rfl)
  obtain ⟨l0, w0⟩ := sps_open h0
  clear hA0 hval0
  refine (walk a0 len0 cap0 l0 W w0).mono fun e W' ⟨he, bel⟩ => ?_
  subst he
  exact ⟨_, rfl, _, _, _, [], _, [], hW', trodAll_mk1 (shut_bool Try.underlying4 _), (trodAll_cons_mk (Below.trod laidOut (by kernel_rfl) (of_decide_eq_true (by kernel_rfl)) h0 bel lt0) trodAll_mk0), rfl, bel.frame _, fun h => by cases h⟩

theorem over : Rows.spansOnlyRow.holds Try.pinned (OpenSpec.ofChange Rows.spansOnlySpec) :=
  OpenClaim.holds_of_wide 5 Try.f5 rfl rfl rfl rfl rfl rfl rfl ⟨rfl, rfl, rfl, rfl, rfl⟩ rfl rfl rfl rfl rfl (by kernel_rfl) Try.func5 (by kernel_rfl)
    (of_decide_eq_true (by kernel_rfl)) (by unfold Func.isWrapper; first | (rw [if_pos (by decide +kernel)]; kernel_rfl) | (rw [if_neg (by decide +kernel)]; exact ⟨rfl, rfl⟩))
    (fun os started H enc _ => lifted os started H enc)

end Go.Proofs.Ytcillodbkgopdaa.spansOnly
namespace Go.Proofs.Ytcillodbkgopdaa
theorem spansOnly_proved : Rows.SpansOnlySaid := spansOnly.over
#print axioms spansOnly_proved
end Go.Proofs.Ytcillodbkgopdaa
