/-
  PROVED: 'wainwrightlaw04.SpansBack' returns true for every input (a slice of ints), and its arguments read afterwards as before. Conditions: none beside those that the row itself says (the form's own reach).
-/
import Derived.Test.YtcillodbkgopdaaFrame
import Derived.Test.YtcillodbkgopdaaBlocks
namespace Go.Proofs.Ytcillodbkgopdaa.spansBack
open Go.ChangeShapes Go.WideShapes Go.ChangeAt Go.RowKit
set_option linter.unusedVariables false

theorem cnt_bd (zs : List Int) : ∀ k : Nat, 0 ≤ cntN zs k ∧ cntN zs k ≤ k
  | 0 => by simp [cntN]
  | k + 1 => by
    have := cnt_bd zs k
    simp only [cntN]
    split <;> omega

set_option maxHeartbeats 4000000 in
theorem walk (A : Option Addr) (n c : Nat) (zs : List Int) (w : World) (h1 : IntsAt w w.heap.size A n zs ∧ n ≤ c) :
    Calls Try.prog 4 #[.slice A n c] w fun e w' => e = .returned (.bool true) ∧ Below w.heap.size w w' := by
  obtain ⟨hI, hnc⟩ := h1
  have HI := Lib.hid hI
  clear hI
  go_enter Try.func4, Try.ntmps4
  go_wp2_with fail
  refine (lives_any w).mono ?_
  rintro e w1 ⟨rfl, b1⟩
  have HB1 := Lib.hid b1
  have HI1 := Lib.hid (HI.out.below b1 (Nat.le_refl _))
  clear b1
  go_wp2_with fail
  refine (early_any A n c w1 hnc).mono ?_
  rintro e w2 ⟨rfl, rfl⟩
  obtain ⟨m, hm⟩ : ∃ m : Nat, m = min n 300 := ⟨_, rfl⟩
  have HIM := Lib.hid (HI1.out.take m (by omega))
  have hm3 : m ≤ 300 := by omega
  have hmc : m ≤ c := by omega
  rw [← hm]
  clear hm
  generalize zs.take m = ys at *
  have HYL := Lib.hid HIM.out.len
  go_wp2
  go_loop [3] (fun i => ∃ k : Nat, k ≤ m ∧ i = .int .i64 (k : Int) ∧ Hid (∀ j, j < k → 0 ≤ ys.getD j 0 ∧ ys.getD j 0 ≤ 65535)) (fun i => m - (intOf i).toNat)
  case atStart => exact ⟨0, by omega, rfl, by intro j hj; omega⟩
  case round =>
    obtain ⟨k, hk, rfl, HOK⟩ := hrel
    by_cases hlt : k < m
    · obtain ⟨b, o, rfl, hbl, g1⟩ := HIM.out.at_ hlt
      have HOK2 : Hid (0 ≤ ys.getD k 0 ∧ ys.getD k 0 ≤ 65535 → ∀ j, j < k + 1 → 0 ≤ ys.getD j 0 ∧ ys.getD j 0 ≤ 65535) := by
        show _ → _
        intro h j hj
        by_cases e : j = k
        · rw [e]; exact h
        · exact HOK.out j (by omega)
      generalize ys.getD k 0 = z at *
      have hlt' : (k : Int) < (m : Int) := by omega
      by_cases q1 : z < 0
      · have d1 : decide (z < 0) = true := by simpa using q1
        clear q1
        go_wp2
        go_ret
        exact ⟨rfl, HB1.out⟩
      · have d1 : decide (z < 0) = false := by simpa using q1
        by_cases q2 : 65535 < z
        · have d2 : decide (65535 < z) = true := by simpa using q2
          clear q1 q2
          go_wp2
          go_ret
          exact ⟨rfl, HB1.out⟩
        · have d2 : decide (65535 < z) = false := by simpa using q2
          have HOK3 := Lib.hid (HOK2.out (by omega))
          clear q1 q2
          go_wp2
          go_round
          case rel => exact ⟨k + 1, by omega, by go_num, HOK3⟩
          case measure => simp [intOf]; omega
    · have HALL : Hid (∀ z, z ∈ ys → 0 ≤ z ∧ z ≤ 65535) := by
        show ∀ z, z ∈ ys → _
        intro z hz
        obtain ⟨j, hj, rfl⟩ := List.mem_iff_getElem.1 hz
        have h1 := HOK.out j (by have := HYL.out; omega)
        have e : ys.getD j 0 = ys[j] := by simp [List.getD, List.getElem?_eq_getElem hj]
        rwa [e] at h1
      clear HOK
      have hol : (ofR ys).length ≤ 1000 := by
        have h2 := ofN_len ys (min ys.length 65536)
        have h1 := HYL.out
        unfold ofR
        omega
      have HINV := Lib.hid (inv_ofR ys (by rw [HYL.out]; omega))
      rw [HYL.out] at HINV
      have HMP := Lib.hid (map_of (zs := ys) (by rw [HYL.out]; omega) HALL.out)
      rw [HYL.out] at HMP
      have HSM : Hid (∀ s ∈ ofR ys, s.small) := fun s hs => in_small (right_mem _ none HINV.out.right s hs)
      have HTOT := Lib.hid HINV.out.tot
      have hcb := cnt_bd ys m
      have HDEN : Hid (∀ i : Nat, i < m → den (ofR ys) (i : Int) = ys.getD i 0) := by
        show ∀ i : Nat, i < m → _
        intro i hi
        rw [HINV.out.says i hi]
        refine norm_in (HALL.out _ ?_)
        have hil : i < ys.length := by rw [HYL.out]; exact hi
        rw [show ys.getD i 0 = ys[i] by simp [List.getD, List.getElem?_eq_getElem hil]]
        exact List.getElem_mem hil
      have HEND : Hid (den (ofR ys) (m : Int) = 0) := den_none _ _ (HINV.out.free (Or.inr (Int.le_refl _)))
      have KO := Lib.hid (of_any A m c w.heap.size ys w1 HIM.out HB1.out.size hmc (by omega))
      have HRTV := Lib.hid HINV.out.right
      clear HINV
      generalize ofR ys = R at *
      go_wp2_with fail
      refine KO.out.mono ?_
      rintro e w2 ⟨L, cl, rfl, hcl, hL, b2⟩
      have HL := Lib.hid hL
      have HB2 := Lib.hid (HB1.out.trans (b2.mono HB1.out.size))
      have HIM2 := Lib.hid (HIM.out.below b2 HB1.out.size)
      clear b2 hL hcl
      have KR := Lib.hid (right_any L R.length cl w2.heap.size R w2 HL.out (Nat.le_refl _) (by omega))
      rw [HRTV.out] at KR
      have KM := Lib.hid (fun (v : World) (h : Below w2.heap.size w2 v) => map_any L R.length cl w2.heap.size R (m : Int) v (HL.out.below h (Nat.le_refl _)) h.size (by omega) (fun s hs => small_mid (HSM.out s hs)) (by omega))
      rw [Int.toNat_natCast, HMP.out] at KM
      have KA := Lib.hid (fun (v : World) (h : Below w2.heap.size w2 v) (i : Int) (hi : 0 ≤ i ∧ i ≤ 300) => at_any L R.length cl w2.heap.size R i v (HL.out.below h (Nat.le_refl _)) h.size (by omega) HSM.out (by omega))
      have KB := Lib.hid (fun (v : World) (h : Below w2.heap.size w2 v) => blocks_any L R.length cl w2.heap.size R v (HL.out.below h (Nat.le_refl _)) h.size (by omega) HSM.out (by rw [HTOT.out]; omega))
      rw [HTOT.out] at KB
      clear HRTV HMP HSM HTOT
      generalize R.length = k2 at *
      go_wp2_with fail
      refine KR.out.mono ?_
      rintro e w3 ⟨rfl, b3⟩
      have HB3 := Lib.hid b3
      clear b3
      go_wp2_with fail
      refine (KM.out w3 HB3.out).mono ?_
      rintro e w4 ⟨E, ce, rfl, hce, hE, b4⟩
      have HB4 := Lib.hid (HB3.out.trans (b4.mono HB3.out.size))
      have HE := Lib.hid hE
      rw [HYL.out] at HE
      rw [HYL.out]
      clear b4 hE hce
      have HIM4 := Lib.hid (HIM2.out.below HB4.out HB2.out.size)
      go_wp2_with fail
      refine (same_ints E A m ce c _ _ ys w4 HE.out HIM4.out (by omega)).mono ?_
      rintro e w5 ⟨rfl, d5⟩
      have HB5 := Lib.hid (Below.drews HB4.out d5)
      clear d5
      go_wp2
      go_loopw [5, 6] (fun u i wr => ∃ k : Nat, k ≤ m ∧ i = .int .i64 (k : Int) ∧ u = .int .i64 (cntN ys k) ∧ Below w2.heap.size w2 wr) (fun _ i _ => m - (intOf i).toNat)
      case atStart => exact ⟨0, by omega, rfl, rfl, HB5.out⟩
      case round =>
        obtain ⟨k, hk, rfl, rfl, hb⟩ := hrel
        have HB := Lib.hid hb
        by_cases hlt : k < m
        · obtain ⟨b, o, rfl, hbl, g1⟩ := HIM2.out.at_ hlt
          have hbw : b < w2.heap.size := Nat.lt_of_lt_of_le hbl HB2.out.size
          have c1 := bcell hb g1 hbw
          have hbr : b < wr.heap.size := Nat.lt_of_lt_of_le hbw hb.size
          have HAV := Lib.hid (fun (v : World) (h : Below w2.heap.size w2 v) => KA.out v h (k : Int) (by omega))
          rw [HDEN.out k hlt] at HAV
          have HCN : Hid (cntN ys (k + 1) = cntN ys k + (if norm (ys.getD k 0) = 0 then 0 else 1)) := by show _ = _; rfl
          have hcb2 := cnt_bd ys k
          have hzb : 0 ≤ ys.getD k 0 ∧ ys.getD k 0 ≤ 65535 := by
            have hil : k < ys.length := by rw [HYL.out]; exact hlt
            rw [show ys.getD k 0 = ys[k] by simp [List.getD, List.getElem?_eq_getElem hil]]
            exact HALL.out _ (List.getElem_mem hil)
          have hnz := norm_in hzb
          rw [hnz] at HCN
          generalize ys.getD k 0 = z at *
          generalize cntN ys k = u at *
          have BD : Hid (Below w2.heap.size w2 wr.drew) := Below.drews HB.out ⟨1, rfl⟩
          have x1 : (0 : Int) ≤ (k : Int) := by omega
          have x2 : (k : Int) < (m : Int) := by omega
          clear g1 hb hnz
          go_wp2_with fail
          go_region_held3 (fun w' => w'.cell? ⟨b, o + k, none⟩ = some (.int .i64 z)) (first | exact c1 | exact c1')
            (first
              | (go_at_call 17
                 go_fit (HAV.out _ BD.out)
                 rintro e w6 ⟨rfl, b6'⟩
                 have b6 := undrew b6'
                 clear b6'
                 have c1' := bcell b6 (a := ⟨b, o + k, none⟩) c1 hbr
                 have HB6 := Lib.hid (HB.out.trans (b6.mono HB.out.size))
                 clear b6))
          clear c1
          by_cases hz0 : z = 0
          · have HC2 : Hid (cntN ys (k + 1) = u) := by show _ = _; rw [HCN.out, if_pos hz0]; omega
            have d0 : (z != 0) = false := by simp [hz0]
            clear hz0 HCN
            go_wp2
            go_roundw
            case rel => exact ⟨k + 1, by omega, by go_num, by rw [HC2.out], HB6.out⟩
            case measure => simp [intOf]; omega
          · have HC2 : Hid (cntN ys (k + 1) = u + 1) := by show _ = _; rw [HCN.out, if_neg hz0]
            have d0 : (z != 0) = true := by simp [hz0]
            clear hz0 HCN
            go_wp2
            go_roundw
            case rel => exact ⟨k + 1, by omega, by go_num, by rw [HC2.out], HB6.out⟩
            case measure => simp [intOf]; omega
        · have hkm : k = m := by omega
          have KE := Lib.hid (fun (v : World) (h : Below w2.heap.size w2 v) => KA.out v h (m : Int) (by omega))
          rw [HEND.out] at KE
          obtain ⟨t, ht⟩ : ∃ t : Nat, (t : Int) = cntN ys m := ⟨(cntN ys m).toNat, by omega⟩
          rw [← ht, Int.toNat_natCast] at KB
          rw [hkm, ← ht]
          clear hb hkm ht hcb HDEN HEND KA hlt hk
          go_wp2_with fail
          refine (KB.out _ HB.out).mono ?_
          rintro e w6 ⟨E6, c6, rfl, b6⟩
          have HB6 := Lib.hid (HB.out.trans (b6.mono HB.out.size))
          clear b6
          go_wp2_with fail
          refine (KE.out _ HB6.out).mono ?_
          rintro e w7 ⟨rfl, b7⟩
          go_wp2
          go_ret
          exact ⟨rfl, HB2.out.trans ((HB6.out.trans (b7.mono HB6.out.size)).mono HB2.out.size)⟩

set_option maxRecDepth 100000 in
theorem lifted (os : Os) (started : os.Started) (H : Type) (enc : TypeId × Value → H) :
    ReturnsInHanded {} Try.checked os 4 .any (Rows.spansBackSpec.pre6 enc Try.prog Try.f4 Rows.spansBackRow.domain false) (Rows.spansBackSpec.post enc Try.prog Try.f4 false true false false) := by
  refine returnsInHanded_of_change_sized (C := Try.checked) own started (by kernel_rfl) Try.func4
    (ChangeSpec.witness6 (enc := enc) (C := Try.checked) false ⟨#[], #[.slice none 0 0], []⟩ 8 (by kernel_rfl) (by kernel_rfl) (by kernel_rfl) (by kernel_rfl)) ?_
  intro W base args ds gs before hval0 hW hcnd hsz0 _
  have hval : ∀ (j : Nat) t v, Try.f4.params[j]? = some t → args[j]? = some v → Value.okWide Try.prog W .any base t v := hval0
  have hW' := hW
  obtain ⟨p, q, hA0, hV, rfl, hfz, hnd⟩ := hW
  have hA : DataW.TrodAll enc Try.prog W 0 (fun _ => true) true Try.f4.params.toList args.toList ds p := hA0
  rw [Try.params4] at hA hval
  obtain ⟨v0, vs0, d0, ds0, p0, q0, hargs, rfl, rfl, h0, r0⟩ := trodAll_cons hA
  obtain ⟨rfl, rfl, rfl⟩ := trodAll_nil r0
  obtain rfl : args = #[v0] := by cases args; simp_all
  obtain ⟨rfl, rfl⟩ := trodVars_none hV
  have lt0 : ∀ x ∈ p0, x.block < W.heap.size := by obtain ⟨m, hm⟩ := h0; exact DataW.trod_lt m _ _ _ hm
  obtain ⟨a0, len0, cap0, rfl⟩ := okWide_slice Try.underlying22 (hval 0 22 v0 rfl rfl)
  obtain ⟨l0, w0⟩ := ints_open h0
  clear hA0 hval0
  refine (walk a0 len0 cap0 l0 W w0).mono fun e W' ⟨he, bel⟩ => ?_
  subst he
  exact ⟨_, rfl, _, _, _, [], _, [], hW', trodAll_mk1 (shut_bool Try.underlying4 _), (trodAll_cons_mk (Below.trod laidOut (by kernel_rfl) (of_decide_eq_true (by kernel_rfl)) h0 bel lt0) trodAll_mk0), rfl, bel.frame _, fun h => by cases h⟩

theorem over : Rows.spansBackRow.holds Try.pinned (OpenSpec.ofChange Rows.spansBackSpec) :=
  OpenClaim.holds_of_wide 4 Try.f4 rfl rfl rfl rfl rfl rfl rfl ⟨rfl, rfl, rfl, rfl, rfl⟩ rfl rfl rfl rfl rfl (by kernel_rfl) Try.func4 (by kernel_rfl)
    (of_decide_eq_true (by kernel_rfl)) (by unfold Func.isWrapper; first | (rw [if_pos (by decide +kernel)]; kernel_rfl) | (rw [if_neg (by decide +kernel)]; exact ⟨rfl, rfl⟩))
    (fun os started H enc _ => lifted os started H enc)

end Go.Proofs.Ytcillodbkgopdaa.spansBack
namespace Go.Proofs.Ytcillodbkgopdaa
theorem spansBack_proved : Rows.SpansBackSaid := spansBack.over
#print axioms spansBack_proved
end Go.Proofs.Ytcillodbkgopdaa
