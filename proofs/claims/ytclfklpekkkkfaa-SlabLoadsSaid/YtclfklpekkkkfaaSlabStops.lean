/-
  PROVED: SlabStops returns true, and each argument reads afterwards as it read before. No condition.
-/
import Derived.Test.YtclfklpekkkkfaaScript
namespace Go.Proofs.Ytclfklpekkkkfaa.slabStops
open Go.ChangeShapes Go.WideShapes Go.ChangeAt Go.RowKit
open Go.ChangeMaps (open_string shut_string)

/-- a slab on its way to its stop at N, behind at most k calls. -/
structure Going (σ : St) (N : Int) (k : Nat) : Prop where
  stops : σ.stops = true
  at_ : σ.stopAt = N
  calls : σ.calls ≤ k
  len : σ.dur.length = 9

theorem write_calls (σ : St) (i : Int) (s : ByteArray) : (σ.write i s).calls = σ.calls + 1 ∧ (σ.write i s).stops = σ.stops ∧ (σ.write i s).stopAt = σ.stopAt ∧ (σ.write i s).dur.length = σ.dur.length := by
  unfold St.write
  split
  · exact ⟨rfl, rfl, rfl, rfl⟩
  · split <;> exact ⟨rfl, rfl, rfl, rfl⟩
theorem flush_calls (σ : St) : σ.flush.calls = σ.calls + 1 ∧ σ.flush.stops = σ.stops ∧ σ.flush.stopAt = σ.stopAt ∧ σ.flush.dur.length = σ.dur.length := by
  unfold St.flush
  split
  · exact ⟨rfl, rfl, rfl, rfl⟩
  · exact ⟨rfl, rfl, rfl, by show σ.img.length = _; rw [St.img_len]⟩
theorem step_calls (σ : St) (kd i : Int) (s : ByteArray) : (σ.step kd i s).calls = σ.calls + 1 ∧ (σ.step kd i s).stops = σ.stops ∧ (σ.step kd i s).stopAt = σ.stopAt ∧ (σ.step kd i s).dur.length = σ.dur.length := by
  unfold St.step
  split
  · exact write_calls σ i s
  · exact flush_calls σ
theorem step_halted {σ : St} (h : σ.halted = true) (kd i : Int) (s : ByteArray) : σ.step kd i s = σ.tick ∧ σ.stepE kd i s = 14 := by
  unfold St.step St.stepE St.write St.writeE St.flush St.flushE
  rw [h]
  simp
theorem step_runs {σ : St} (h : σ.halted = false) (kd i : Int) (s : ByteArray) : (σ.stepE kd i s == 14) = false := by
  unfold St.stepE St.writeE St.flushE
  rw [h]
  simp only [Bool.false_eq_true, if_false]
  split
  · split <;> rfl
  · rfl
theorem Going.step {σ : St} {N : Int} {k : Nat} (h : Going σ N k) (kd i : Int) (s : ByteArray) : Going (σ.step kd i s) N (k + 1) := by
  obtain ⟨h1, h2, h3, h4⟩ := step_calls σ kd i s
  exact ⟨h2.trans h.stops, h3.trans h.at_, by rw [h1]; have := h.calls; omega, h4.trans h.len⟩
theorem Going.halted {σ : St} {N : Int} {k : Nat} (h : Going σ N k) : σ.halted = decide (N ≤ (σ.calls : Int)) := by unfold St.halted; rw [h.stops, h.at_]; rfl

def sX : ByteArray := ⟨#[120]⟩

set_option maxHeartbeats 2000000 in
theorem walk (A : Option Addr) (n c : Nat) (l : List Step) (n1 : Int) (w : World) (hA : OpsAt w A n l) (_hl : l.length = n) (hnc : n ≤ c) (_hn : -9223372036854775808 ≤ n1 ∧ n1 ≤ 9223372036854775807) :
    Calls Try.prog 4 #[.slice A n c, .int .i64 n1] w fun e w' => e = .returned (.bool true) ∧ Below w.heap.size w w' := by
  obtain ⟨N, hN⟩ : ∃ N : Nat, (N : Int) = (n1 % 18446744073709551616) % 60 := ⟨((n1 % 18446744073709551616) % 60).toNat, by omega⟩
  have hN60 : N < 60 := by omega
  have HN : Hid (wrap64 ((IntKind.u64.wrap n1).tmod 60) = (N : Int)) := by show _ = _; rw [mod_num _ _ (by decide), hN]
  obtain ⟨m, hm⟩ : ∃ m : Nat, m = min n 200 := ⟨_, rfl⟩
  have HMM := Lib.hid hm
  have hm2 : m ≤ 200 := by omega
  have HA := Lib.hid (hA.less (m := m) (by omega))
  clear hA hN hm
  go_enter Try.func4, Try.ntmps4
  go_wp2_with fail
  refine (lives_any w).mono ?_
  rintro e w1 ⟨rfl, b1⟩
  have B1 := Lib.hid b1
  clear b1
  go_wp2_with fail
  refine (early_any A n c w1 hnc).mono ?_
  rintro e w2 ⟨rfl, rfl⟩
  rw [← HMM.out]
  go_wp2_with fail
  refine (new_any 9 w1).mono ?_
  rintro e w3 ⟨p, pd, pm, rfl, h3, hp, hd, hm, b3⟩
  have H3 := Lib.hid h3
  have hs1 := B1.out.size
  have B3 := Lib.hid (B1.out.trans (b3.mono hs1))
  clear h3 b3
  go_wp2_with fail
  rw [HN.out]
  refine (stop_any p pd pm (St.new 9) N w3 H3.out (by omega) (by decide)).mono ?_
  rintro e w4 ⟨rfl, h4, t4⟩
  have hL : Hid (∀ j, j ∈ [p, pd, pm] → w.heap.size ≤ j) := by intro j hj; simp at hj; omega
  have H4 := Lib.hid h4
  have B4 := Lib.hid (B3.out.trans ((t4.mono (L' := [p, pd, pm]) (by simp)).below B3.out.size hL.out))
  have HG : Hid (Going ((St.new 9).stop N) N 0) := by
    show Going _ _ _
    unfold St.stop
    rw [if_pos (by omega)]
    exact ⟨rfl, by show ((0 : Nat) : Int) + _ = _; omega, Nat.le_refl _, by simp [St.new, St.fresh]; decide⟩
  clear h4 t4
  go_wp2
  go_loopw [6] (fun i wr => ∃ k : Nat, k ≤ m ∧ i = .int .i64 k ∧ ∃ σ, SlabAt wr p pd pm σ ∧ Going σ N k ∧ Below w.heap.size w wr) (fun i _ => m - (intOf i).toNat)
  case atStart => exact ⟨0, Nat.zero_le _, rfl, _, H4.out, HG.out, B4.out⟩
  case round =>
    obtain ⟨k, hk, rfl, σ, hs, hg, hb⟩ := hrel
    have Hs := Lib.hid hs
    have Hg := Lib.hid hg
    have Hb := Lib.hid hb
    clear hs hg hb
    by_cases hlt : k < m
    · obtain ⟨b, o, A', n', c', rfl, hok, x0, x1, x2, x3⟩ := (HA.out.below Hb.out (Nat.le_refl _)) k hlt
      generalize l.getD k (0, 0, ⟨#[]⟩) = st at *
      obtain ⟨kd, i, s⟩ := st
      simp only at x0 x1 x2 x3
      have hkc : σ.calls ≤ k := Hg.out.calls
      go_wp2_with fail
      refine (kind_any kd i s A' n' c' wr).mono ?_
      rintro e w5 ⟨rfl, b5⟩
      have t5 : Turns [] wr w5 := Turns.of_below _ b5
      have H5 := Lib.hid (Hs.out.keptB t5)
      have hb5 := Lib.hid (Hb.out.trans (b5.mono Hb.out.size))
      have y0 := t5.cell x0 (by simp)
      have y1 := t5.cell x1 (by simp)
      have y2 := t5.cell x2 (by simp)
      have y3 := t5.cell x3 (by simp)
      clear x0 x1 x2 x3 b5 t5 Hs Hb
      by_cases hkd : kd % 4 < 2
      · have d5 : decide (1 < kd % 4) = false := by simp; omega
        have HK := Lib.hid hkd
        generalize hKK : kd % 4 = K at d5
        clear hKK hkd
        go_wp2_with fail
        refine (image_any p pd pm σ w5 H5.out).mono ?_
        rintro e w6 ⟨rfl, hrow6, b6⟩
        have t6 : Turns [] w5 w6 := Turns.of_below _ b6
        have H6 := Lib.hid (H5.out.keptB t6)
        have hb6 := Lib.hid (hb5.out.trans (b6.mono hb5.out.size))
        have R6 := Lib.hid hrow6
        have z0 := t6.cell y0 (by simp)
        have z1 := t6.cell y1 (by simp)
        have z2 := t6.cell y2 (by simp)
        have z3 := t6.cell y3 (by simp)
        have lp := Lib.hid H5.out.lt_p
        have ld := Lib.hid H5.out.lt_d
        have lm := Lib.hid H5.out.lt_m
        clear y0 y1 y2 y3 hrow6 b6 t6 H5
        go_wp2_with fail
        refine (calls_any p pd pm σ w6 H6.out).mono ?_
        rintro e w7 ⟨rfl, rfl⟩
        go_wp2_with fail
        refine (does_any p pd pm σ kd i s A' n' c' w6 H6.out (by omega) hok.1 hok.2 HK.out).mono ?_
        rintro e w8 ⟨rfl, h8, t8⟩
        have H8 := Lib.hid h8
        have hb8 := Lib.hid (hb6.out.trans (t8.below hb6.out.size hL.out))
        have R8 := Lib.hid (R6.out.turns t8 (by have := lp.out; have := ld.out; have := lm.out; simp; omega))
        have G8 := Lib.hid (Hg.out.step kd i s)
        have HC : Hid (((σ.step kd i s).calls : Int) = (σ.calls : Int) + 1) := by show _ = _; rw [(step_calls σ kd i s).1]; omega
        have hdl : σ.dur.length ≤ 1000 := H6.out.len
        clear z0 z1 z2 z3 h8 t8 R6 H6
        by_cases hh : (N : Int) ≤ (σ.calls : Int)
        · have hhal : σ.halted = true := by rw [Hg.out.halted]; simpa using hh
          obtain ⟨es, eE⟩ := step_halted hhal kd i s
          have HI : Hid ((σ.step kd i s).img = σ.img ∧ (σ.step kd i s).dur.length = σ.dur.length) := by rw [es]; exact ⟨rfl, rfl⟩
          rw [eE]
          generalize σ.step kd i s = τ at *
          clear es eE hhal
          go_wp2_with (first
            | (go_at_call 21; refine (calls_any p pd pm τ w8 H8.out).mono ?_; rintro e w9 ⟨rfl, rfl⟩; rw [HC.out])
            | (go_at_call 14; refine (image_any p pd pm τ w8 H8.out).mono ?_; rintro e w10 ⟨rfl, r10, b10⟩; rw [HI.out.2])
            | (go_at_call 13; refine (texts_same _ _ σ.dur.length σ.dur.length σ.dur.length σ.img w10 hdl (by have := (R8.out.below b10 R8.out.lt).strs; rw [St.img_len] at this; exact this) (by have := r10.strs; rw [HI.out.1, St.img_len] at this; exact this)).mono ?_; rintro e w11 ⟨rfl, t11⟩))
          have t10 : Turns [] w8 w10 := Turns.of_below _ b10
          go_roundw
          case rel => exact ⟨k + 1, by omega, by go_num, τ, (H8.out.keptB t10).keptB t11, G8.out, (hb8.out.trans (b10.mono hb8.out.size)).trans (t11.below (Nat.le_trans hb8.out.size b10.size) (by simp))⟩
          case measure => simp [intOf]; omega
        · have hhal : σ.halted = false := by rw [Hg.out.halted]; simpa using hh
          have eE := step_runs hhal kd i s
          have dN : decide ((N : Int) ≤ (σ.calls : Int)) = false := by simpa using hh
          have dN' : decide (N ≤ σ.calls) = false := by simp; omega
          generalize σ.step kd i s = τ at *
          generalize σ.stepE kd i s = E at *
          clear hhal hh
          go_wp2_with (first
            | (go_at_call 21; refine (calls_any p pd pm τ w8 H8.out).mono ?_; rintro e w9 ⟨rfl, rfl⟩; rw [HC.out]))
          go_roundw
          case rel => exact ⟨k + 1, by omega, by go_num, τ, H8.out, G8.out, hb8.out⟩
          case measure => simp [intOf]; omega
      · have d5 : decide (1 < kd % 4) = true := by simp; omega
        generalize hKK : kd % 4 = K at d5
        clear hKK hkd
        go_wp2
        go_roundw
        case rel => exact ⟨k + 1, by omega, by go_num, σ, H5.out, ⟨Hg.out.stops, Hg.out.at_, by omega, Hg.out.len⟩, hb5.out⟩
        case measure => simp [intOf]; omega
    · have hkc : σ.calls ≤ k := Hg.out.calls
      have hkm : k ≤ 200 := by omega
      have HLn := Lib.hid Hg.out.len
      go_wp2_with fail
      refine (crash_nil p pd pm σ wr Hs.out (by omega)).mono ?_
      rintro e w5 ⟨rfl, h5, t5⟩
      have H5 := Lib.hid h5
      have hb5 := Lib.hid (Hb.out.trans (t5.below Hb.out.size hL.out))
      clear h5 t5
      obtain ⟨eW, eE⟩ := St.write_ok (σ := σ.lost) (i := 0) (s := sX) rfl (by show (0 : Int) ≤ 0 ∧ (0 : Int) < (σ.dur.length : Int); rw [HLn.out]; decide) (by decide)
      have EW := Lib.hid eW
      have EE := Lib.hid eE
      clear eW eE
      go_wp2_with fail
      refine (write_any p pd pm σ.lost 0 sX w5 H5.out (by show σ.calls < 1000000; omega) (by omega) (by decide)).mono ?_
      rintro e w6 ⟨rfl, h6, t6⟩
      rw [EE.out]
      rw [EW.out] at h6
      obtain ⟨eF, eG⟩ := St.flush_ok (σ := σ.lost.tick.put 0 (padS sX 128)) rfl
      have EF := Lib.hid eF
      have EG := Lib.hid eG
      have H6 := Lib.hid h6
      have hb6 := Lib.hid (hb5.out.trans (t6.below hb5.out.size hL.out))
      clear eF eG h6 t6
      go_wp2_with fail
      refine (flush_any p pd pm (σ.lost.tick.put 0 (padS sX 128)) w6 H6.out (by show σ.calls + 1 < 1000000; omega)).mono ?_
      rintro e w7 ⟨rfl, h7, t7⟩
      rw [EG.out]
      rw [EF.out] at h7
      have H7 := Lib.hid h7
      have hb7 := Lib.hid (hb6.out.trans (t7.below hb6.out.size hL.out))
      clear h7 t7
      have HRD : Hid (({ (σ.lost.tick.put 0 (padS sX 128)).tick with dur := (σ.lost.tick.put 0 (padS sX 128)).img } : St).firm.read 0 = wholeS sX) := by
        show _ = _
        rw [whole_pad (by decide)]
        have e1 : (σ.lost.tick.put 0 (padS sX 128)).img[0]? = some (padS sX 128) := St.img_put (σ := σ.lost.tick) (k := 0) (by show 0 < σ.dur.length; rw [HLn.out]; decide)
        have e2 : (σ.lost.tick.put 0 (padS sX 128)).img.length = 9 := by rw [St.img_len]; exact HLn.out
        generalize (σ.lost.tick.put 0 (padS sX 128)).img = im at *
        have e3 := St.read_at ({ (σ.lost.tick.put 0 (padS sX 128)).tick with dur := im } : St).firm (k := 0) (by show 0 < im.length; omega)
        refine e3.trans ?_
        simp [St.at, St.firm, List.getD, e1]
      generalize ({ (σ.lost.tick.put 0 (padS sX 128)).tick with dur := (σ.lost.tick.put 0 (padS sX 128)).img } : St).firm = τ at *
      go_wp2_with fail
      refine (read_any p pd pm τ 0 w7 H7.out).mono ?_
      rintro e w8 ⟨rfl, b8⟩
      rw [HRD.out]
      have hb8 := Lib.hid (hb7.out.trans (b8.mono hb7.out.size))
      clear b8
      go_wp2_with fail
      refine (whole_any sX w8 (by decide)).mono ?_
      rintro e w9 ⟨rfl, b9⟩
      have hb9 := Lib.hid (hb8.out.trans (b9.mono hb8.out.size))
      clear b9
      generalize wholeS sX = R at *
      have hne := bne_same R
      have heq := beq_same R
      go_wp2
      go_ret
      exact ⟨rfl, hb9.out⟩

set_option maxRecDepth 100000 in
theorem lifted (os : Os) (started : os.Started) (H : Type) (enc : TypeId × Value → H) :
    ReturnsInHanded {} Try.checked os 4 .any (Rows.slabStopsSpec.pre6 enc Try.prog Try.f4 Rows.slabStopsRow.domain false) (Rows.slabStopsSpec.post enc Try.prog Try.f4 false true false false) := by
  refine returnsInHanded_of_change_sized (C := Try.checked) own started (by kernel_rfl) Try.func4
    (ChangeSpec.witness6 (enc := enc) (C := Try.checked) false ⟨#[], #[.slice none 0 0, .int .i64 0], []⟩ 8 (by kernel_rfl) (by kernel_rfl) (by kernel_rfl) (by kernel_rfl)) ?_
  intro W base args ds gs before hval0 hW hcnd hsz0 _
  have hval : ∀ (j : Nat) t v, Try.f4.params[j]? = some t → args[j]? = some v → Value.okWide Try.prog W .any base t v := hval0
  have hW' := hW
  obtain ⟨p, q, hA0, hV, rfl, hfz, hnd⟩ := hW
  have hA : DataW.TrodAll enc Try.prog W 0 (fun _ => true) true Try.f4.params.toList args.toList ds p := hA0
  rw [Try.params4] at hA hval
  obtain ⟨v0, vs0, d0, ds0, p0, q0, hargs, rfl, rfl, h0, r0⟩ := trodAll_cons hA
  obtain ⟨v1, vs1, d1, ds1, p1, q1, rfl, rfl, rfl, h1, r1⟩ := trodAll_cons r0
  obtain ⟨rfl, rfl, rfl⟩ := trodAll_nil r1
  obtain rfl : args = #[v0, v1] := by cases args; simp_all
  obtain ⟨rfl, rfl⟩ := trodVars_none hV
  have lt0 : ∀ x ∈ p0, x.block < W.heap.size := by obtain ⟨m, hm⟩ := h0; exact DataW.trod_lt m _ _ _ hm
  obtain ⟨a0, len0, cap0, rfl⟩ := okWide_slice Try.underlying41 (hval 0 41 v0 rfl rfl)
  obtain ⟨l0, w0, e0, c0⟩ := ops_open h0
  obtain ⟨n1, rfl, rfl, rfl, wn1⟩ := open_int Try.underlying3 (hval 1 3 v1 rfl rfl) h1
  clear hA0 hval0
  refine (walk a0 len0 cap0 l0 n1 W w0 e0 c0 (i64_of_wf wn1)).mono fun e W' ⟨he, bel⟩ => ?_
  subst he
  exact ⟨_, rfl, _, _, _, [], _, [], hW', trodAll_mk1 (shut_bool Try.underlying4 _), (trodAll_cons_mk (Below.trod laidOut (by kernel_rfl) (of_decide_eq_true (by kernel_rfl)) h0 bel lt0) (trodAll_cons_mk (shut_int Try.underlying3 wn1) trodAll_mk0)), rfl, bel.frame _, fun h => by cases h⟩

theorem over : Rows.slabStopsRow.holds Try.pinned (OpenSpec.ofChange Rows.slabStopsSpec) :=
  OpenClaim.holds_of_wide 4 Try.f4 rfl rfl rfl rfl rfl rfl rfl ⟨rfl, rfl, rfl, rfl, rfl⟩ rfl rfl rfl rfl rfl (by kernel_rfl) Try.func4 (by kernel_rfl)
    (of_decide_eq_true (by kernel_rfl)) (by unfold Func.isWrapper; first | (rw [if_pos (by decide +kernel)]; kernel_rfl) | (rw [if_neg (by decide +kernel)]; exact ⟨rfl, rfl⟩))
    (fun os started H enc _ => lifted os started H enc)

end Go.Proofs.Ytclfklpekkkkfaa.slabStops
namespace Go.Proofs.Ytclfklpekkkkfaa
theorem slabStops_proved : Rows.SlabStopsSaid := slabStops.over
#print axioms slabStops_proved
end Go.Proofs.Ytclfklpekkkkfaa
