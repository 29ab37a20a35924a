/-
  PROVED: 'wainwrightlaw07.RollsPlay' returns true for every input (a slice of entries), and its arguments read afterwards as before. Conditions: none beside those that the row itself says (the form's own reach).
-/
import Derived.Test.YtmmjpdggneagdaaEFrame
import Derived.Test.YtmmjpdggneagdaaERow
namespace Go.Proofs.Ytmmjpdggneagdaa.rollsPlay
open Go.ChangeShapes Go.WideShapes Go.ChangeAt Go.RowKit
open Go.ChangeMaps (open_string shut_string)
set_option linter.unusedVariables false

structure PlayAt (w wr : World) (l want : List En) (A3 : Option Addr) (v4 : Value) (k : Nat) : Prop where
  inv : Inv l want
  len : l.length ≤ 8 * k
  fit : ∀ e ∈ l, e.fit
  ens : EnsAt wr wr.heap.size A3 l.length l
  own : wr.ownsRow w.heap.size 43 2 v4 want.length (ensCells want)
  far : Apart A3 l.length v4
  bel : Below w.heap.size w wr
theorem PlayAt.to {w wr w' : World} {l want : List En} {A3 : Option Addr} {v4 : Value} {k : Nat} (h : PlayAt w wr l want A3 v4 k) (hb : Below wr.heap.size wr w') : PlayAt w w' l want A3 v4 k :=
  ⟨h.inv, h.len, h.fit, h.ens.to hb, own_below h.own hb (Nat.le_refl _), h.far, h.bel.trans (hb.mono h.bel.size)⟩
theorem PlayAt.next {w wr : World} {l want : List En} {A3 : Option Addr} {v4 : Value} {k : Nat} (h : PlayAt w wr l want A3 v4 k) : PlayAt w wr l want A3 v4 (k + 1) :=
  ⟨h.inv, by have := h.len; omega, h.fit, h.ens, h.own, h.far, h.bel⟩
theorem PlayAt.wlen {w wr : World} {l want : List En} {A3 : Option Addr} {v4 : Value} {k : Nat} (h : PlayAt w wr l want A3 v4 k) : want.length ≤ 160 := by
  have := right_cnt h.inv.right
  rw [h.inv.len] at this
  exact this
def PlayR (w wr : World) (v3 v4 : Value) (k : Nat) : Prop := ∃ l want A3 c3, v3 = .slice A3 l.length c3 ∧ PlayAt w wr l want A3 v4 k
theorem drew_below {w w' : World} (h : Drew w w') : Below w.heap.size w w' := Below.drews (Below.refl _ _) h

set_option maxRecDepth 100000 in
set_option maxHeartbeats 16000000 in
theorem walk (A : Option Addr) (n c : Nat) (sc : List En) (w : World) (h1 : EnsAt w w.heap.size A n sc ∧ n ≤ c) :
    Calls Try.prog 6 #[.slice A n c] w fun e w' => e = .returned (.bool true) ∧ Below w.heap.size w w' := by
  obtain ⟨hE, hnc⟩ := h1
  have HE := Lib.hid hE
  clear hE
  go_enter Try.func6, Try.ntmps6
  go_wp2_with fail
  refine (lives_any w).mono ?_
  rintro e w1 ⟨rfl, b1⟩
  have HB1 := Lib.hid b1
  have HE1 := Lib.hid (HE.out.below b1 (Nat.le_refl _))
  clear b1
  go_wp2_with fail
  refine (early_any A n c w1 hnc).mono ?_
  rintro e w2 ⟨rfl, rfl⟩
  obtain ⟨m, hm⟩ : ∃ m : Nat, m = min n 200 := ⟨_, rfl⟩
  have HEM0 := Lib.hid (HE.out.take m (by omega))
  have hm2 : m ≤ 200 := by omega
  rw [← hm]
  clear hm HE1 HE hnc
  generalize sc.take m = sc2 at *
  have HSL := Lib.hid HEM0.out.len
  have HEM : Hid (∀ wr, Below w.heap.size w wr → EnsAt wr w.heap.size A m sc2) := fun wr hb => HEM0.out.below hb (Nat.le_refl _)
  clear HEM0
  go_wp2
  go_loopw [3, 4, 5, 6, 7, 8, 9, 10, 11, 12, 13, 14] (fun v3 v4 i _ _ _ _ _ _ _ _ _ wr => ∃ k : Nat, k ≤ m ∧ i = .int .i64 (k : Int) ∧ PlayR w wr v3 v4 k) (fun _ _ i _ _ _ _ _ _ _ _ _ _ => m - (intOf i).toNat)
  case atStart => exact ⟨0, by omega, rfl, [], [], none, 0, rfl, Inv.nil, by simp, by simp, EnsAt.nil _ _ _, World.ownsRow_nil _ _ _ _, Apart.nil _ _, HB1.out⟩
  case round =>
    obtain ⟨k, hk, rfl, l, want, A3, c3, rfl, hp⟩ := hrel
    have HP := Lib.hid hp
    have hwl := hp.wlen
    have hll := hp.len
    obtain ⟨A4, c4, rfl, hc4⟩ := own_slice hp.own
    clear hp HB1
    generalize hnl : l.length = nl at *
    have HNL := Lib.hid hnl
    generalize hnw : want.length = nw at *
    have HNW := Lib.hid hnw
    clear hnl hnw
    by_cases hlt : k < m
    · obtain ⟨b, o, rfl, hbB, g1, g2⟩ := (HEM.out wr HP.out.bel).at_ hlt
      have hfit : (sc2.getD k En.z).fit := (HEM.out wr HP.out.bel).bd k
      generalize sc2.getD k En.z = x at *
      obtain ⟨s, z⟩ := x
      simp only at g1 g2
      have hfs : s.size ≤ 140737488355328 := hfit.1
      have HZF : Hid (Fit z) := hfit.2
      clear hfit
      have x1 : (0 : Int) ≤ (k : Int) := by omega
      have x2 : (k : Int) < (m : Int) := by omega
      go_upto_region 9 with fail
      have n1 : (wr.alloc (.cells #[.string s, .int .i64 z] 43)).cell? ⟨wr.heap.size, 0, none⟩ = some (.string s) := cell_new wr _ 43 0 rfl
      have n2 : (wr.alloc (.cells #[.string s, .int .i64 z] 43)).cell? ⟨wr.heap.size, 1, none⟩ = some (.int .i64 z) := cell_new wr _ 43 1 rfl
      have HP1 : Hid (PlayAt w (wr.alloc (.cells #[.string s, .int .i64 z] 43)) l want A3 (.slice A4 nw c4) k) := HP.out.to ((Below.refl _ _).alloc (Nat.le_refl _) _)
      have HQ1 : Hid (wr.heap.size < (wr.alloc (.cells #[.string s, .int .i64 z] 43)).heap.size) := by show _ < _; simp
      clear g1 g2 HP
      generalize wr.alloc (.cells #[.string s, .int .i64 z] 43) = W1 at *
      generalize wr.heap.size = px at *
      go_wp2
      go_loopw [7, 8] (fun a i wq => ∃ q : Nat, q ≤ nw ∧ i = .int .i64 (q : Int) ∧ a = .int .i64 (atN want s q) ∧ Drew W1 wq) (fun _ i _ => nw - (intOf i).toNat)
      case atStart => exact ⟨0, by omega, rfl, rfl, Drew.refl _⟩
      case round =>
        obtain ⟨q, hq, rfl, rfl, hd⟩ := hrel
        have HD := Lib.hid hd
        clear hd
        have m1 := (HD.out.cells _).trans n1
        have m2 := (HD.out.cells _).trans n2
        by_cases hqw : q < nw
        · have hqw2 : q < want.length := by rw [HNW.out]; exact hqw
          have hown := HP1.out.own
          rw [← HNW.out] at hown
          obtain ⟨g, cap, e9, hbg, hgl, g1, g2, -, -⟩ := own_at hown hqw2
          rw [HNW.out] at e9
          obtain ⟨rfl, rfl⟩ : A4 = some ⟨g, 0, none⟩ ∧ c4 = cap := by injection e9 with a b c; exact ⟨a, c⟩
          clear hown e9 hgl hbg g2 n1 n2
          have k1 := (HD.out.cells _).trans g1
          have HSTEP : Hid (atN want s (q + 1) = if eqB (want.getD q En.z).nm s = true then (q : Int) else atN want s q) := rfl
          clear g1
          generalize (want.getD q En.z).nm = t at *
          have y1 : (0 : Int) ≤ (q : Int) := by omega
          have y2 : (q : Int) < (nw : Int) := by omega
          cases hv : eqB t s with
          | true =>
            have HS2 : Hid (atN want s (q + 1) = (q : Int)) := by show _ = _; rw [HSTEP.out, if_pos hv]
            have hv' : (t.toList == s.toList) = true := hv
            clear hv HSTEP
            generalize atN want s q = u at *
            go_wp2
            go_quiet (fail)
            go_wp2
            go_roundw
            case rel => exact ⟨q + 1, by omega, by go_num, by rw [HS2.out], HD.out.trans ⟨_, rfl⟩⟩
            case measure => simp [intOf]; omega
          | false =>
            have HS2 : Hid (atN want s (q + 1) = atN want s q) := by show _ = _; rw [HSTEP.out, if_neg (by rw [hv]; decide)]
            have hv' : (t.toList == s.toList) = false := hv
            clear hv HSTEP
            generalize hu : atN want s q = u at *
            have HU := Lib.hid hu
            clear hu
            go_wp2
            go_quiet (fail)
            go_wp2
            go_roundw
            case rel => exact ⟨q + 1, by omega, by go_num, by rw [HS2.out], HD.out.trans ⟨_, rfl⟩⟩
            case measure => simp [intOf]; omega
        · have hqn : nw = q := by omega
          subst hqn
          have HP2 := Lib.hid (HP1.out.to (drew_below HD.out))
          have HQ2 : Hid (px < wr.heap.size) := by show _ < _; obtain ⟨r, rfl⟩ := HD.out; exact HQ1.out
          have HENS : Hid (EnsAt wr wr.heap.size A3 nl l) := by show EnsAt _ _ _ _ _; rw [← HNL.out]; exact HP2.out.ens
          clear HD HP1 HQ1 n1 n2 hq hqw
          by_cases hz1 : z < 1
          · have KD := Lib.hid (drop_any A3 nl c3 wr.heap.size l s wr HENS.out (Nat.le_refl _) (by omega))
            rcases HP2.out.inv.dropped s with ⟨hat, hdr⟩ | ⟨j, hj, hat, hz0, hzn, hinv⟩
            · rw [HNW.out] at hat
              rw [hdr] at KD
              rw [hat]
              clear hat hdr
              go_wp2_with fail
              refine KD.out.mono ?_
              rintro e w3 ⟨v3, rfl, -, b3⟩
              have HP3 := Lib.hid ((HP2.out.to b3).next)
              clear b3
              go_wp2
              go_roundw
              case rel => exact ⟨k + 1, by omega, by go_num, l, want, A3, c3, by rw [HNL.out], HP3.out⟩
              case measure => simp [intOf]; omega
            · have hlL := dropR_len l s
              have hfL := dropR_fit (s := s) HP2.out.fit
              rw [HNW.out] at hat
              rw [hat]
              generalize dropR l s = R at *
              obtain ⟨L, zn, ze⟩ := R
              simp only at hz0 hzn hinv hlL hfL
              subst hz0
              subst hzn
              have HINV := Lib.hid hinv
              have HFL := Lib.hid hfL
              have hjn : j < nw := by rw [← HNW.out]; exact hj
              clear hat hinv hfL
              go_wp2_with fail
              refine KD.out.mono ?_
              rintro e w3 ⟨v9, rfl, ho9, b9⟩
              have HP3 := Lib.hid (HP2.out.to b9)
              have HO9 := Lib.hid ho9
              have hown := HP3.out.own
              rw [← HNW.out] at hown
              obtain ⟨g, cap, e9, hbg, hgl, -, g2, -, -⟩ := own_at hown hj
              rw [HNW.out] at e9
              obtain ⟨rfl, rfl⟩ : A4 = some ⟨g, 0, none⟩ ∧ c4 = cap := by injection e9 with a b c; exact ⟨a, c⟩
              clear hown e9 hgl hbg b9 ho9
              generalize hwz : (want.getD j En.z).nd = zn at *
              clear hwz
              have y1 : (0 : Int) ≤ (j : Int) := by omega
              have y2 : (j : Int) < (nw : Int) := by omega
              have hown2 : w3.ownsRow w.heap.size 43 2 (.slice (some ⟨g, 0, none⟩) want.length c4) want.length (ensCells want) := by have := HP3.out.own; rw [HNW.out] at this ⊢; exact this
              have HEW := Lib.hid (EnsAt.of_own hown2 rfl (fun e he => HP3.out.fit e (HP3.out.inv.mem.1 he).1))
              rw [HNW.out] at HEW
              clear hown2
              have HEJ : Hid (∀ W : World, (∀ p, W.cell? p = w3.cell? p) → EnsAt W w3.heap.size (some ⟨g, 0, none⟩) j (want.take j)) := fun W h => (HEW.out.take j (by omega)).keep fun p _ => h p
              have HED : Hid (∀ W : World, (∀ p : Addr, p.block < w3.heap.size → W.cell? p = w3.cell? p) → EnsAt W w3.heap.size (if c4 = j + 1 then some ⟨g, 0, none⟩ else some ⟨g, (j + 1) * 2, none⟩) (nw - (j + 1)) (want.drop (j + 1))) := fun W h => by
                split
                · have e1 : want.drop (j + 1) = [] := List.drop_eq_nil_of_le (by rw [HNW.out]; omega)
                  rw [e1, show nw - (j + 1) = 0 by omega]
                  exact EnsAt.nil _ _ _
                · have := (HEW.out.drop (j + 1)).keep (w' := W) (fun p hp => h p hp)
                  rw [Nat.zero_add] at this
                  exact this
              have y3 : j ≤ c4 := by omega
              have y4 : (j : Int) ≤ (c4 : Int) := by omega
              have y5 : j + 1 ≤ nw := by omega
              have y6 : (j : Int) + 1 ≤ (nw : Int) := by omega
              have y7 : IntKind.i64.wrap ((j : Int) + 1) = (j : Int) + 1 := by simp [IntKind.wrap, IntKind.signed, IntKind.bits]; omega
              have y8 : ((j : Int) + 1).toNat = j + 1 := by omega
              have y9 : (0 : Int) ≤ (j : Int) + 1 := by omega
              obtain ⟨A9, c9, rfl, hc9⟩ := own_slice HO9.out
              have HE9 := Lib.hid (EnsAt.of_own HO9.out rfl HFL.out)
              have HB3 : Hid (Below w.heap.size w w3) := HP3.out.bel
              go_wp2_with fail
              go_region_law (first
                | (refine step_join (by rfl) (.const (.slice none 0 0)) (.tmp 81) (by rfl) w3.heap.size _ (.slice none 0 0) [] (by simp [Act.eval]) w3.heap.size (some ⟨g, 0, none⟩) j c4 (want.take j) (by simp [Act.eval, Act.put]) (World.ownsRow_nil _ _ _ _) (HEJ.out _ (fun _ => rfl)) (by simp; omega) (Nat.le_refl _) ?_
                   intro v4' w4 ho4 b4)
                | (refine step_join (by rfl) (.tmp 82) (.tmp 86) (by rfl) w3.heap.size _ v4' _ (by simp [Act.eval]) w3.heap.size (if c4 = j + 1 then some ⟨g, 0, none⟩ else some ⟨g, (j + 1) * 2, none⟩) (nw - (j + 1)) (c4 - (j + 1)) (want.drop (j + 1)) (by simp [Act.eval]) ho4 (HED.out _ (fun p hp => b4.cell hp)) (by simp; omega) b4.size ?_
                   intro v5 w5 ho5 b5))
              rw [List.nil_append] at ho4 ho5
              obtain ⟨A5, c5, rfl, hc5⟩ := own_slice ho5
              have HFIN : Hid (PlayR w w5 (.slice A9 L.length c9) (.slice A5 (want.take j ++ want.drop (j + 1)).length c5) (k + 1)) := by
                have hnl := HNL.out
                have b35 : Below w3.heap.size w3 w5 := (undrew b4).trans (b5.mono (Nat.le_refl _))
                exact ⟨L, want.take j ++ want.drop (j + 1), A9, c9, rfl, HINV.out, by omega, HFL.out, HE9.out.to b35, own_base ho5 HB3.out.size, Apart.new ho5 HE9.out (Nat.le_refl _), HB3.out.trans (b35.mono HB3.out.size)⟩
              clear ho4 ho5 b4 b5
              simp only [List.length_append, List.length_take, List.length_drop] at HFIN
              go_wp2
              go_roundw
              case rel => exact ⟨k + 1, by omega, by go_num, HFIN.out⟩
              case measure => simp [intOf]; omega
          · have KA := Lib.hid (add_any A3 nl c3 wr.heap.size l s z wr HENS.out (Nat.le_refl _) (by omega) hfs HZF.out)
            have KR := Lib.hid (fun W => rright_any s W (by omega))
            have hal := addR_len l s z
            rw [HNL.out] at hal
            have HFL := Lib.hid (addR_fit HP2.out.fit hfs HZF.out)
            rcases HP2.out.inv.add s z (by omega) with ⟨hat, hr, h65, hw, h0, hinv⟩ | ⟨hno, hne⟩
            · rw [HNW.out] at hat hw
              rw [hr] at KR
              generalize addR l s z = R at *
              obtain ⟨L, ze⟩ := R
              simp only at h0 hinv hal HFL
              subst h0
              have HINV := Lib.hid hinv
              have d1 : decide (z ≤ 65535) = true := by simpa using h65
              have d2 : decide (atN want s nw < 0) = true := by simpa using hat
              have d3 : decide ((nw : Int) < 160) = true := by simp; omega
              have d4 : decide (z < 1) = false := by simpa using hz1
              clear hinv hr
              generalize atN want s nw = u at *
              go_wp2_with fail
              refine KA.out.mono ?_
              rintro e w3 ⟨v9, rfl, ho9, b9⟩
              have HP3 := Lib.hid (HP2.out.to b9)
              have HO9 := Lib.hid ho9
              have m1' := bcell b9 m1 HQ2.out
              have m2' := bcell b9 m2 HQ2.out
              have HQ3 : Hid (wr.heap.size ≤ w3.heap.size) := b9.size
              clear b9 ho9
              go_wp2_with fail
              refine (KR.out _).mono ?_
              rintro e w4 ⟨rfl, rfl⟩
              obtain ⟨A9, c9, rfl, hc9⟩ := own_slice HO9.out
              have HE9 := Lib.hid (EnsAt.of_own HO9.out rfl HFL.out)
              have HFAR : Hid (Apart A9 L.length (.slice A4 nw c4)) := Apart.old HP2.out.own HO9.out (Nat.le_refl _)
              have hown3 := HP3.out.own
              have HB3 := Lib.hid HP3.out.bel
              go_wp2_with (at_builtin; refine push_far rfl (.tmp 121) (.tmp 123) rfl w.heap.size w4 (.slice A4 nw c4) want s z rfl rfl hown3 (by rw [HNW.out]; omega) HB3.out.size ?_; intro v5 w5 ho5 b5 hkeep5; obtain ⟨A5, c5, rfl, hc5⟩ := own_slice ho5)
              have HFIN : Hid (PlayR w w5 (.slice A9 L.length c9) (.slice A5 (want ++ [(⟨s, z⟩ : En)]).length c5) (k + 1)) := by
                obtain ⟨k1, k2⟩ := hkeep5 _ _ _ _ HE9.out (Nat.le_refl _) HFAR.out
                exact ⟨L, want ++ [⟨s, z⟩], A9, c9, rfl, HINV.out, by omega, HFL.out, k1.more b5.size, ho5, k2, HB3.out.trans b5⟩
              clear hkeep5 ho5 b5 hown3
              rw [List.length_append] at HFIN
              go_roundw
              case rel => exact ⟨k + 1, by omega, by go_num, HFIN.out⟩
              case measure => simp [intOf]; omega
            · have hcs : ¬ atN want s nw < 0 ∨ (atN want s nw < 0 ∧ rightB s = false) ∨ (atN want s nw < 0 ∧ rightB s = true ∧ ¬ z ≤ 65535) ∨ (atN want s nw < 0 ∧ rightB s = true ∧ z ≤ 65535 ∧ ¬ nw < 160) := by
                rw [HNW.out] at hno
                by_cases q1 : atN want s nw < 0
                · cases q2 : rightB s with
                  | false => exact Or.inr (Or.inl ⟨q1, rfl⟩)
                  | true =>
                    by_cases q3 : z ≤ 65535
                    · by_cases q4 : nw < 160
                      · exact absurd ⟨q1, q2, q3, q4⟩ hno
                      · exact Or.inr (Or.inr (Or.inr ⟨q1, rfl, q3, q4⟩))
                    · exact Or.inr (Or.inr (Or.inl ⟨q1, rfl, q3⟩))
                · exact Or.inl q1
              have KCS := Lib.hid hcs
              generalize addR l s z = R at *
              obtain ⟨L, ze⟩ := R
              simp only at hne
              have e1 := beq_eq_false_iff_ne.2 hne
              have d4 : decide (z < 1) = false := by simpa using hz1
              clear hno hcs hal HFL
              generalize atN want s nw = u at *
              go_wp2_with fail
              refine KA.out.mono ?_
              rintro e w3 ⟨v9, rfl, -, b9⟩
              have HP3 := Lib.hid ((HP2.out.to b9).next)
              have m1' := bcell b9 m1 HQ2.out
              have m2' := bcell b9 m2 HQ2.out
              clear b9
              rcases KCS.out with q1 | ⟨q1, q2⟩ | ⟨q1, q2, q3⟩ | ⟨q1, q2, q3, q4⟩
              · have f1 : decide (u < 0) = false := by simpa using q1
                generalize rightB s = rb at *
                cases rb with
                | false =>
                  go_wp2_with fail
                  refine (KR.out _).mono ?_
                  rintro e w4 ⟨rfl, rfl⟩
                  go_wp2
                  go_roundw
                  case rel => exact ⟨k + 1, by omega, by go_num, l, want, A3, c3, by rw [HNL.out], HP3.out⟩
                  case measure => simp [intOf]; omega
                | true =>
                  by_cases q3 : z ≤ 65535
                  · have f3 : decide (z ≤ 65535) = true := by simpa using q3
                    go_wp2_with fail
                    refine (KR.out _).mono ?_
                    rintro e w4 ⟨rfl, rfl⟩
                    go_wp2
                    go_roundw
                    case rel => exact ⟨k + 1, by omega, by go_num, l, want, A3, c3, by rw [HNL.out], HP3.out⟩
                    case measure => simp [intOf]; omega
                  · have f3 : decide (z ≤ 65535) = false := by simpa using q3
                    go_wp2_with fail
                    refine (KR.out _).mono ?_
                    rintro e w4 ⟨rfl, rfl⟩
                    go_wp2
                    go_roundw
                    case rel => exact ⟨k + 1, by omega, by go_num, l, want, A3, c3, by rw [HNL.out], HP3.out⟩
                    case measure => simp [intOf]; omega
              · have f1 : decide (u < 0) = true := by simpa using q1
                rw [q2] at KR
                go_wp2_with fail
                refine (KR.out _).mono ?_
                rintro e w4 ⟨rfl, rfl⟩
                go_wp2
                go_roundw
                case rel => exact ⟨k + 1, by omega, by go_num, l, want, A3, c3, by rw [HNL.out], HP3.out⟩
                case measure => simp [intOf]; omega
              · have f1 : decide (u < 0) = true := by simpa using q1
                have f3 : decide (z ≤ 65535) = false := by simpa using q3
                rw [q2] at KR
                go_wp2_with fail
                refine (KR.out _).mono ?_
                rintro e w4 ⟨rfl, rfl⟩
                go_wp2
                go_roundw
                case rel => exact ⟨k + 1, by omega, by go_num, l, want, A3, c3, by rw [HNL.out], HP3.out⟩
                case measure => simp [intOf]; omega
              · have f1 : decide (u < 0) = true := by simpa using q1
                have f3 : decide (z ≤ 65535) = true := by simpa using q3
                have f4 : decide ((nw : Int) < 160) = false := by simp; omega
                rw [q2] at KR
                go_wp2_with fail
                refine (KR.out _).mono ?_
                rintro e w4 ⟨rfl, rfl⟩
                go_wp2
                go_roundw
                case rel => exact ⟨k + 1, by omega, by go_num, l, want, A3, c3, by rw [HNL.out], HP3.out⟩
                case measure => simp [intOf]; omega
    · have HENS : Hid (EnsAt wr wr.heap.size A3 nl l) := by show EnsAt _ _ _ _ _; rw [← HNL.out]; exact HP.out.ens
      have KL := Lib.hid (live_any A3 nl c3 wr.heap.size l wr HENS.out (Nat.le_refl _) (by omega))
      have KR := Lib.hid (fun W (h : Below wr.heap.size wr W) => rightE_any A3 nl c3 wr.heap.size l W (HENS.out.below h (Nat.le_refl _)) h.size (by omega))
      rw [HP.out.inv.right] at KR
      have KF := Lib.hid (fun t W (h : Below wr.heap.size wr W) => find_any A3 nl c3 wr.heap.size l t W (HENS.out.below h (Nat.le_refl _)) h.size (by omega))
      have HLL := Lib.hid HP.out.inv.len
      rw [HNW.out] at HLL
      generalize liveR l = LL at *
      go_wp2_with fail
      refine KL.out.mono ?_
      rintro e w3 ⟨v9, rfl, ho9, b9⟩
      obtain ⟨A9, c9, rfl, -⟩ := own_slice ho9
      rw [HLL.out]
      have HB9 := Lib.hid b9
      clear b9 ho9
      go_wp2_with fail
      refine (KR.out _ HB9.out).mono ?_
      rintro e w4 ⟨rfl, b4⟩
      have HB4 := Lib.hid (HB9.out.trans (b4.mono HB9.out.size))
      clear b4 HB9
      have HWR : Hid (Below w.heap.size w wr) := HP.out.bel
      have HOWN := Lib.hid HP.out.own
      have HINV := Lib.hid HP.out.inv
      go_wp2
      go_loopw [15, 16, 17] (fun i _ _ wq => ∃ q : Nat, q ≤ nw ∧ i = .int .i64 (q : Int) ∧ Below wr.heap.size wr wq) (fun i _ _ _ => nw - (intOf i).toNat)
      case atStart => exact ⟨0, by omega, rfl, HB4.out⟩
      case round =>
        obtain ⟨q, hq, rfl, hb⟩ := hrel
        by_cases hqw : q < nw
        · have hqw2 : q < want.length := by rw [HNW.out]; exact hqw
          have hown := own_below HOWN.out hb (Nat.le_refl _)
          rw [← HNW.out] at hown
          obtain ⟨g, cap, e9, hbg, hgl, g1, g2, -, -⟩ := own_at hown hqw2
          rw [HNW.out] at e9
          obtain ⟨rfl, rfl⟩ : A4 = some ⟨g, 0, none⟩ ∧ c4 = cap := by injection e9 with a b c; exact ⟨a, c⟩
          have HF := Lib.hid (KF.out (want.getD q En.z).nm _ hb)
          rw [HINV.out.found hqw2] at HF
          have HB := Lib.hid hb
          clear hown e9 hbg hb
          generalize (want.getD q En.z).nm = t at *
          generalize (want.getD q En.z).nd = zz at *
          have y1 : (0 : Int) ≤ (q : Int) := by omega
          have y2 : (q : Int) < (nw : Int) := by omega
          go_wp2_with fail
          refine HF.out.mono ?_
          rintro e w5 ⟨rfl, b5⟩
          have k2 := bcell b5 g2 hgl
          have HB5 := Lib.hid (HB.out.trans (b5.mono HB.out.size))
          clear b5
          go_wp2
          go_roundw
          case rel => exact ⟨q + 1, by omega, by go_num, HB5.out⟩
          case measure => simp [intOf]; omega
        · go_wp2
          go_ret
          exact ⟨rfl, HWR.out.trans (hb.mono HWR.out.size)⟩

set_option maxRecDepth 100000 in
theorem lifted (os : Os) (started : os.Started) (H : Type) (enc : TypeId × Value → H) :
    ReturnsInHanded {} Try.checked os 6 .any (Rows.rollsPlaySpec.pre6 enc Try.prog Try.f6 Rows.rollsPlayRow.domain false) (Rows.rollsPlaySpec.post enc Try.prog Try.f6 false true false false) := by
  refine returnsInHanded_of_change_sized (C := Try.checked) own started (by kernel_rfl) Try.func6
    (ChangeSpec.witness6 (enc := enc) (C := Try.checked) false ⟨#[], #[.slice none 0 0], []⟩ 8 (by kernel_rfl) (by kernel_rfl) (by kernel_rfl) (by kernel_rfl)) ?_
  intro W base args ds gs before hval0 hW hcnd hsz0 _
  have hval : ∀ (j : Nat) t v, Try.f6.params[j]? = some t → args[j]? = some v → Value.okWide Try.prog W .any base t v := hval0
  have hsz : (DataW.weightsEach Try.prog (Try.f6.params.toList ++ Rows.rollsPlaySpec.plain.varTypes Try.prog) (ds ++ gs)).all (· ≤ reachBytes) = true := hsz0
  have hW' := hW
  obtain ⟨p, q, hA0, hV, rfl, hfz, hnd⟩ := hW
  have hA : DataW.TrodAll enc Try.prog W 0 (fun _ => true) true Try.f6.params.toList args.toList ds p := hA0
  rw [Try.params6] at hA hval hsz
  obtain ⟨v0, vs0, d0, ds0, p0, q0, hargs, rfl, rfl, h0, r0⟩ := trodAll_cons hA
  obtain ⟨rfl, rfl, rfl⟩ := trodAll_nil r0
  obtain rfl : args = #[v0] := by cases args; simp_all
  obtain ⟨rfl, rfl⟩ := trodVars_none hV
  have lt0 : ∀ x ∈ p0, x.block < W.heap.size := by obtain ⟨m, hm⟩ := h0; exact DataW.trod_lt m _ _ _ hm
  obtain ⟨a0, len0, cap0, rfl⟩ := okWide_slice Try.underlying22 (hval 0 22 v0 rfl rfl)
  obtain ⟨l0, w0⟩ := ens_open h0 (fun n hn => by simpa using List.all_eq_true.1 hsz _ (DataW.weights_mem_each (j := 0) rfl rfl n hn))
  clear hA0 hval0
  refine (walk a0 len0 cap0 l0 W w0).mono fun e W' ⟨he, bel⟩ => ?_
  subst he
  exact ⟨_, rfl, _, _, _, [], _, [], hW', trodAll_mk1 (shut_bool Try.underlying4 _), (trodAll_cons_mk (Below.trod laidOut (by kernel_rfl) (of_decide_eq_true (by kernel_rfl)) h0 bel lt0) trodAll_mk0), rfl, bel.frame _, fun h => by cases h⟩

theorem over : Rows.rollsPlayRow.holds Try.pinned (OpenSpec.ofChange Rows.rollsPlaySpec) :=
  OpenClaim.holds_of_wide 6 Try.f6 rfl rfl rfl rfl rfl rfl rfl ⟨rfl, rfl, rfl, rfl, rfl⟩ rfl rfl rfl rfl rfl (by kernel_rfl) Try.func6 (by kernel_rfl)
    (of_decide_eq_true (by kernel_rfl)) (by unfold Func.isWrapper; first | (rw [if_pos (by decide +kernel)]; kernel_rfl) | (rw [if_neg (by decide +kernel)]; exact ⟨rfl, rfl⟩))
    (fun os started H enc _ => lifted os started H enc)

end Go.Proofs.Ytmmjpdggneagdaa.rollsPlay
namespace Go.Proofs.Ytmmjpdggneagdaa
theorem rollsPlay_proved : Rows.RollsPlaySaid := rollsPlay.over
#print axioms rollsPlay_proved
end Go.Proofs.Ytmmjpdggneagdaa
