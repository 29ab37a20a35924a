/-
  WALK: the reference's Of: the same spans. Conditions: at most 65536 elements.
-/
import Derived.Test.YtgdlfiejjnjcpaaGreatSOf
namespace Go.Proofs.YtgdlfiejjnjcpaaGreat
open Go.RowKit
set_option maxRecDepth 100000 in
set_option maxHeartbeats 1000000 in
theorem block_any (z : Int) (w : World) : Calls Tryz.prog 72 #[.int .i64 z] w fun e w' => e = .returned (.int .i64 (norm z)) ∧ w = w' := by
  by_cases h1 : z < 1
  · have HN : Hid (norm z = 0) := by show _ = _; unfold norm; rw [if_pos (Or.inl h1)]
    have d1 : decide (z < 1) = true := by simpa using h1
    clear h1
    go_enter Tryz.func72, Tryz.ntmps72
    go_wp2
    go_ret
    rw [HN.out]; exact ⟨rfl, rfl⟩
  · have d1 : decide (z < 1) = false := by simpa using h1
    by_cases h2 : 65536 ≤ z
    · have HN : Hid (norm z = 0) := by show _ = _; unfold norm; rw [if_pos (Or.inr h2)]
      have d2 : decide (65536 ≤ z) = true := by simpa using h2
      clear h1 h2
      go_enter Tryz.func72, Tryz.ntmps72
      go_wp2
      go_ret
      rw [HN.out]; exact ⟨rfl, rfl⟩
    · have HN : Hid (norm z = z) := by show _ = _; unfold norm; rw [if_neg (by omega)]
      have d2 : decide (65536 ≤ z) = false := by simpa using h2
      clear h1 h2
      go_enter Tryz.func72, Tryz.ntmps72
      go_wp2
      go_ret
      rw [HN.out]; exact ⟨rfl, rfl⟩


set_option maxRecDepth 100000 in
set_option maxHeartbeats 4000000 in
theorem rof_any (A : Option Addr) (n c B : Nat) (zs : List Int) (w : World) (hA : IntsAt w B A n zs) (hB : B ≤ w.heap.size) (hn : n ≤ 65536) :
    Calls Tryz.prog 43 #[.slice A n c] w (RetSps w (ofR zs)) := by
  have HL := Lib.hid hA.len
  have HA := Lib.hid hA
  have HR : Hid (ofR zs = ofN zs n) := by show _ = _; unfold ofR; rw [HL.out, Nat.min_eq_left hn]
  clear hA
  go_enter Tryz.func43, Tryz.ntmps43
  go_wp2
  go_loopw [3, 4, 5, 6] (fun v j _ _ wr => ∃ k : Nat, k ≤ n ∧ j = .int .i64 (k : Int) ∧ wr.ownsRow w.heap.size 85 3 v (ofN zs k).length (spsCells (ofN zs k)) ∧ Below w.heap.size w wr) (fun _ j _ _ _ => n - (intOf j).toNat)
  case atStart => exact ⟨0, by omega, rfl, World.ownsRow_nil _ _ _ _, Below.refl _ _⟩
  case round =>
    obtain ⟨k, hk, rfl, hown, hb⟩ := hrel
    have hlen := ofN_len zs k
    obtain ⟨A', c', rfl, hc'⟩ := own_sliceE hown
    by_cases hlt : k < n
    · have dd1 : decide ((k : Int) < (n : Int)) = true := by simp; omega
      have dd1' : decide (k < n) = true := by simp; omega
      have dd2 : decide ((k : Int) < 65536) = true := by simp; omega
      obtain ⟨b, o, rfl, hbB, h1⟩ := HA.out.at_ hlt
      have hbl : b < w.heap.size := by omega
      have c1 := bcell hb h1 hbl
      have hws := hb.size
      have HOWN := Lib.hid hown
      have HB := Lib.hid hb
      have HST : Hid (ofN zs (k + 1) = stepOf (ofN zs k) k (zs.getD k 0)) := by show _ = _; rfl
      have hsm := ofN_small zs k (by omega)
      generalize zs.getD k 0 = z at *
      have HBK := Lib.hid (fun w => block_any z w)
      clear h1 hown hb
      by_cases hz : norm z = 0
      · have HE : Hid (ofN zs (k + 1) = ofN zs k) := by show _ = _; rw [HST.out]; unfold stepOf; rw [if_pos hz]
        rw [hz] at HBK
        clear hz HST hsm
        generalize hLd : (ofN zs k).length = m at *
        have HLd := Lib.hid hLd
        clear hLd
        go_wp2_with fail
        refine (HBK.out _).mono ?_
        rintro e w2 ⟨rfl, rfl⟩
        go_wp2
        go_roundw
        case rel => exact ⟨k + 1, by omega, by go_num, by rw [HE.out, HLd.out]; exact HOWN.out, HB.out⟩
        case measure => simp [intOf]; omega
      · obtain ⟨hzz, q1, q2⟩ := norm_id hz
        have HE : Hid (ofN zs (k + 1) = push (ofN zs k) ⟨k, z, 1⟩) := by show _ = _; rw [HST.out]; unfold stepOf; rw [if_neg hz]
        rw [hzz] at HBK
        have d1 : (z == 0) = false := by simp; omega
        clear hz HST hzz
        rcases snoc_cases (ofN zs k) with hL | ⟨r, a, hL⟩
        · rw [hL] at HE HOWN hlen hsm
          rw [hL]
          clear hL
          simp only [List.length_nil] at *
          have g1 : decide ((0 : Int) ≤ -1) = false := by simp
          have HNEW : Hid (push [] ⟨(k : Int), z, 1⟩ = [⟨(k : Int), z, 1⟩]) := by show _ = _; rfl
          go_wp2_with fail
          refine (HBK.out _).mono ?_
          rintro e w2 ⟨rfl, rfl⟩
          go_wp2
          go_quiet (fail)
          have HO2 : Hid ((wr.drewN nq).ownsRow w.heap.size 85 3 (.slice A' 0 c') 0 (spsCells [])) := HOWN.out
          have HB2 : Hid (Below w.heap.size w (wr.drewN nq)) := Below.drews HB.out ⟨nq, rfl⟩
          generalize wr.drewN nq = W2 at *
          go_wp2_with (at_builtin; refine push_law rfl (.tmp 67) (.tmp 71) rfl w.heap.size W2 (.slice A' 0 c') [] ⟨(k : Int), z, 1⟩ rfl rfl HO2.out (by simp) HB2.out.size ?_; intro v' w3 hown3 hb3)
          go_roundw
          case rel => exact ⟨k + 1, by omega, by go_num, by rw [HE.out, HNEW.out]; exact hown3, HB2.out.trans hb3⟩
          case measure => simp [intOf]; omega
        · rw [hL] at HE HOWN hlen hsm
          rw [hL]
          clear hL
          obtain ⟨g, cap, e0, hbg, hgl, l1, l2, l3⟩ := own_last HOWN.out
          obtain ⟨asm1, asm2, asm3⟩ := hsm a (by simp)
          have hlen2 : (r ++ [a]).length = r.length + 1 := by simp
          rw [hlen2] at hlen HOWN e0
          rw [hlen2]
          cases e0
          have HPS := Lib.hid (push_snoc r a ⟨(k : Int), z, 1⟩)
          by_cases q3 : a.at_ + a.len = (k : Int)
          · by_cases q4 : a.st + a.len = z
            · have hj : joinsB a ⟨(k : Int), z, 1⟩ = true := joinsB_iff.2 ⟨q3.symm, q4.symm⟩
              have HNEW : Hid (ofN zs (k + 1) = r ++ [⟨a.at_, a.st, a.len + 1⟩]) := by show _ = _; rw [HE.out, HPS.out, if_pos hj]
              obtain ⟨aa, ap, al⟩ := a
              simp only at l1 l2 l3 asm1 asm2 asm3 q3 q4
              have d3 : (aa + al == (k : Int)) = true := by simpa using q3
              have d4 : (ap + al == z) = true := by simpa using q4
              have fz := HOWN.out.frozenAt (r.length * 3 + 2)
              have HO4 := Lib.hid (own_grow (x := al + 1) HOWN.out)
              have HB4 : Hid (Below w.heap.size w (wr.setCell ⟨g, r.length * 3 + 2, none⟩ (.int .i64 (al + 1)))) := HB.out.setCell hbg _
              have HLE : Hid ((r ++ [(⟨aa, ap, al + 1⟩ : Sp)]).length = r.length + 1) := by show _ = _; simp
              clear hj hsm HE HPS hlen2 HOWN HB hws q3 q4
              generalize r.length = m at *
              have x1 : (0 : Int) ≤ (m : Int) := by omega
              have x2 : (m : Int) < (m : Int) + 1 := by omega
              go_wp2_with fail
              refine (HBK.out _).mono ?_
              rintro e w2 ⟨rfl, rfl⟩
              go_wp2
              go_quiet (fail)
              go_wp2
              go_roundw
              case rel => exact ⟨k + 1, by omega, by go_num, by rw [HNEW.out, HLE.out]; exact HO4.out, Below.drews HB4.out ⟨_, rfl⟩⟩
              case measure => simp [intOf]; omega
            · have hj : joinsB a ⟨(k : Int), z, 1⟩ = false := by
                cases hh : joinsB a ⟨(k : Int), z, 1⟩ with
                | false => rfl
                | true => exact absurd (joinsB_iff.1 hh).2.symm q4
              have HNEW : Hid (ofN zs (k + 1) = (r ++ [a]) ++ [⟨(k : Int), z, 1⟩]) := by show _ = _; rw [HE.out, HPS.out, if_neg (by rw [hj]; decide)]; simp
              obtain ⟨aa, ap, al⟩ := a
              simp only at l1 l2 l3 asm1 asm2 asm3 q3 q4
              have d3 : (aa + al == (k : Int)) = true := by simpa using q3
              have d4 : (ap + al == z) = false := by simpa using q4
              have HLE : Hid ((r ++ [(⟨aa, ap, al⟩ : Sp)]).length = r.length + 1) := by show _ = _; simp
              clear hj hsm HE HPS hlen2 hws q3 q4
              generalize r.length = m at *
              have x1 : (0 : Int) ≤ (m : Int) := by omega
              have x2 : (m : Int) < (m : Int) + 1 := by omega
              go_wp2_with fail
              refine (HBK.out _).mono ?_
              rintro e w2 ⟨rfl, rfl⟩
              go_wp2
              go_quiet (fail)
              have HO2 : Hid ((wr.drewN nq).ownsRow w.heap.size 85 3 (.slice (some ⟨g, 0, none⟩) (m + 1) c') (m + 1) (spsCells (r ++ [(⟨aa, ap, al⟩ : Sp)]))) := HOWN.out
              have HB2 : Hid (Below w.heap.size w (wr.drewN nq)) := Below.drews HB.out ⟨nq, rfl⟩
              clear l1 l2 l3 x1 x2
              generalize wr.drewN nq = W2 at *
              go_wp2_with (at_builtin; refine push_law rfl (.tmp 67) (.tmp 71) rfl w.heap.size W2 (.slice (some ⟨g, 0, none⟩) (m + 1) c') (r ++ [⟨aa, ap, al⟩]) ⟨(k : Int), z, 1⟩ rfl rfl (by rw [HLE.out]; exact HO2.out) (by rw [HLE.out]; omega) HB2.out.size ?_; intro v' w4 hown4 hb4)
              go_roundw
              case rel => exact ⟨k + 1, by omega, by go_num, by rw [HNEW.out]; exact hown4, HB2.out.trans hb4⟩
              case measure => simp [intOf]; omega
          · have hj : joinsB a ⟨(k : Int), z, 1⟩ = false := by
              cases hh : joinsB a ⟨(k : Int), z, 1⟩ with
              | false => rfl
              | true => exact absurd (joinsB_iff.1 hh).1.symm q3
            have HNEW : Hid (ofN zs (k + 1) = (r ++ [a]) ++ [⟨(k : Int), z, 1⟩]) := by show _ = _; rw [HE.out, HPS.out, if_neg (by rw [hj]; decide)]; simp
            obtain ⟨aa, ap, al⟩ := a
            simp only at l1 l2 l3 asm1 asm2 asm3 q3
            have d3 : (aa + al == (k : Int)) = false := by simpa using q3
            have HLE : Hid ((r ++ [(⟨aa, ap, al⟩ : Sp)]).length = r.length + 1) := by show _ = _; simp
            clear hj hsm HE HPS hlen2 hws q3
            generalize r.length = m at *
            have x1 : (0 : Int) ≤ (m : Int) := by omega
            have x2 : (m : Int) < (m : Int) + 1 := by omega
            go_wp2_with fail
            refine (HBK.out _).mono ?_
            rintro e w2 ⟨rfl, rfl⟩
            go_wp2
            go_quiet (fail)
            have HO2 : Hid ((wr.drewN nq).ownsRow w.heap.size 85 3 (.slice (some ⟨g, 0, none⟩) (m + 1) c') (m + 1) (spsCells (r ++ [(⟨aa, ap, al⟩ : Sp)]))) := HOWN.out
            have HB2 : Hid (Below w.heap.size w (wr.drewN nq)) := Below.drews HB.out ⟨nq, rfl⟩
            clear l1 l2 l3 x1 x2
            generalize wr.drewN nq = W2 at *
            go_wp2_with (at_builtin; refine push_law rfl (.tmp 67) (.tmp 71) rfl w.heap.size W2 (.slice (some ⟨g, 0, none⟩) (m + 1) c') (r ++ [⟨aa, ap, al⟩]) ⟨(k : Int), z, 1⟩ rfl rfl (by rw [HLE.out]; exact HO2.out) (by rw [HLE.out]; omega) HB2.out.size ?_; intro v' w4 hown4 hb4)
            go_roundw
            case rel => exact ⟨k + 1, by omega, by go_num, by rw [HNEW.out]; exact hown4, HB2.out.trans hb4⟩
            case measure => simp [intOf]; omega
    · have hNk : n = k := by omega
      have dd1 : decide ((k : Int) < (n : Int)) = false := by simp; omega
      have dd1' : decide (k < n) = false := by simp; omega
      have HE : Hid (ofR zs = ofN zs k) := by show _ = _; rw [HR.out, hNk]
      have hsm := ofN_small zs k (by omega)
      clear hNk HR
      have hfin : RetSps w (ofR zs) (.returned (.slice A' (ofN zs k).length c')) wr := by
        rw [HE.out]
        exact ⟨A', c', rfl, hc', SpsAt.of_own hown rfl (fun s hs => small_fit (hsm s hs)), hb⟩
      have HF := Lib.hid hfin
      clear hfin
      go_wp2
      go_ret
      exact HF.out
end Go.Proofs.YtgdlfiejjnjcpaaGreat
