/-
  WALK: the reference's Right of spans tells whether they are valid. Conditions: at most 1000000000 spans.
-/
import Derived.Test.YtgdlfiejjnjcpaaGreatBC
namespace Go.Proofs.YtgdlfiejjnjcpaaGreat
open Go.RowKit

set_option maxRecDepth 100000 in
set_option maxHeartbeats 8000000 in
theorem rright4_any (A : Option Addr) (n c B : Nat) (l : List Sp) (w : World) (hA : SpsAt w B A n l) (hB : B ≤ w.heap.size) (hn : n ≤ 1000000000) :
    Calls Tryz.prog 50 #[.slice A n c] w fun e w' => e = .returned (.bool (rightL none l)) ∧ Below w.heap.size w w' := by
  have HL := Lib.hid hA.len
  have HA := Lib.hid hA
  obtain ⟨R, hR⟩ : ∃ R, R = rightL none l := ⟨_, rfl⟩
  rw [← hR]
  have HR : Hid (R = rightL (prevS l 0) (l.drop 0)) := by show _ = _; rw [hR]; rfl
  have HFIT : Hid (∀ j, (l.getD j Sp.z).fit) := fun j => hA.bd j
  clear hA hR
  go_enter Tryz.func50, Tryz.ntmps50
  go_wp2
  go_loopw [3] (fun j wr => ∃ k : Nat, k ≤ n ∧ j = .int .i64 (k : Int) ∧ Hid (R = rightL (prevS l k) (l.drop k)) ∧ Hid (∀ j, k = j + 1 → inB (l.getD j Sp.z) = true) ∧ Below w.heap.size w wr) (fun j _ => n - (intOf j).toNat)
  case atStart => exact ⟨0, by omega, rfl, HR, (by show ∀ j, 0 = j + 1 → _; intro j hj; omega), Below.refl _ _⟩
  case round =>
    obtain ⟨k, hk, rfl, HG, HP, hb⟩ := hrel
    by_cases hlt : k < n
    · obtain ⟨b, o, rfl, hbB, h1, h2, h3⟩ := HA.out.at_ hlt
      have hbl : b < w.heap.size := by omega
      have c1 := bcell hb h1 hbl
      have c2 := bcell hb h2 hbl
      have c3 := bcell hb h3 hbl
      have hkl : k < l.length := by rw [HL.out]; exact hlt
      have HB := Lib.hid hb
      have hws := hb.size
      have HD := HG.out
      rw [right_drop hkl] at HD
      have HNO : Hid (inB (l.getD k Sp.z) = false → R = false) := by
        show _ → _
        intro hno
        rw [HD]
        cases hf : fitsB (prevS l k) (l.getD k Sp.z) with
        | false => rfl
        | true => have := fitsB_in hf; rw [hno] at this; cases this
      have HDD := Lib.hid HD
      have hfit := HFIT.out k
      have HHK : Hid (∀ s, l.getD k Sp.z = s → prevS l (k + 1) = some s) := by
        show ∀ s, _ → _
        rintro s rfl; rfl
      have HHI : Hid (∀ s, l.getD k Sp.z = s → inB s = true → ∀ j, k + 1 = j + 1 → inB (l.getD j Sp.z) = true) := by
        show ∀ s, _ → _ → ∀ j, _ → _
        rintro s rfl hs j hj
        obtain rfl : k = j := by omega
        exact hs
      have HPV : Hid (∀ j, k = j + 1 → ∃ b' o', b' < w.heap.size ∧ (some ⟨b, o, none⟩ : Option Addr) = some ⟨b', o', none⟩ ∧ wr.cell? ⟨b', o' + j * 3, none⟩ = some (.int .i64 (l.getD j Sp.z).at_) ∧ wr.cell? ⟨b', o' + j * 3 + 1, none⟩ = some (.int .i64 (l.getD j Sp.z).st) ∧ wr.cell? ⟨b', o' + j * 3 + 2, none⟩ = some (.int .i64 (l.getD j Sp.z).len) ∧ inB (l.getD j Sp.z) = true) := by
        show ∀ j, _ → _
        intro j hj
        obtain ⟨b', o', e0, hb', g1, g2, g3⟩ := HA.out.at_ (show j < n by omega)
        exact ⟨b', o', by omega, e0, bcell hb g1 (by show b' < _; omega), bcell hb g2 (by show b' < _; omega), bcell hb g3 (by show b' < _; omega), HP.out j hj⟩
      have HHK' := Lib.hid (HHK.out _ rfl)
      have HHI' := Lib.hid (HHI.out _ rfl)
      clear HHK HHI HD HG HP h1 h2 h3 hb
      generalize l.getD k Sp.z = s at *
      obtain ⟨sa, sp, sl⟩ := s
      obtain ⟨f1, f2, f3⟩ := hfit
      simp only at c1 c2 c3 f1 f2 f3
      have HBW : Hid (∀ o1 : Obj, Below w.heap.size w (wr.alloc o1)) := fun o1 => HB.out.alloc hws _
      have HBW2 : Hid (∀ o1 o2 : Obj, Below w.heap.size w ((wr.alloc o1).alloc o2)) := fun o1 o2 => (HB.out.alloc hws _).alloc (by simp; omega) _
      cases x0 : decide (sa < 0) with
      | true =>
        have HF : Hid (R = false) := HNO.out (by
          cases hin : inB ⟨sa, sp, sl⟩ with
          | false => rfl
          | true => have h1 := inB_iff.1 hin; have h2 := of_decide_eq_true x0; simp only at h1; omega)
        clear HNO HDD HPV HHI' HHK'
        go_wp2
        go_ret
        exact ⟨ret_bool HF.out.symm, HBW.out _⟩
      | false =>
        cases x1 : decide (65536 ≤ sa) with
        | true =>
          have HF : Hid (R = false) := HNO.out (by
            cases hin : inB ⟨sa, sp, sl⟩ with
            | false => rfl
            | true => have h1 := inB_iff.1 hin; have h2 := of_decide_eq_true x1; simp only at h1; omega)
          clear HNO HDD HPV HHI' HHK'
          go_wp2
          go_ret
          exact ⟨ret_bool HF.out.symm, HBW.out _⟩
        | false =>
          cases x2 : decide (sp < 1) with
          | true =>
            have HF : Hid (R = false) := HNO.out (by
              cases hin : inB ⟨sa, sp, sl⟩ with
              | false => rfl
              | true => have h1 := inB_iff.1 hin; have h2 := of_decide_eq_true x2; simp only at h1; omega)
            clear HNO HDD HPV HHI' HHK'
            go_wp2
            go_ret
            exact ⟨ret_bool HF.out.symm, HBW.out _⟩
          | false =>
            cases x3 : decide (65536 ≤ sp) with
            | true =>
              have HF : Hid (R = false) := HNO.out (by
                cases hin : inB ⟨sa, sp, sl⟩ with
                | false => rfl
                | true => have h1 := inB_iff.1 hin; have h2 := of_decide_eq_true x3; simp only at h1; omega)
              clear HNO HDD HPV HHI' HHK'
              go_wp2
              go_ret
              exact ⟨ret_bool HF.out.symm, HBW.out _⟩
            | false =>
              cases x4 : decide (sl < 1) with
              | true =>
                have HF : Hid (R = false) := HNO.out (by
                  cases hin : inB ⟨sa, sp, sl⟩ with
                  | false => rfl
                  | true => have h1 := inB_iff.1 hin; have h2 := of_decide_eq_true x4; simp only at h1; omega)
                clear HNO HDD HPV HHI' HHK'
                go_wp2
                go_ret
                exact ⟨ret_bool HF.out.symm, HBW.out _⟩
              | false =>
                cases x5 : decide (65536 ≤ sl) with
                | true =>
                  have HF : Hid (R = false) := HNO.out (by
                    cases hin : inB ⟨sa, sp, sl⟩ with
                    | false => rfl
                    | true => have h1 := inB_iff.1 hin; have h2 := of_decide_eq_true x5; simp only at h1; omega)
                  clear HNO HDD HPV HHI' HHK'
                  go_wp2
                  go_ret
                  exact ⟨ret_bool HF.out.symm, HBW.out _⟩
                | false =>
                  have sb : (0 ≤ sa ∧ sa < 65536) ∧ (1 ≤ sp ∧ sp < 65536) ∧ (1 ≤ sl ∧ sl < 65536) := by
                    have := of_decide_eq_false x0
                    have := of_decide_eq_false x1
                    have := of_decide_eq_false x2
                    have := of_decide_eq_false x3
                    have := of_decide_eq_false x4
                    have := of_decide_eq_false x5
                    omega
                  cases x6 : decide (65536 < sa + sl) with
                  | true =>
                    have HF : Hid (R = false) := HNO.out (by
                      cases hin : inB ⟨sa, sp, sl⟩ with
                      | false => rfl
                      | true => have h1 := inB_iff.1 hin; have h2 := of_decide_eq_true x6; simp only at h1; omega)
                    clear HNO HDD HPV HHI' HHK'
                    go_wp2
                    go_ret
                    exact ⟨ret_bool HF.out.symm, HBW.out _⟩
                  | false =>
                    cases x7 : decide (65536 < sp + sl) with
                    | true =>
                      have HF : Hid (R = false) := HNO.out (by
                        cases hin : inB ⟨sa, sp, sl⟩ with
                        | false => rfl
                        | true => have h1 := inB_iff.1 hin; have h2 := of_decide_eq_true x7; simp only at h1; omega)
                      clear HNO HDD HPV HHI' HHK'
                      go_wp2
                      go_ret
                      exact ⟨ret_bool HF.out.symm, HBW.out _⟩
                    | false =>
                      have hin : inB ⟨sa, sp, sl⟩ = true := by
                        rw [inB_iff]
                        have := of_decide_eq_false x0
                        have := of_decide_eq_false x1
                        have := of_decide_eq_false x2
                        have := of_decide_eq_false x3
                        have := of_decide_eq_false x4
                        have := of_decide_eq_false x5
                        have := of_decide_eq_false x6
                        have := of_decide_eq_false x7
                        simp only
                        omega
                      have HIN := Lib.hid hin
                      have sbd := inB_iff.1 hin
                      simp only at sbd
                      have HI := Lib.hid (HHI'.out hin)
                      clear hin HHI' HNO
                      rcases Nat.eq_zero_or_pos k with h0 | h0
                      · have HE : Hid (R = rightL (prevS l (k + 1)) (l.drop (k + 1))) := by
                          show _ = _
                          rw [HDD.out, HHK'.out]
                          have : prevS l k = none := by rw [h0]; rfl
                          rw [this, fitsB_none, HIN.out, Bool.true_and]
                        have d0 : ((k : Int) == 0) = true := beq_iff_eq.2 (by omega)
                        clear h0 HDD HPV
                        go_wp2
                        go_roundw
                        case rel => exact ⟨k + 1, by omega, by go_num, HE, HI, HBW.out _⟩
                        case measure => simp [intOf]; omega
                      · obtain ⟨j, rfl⟩ : ∃ j, k = j + 1 := ⟨k - 1, by omega⟩
                        obtain ⟨b', o', hb', e0, p1, p2, p3, hpi⟩ := HPV.out j rfl
                        cases e0
                        have hps : prevS l (j + 1) = some (l.getD j Sp.z) := rfl
                        have HD := HDD.out
                        rw [hps] at HD
                        clear hps HPV HDD
                        have d0 : (((j + 1 : Nat) : Int) == 0) = false := beq_eq_false_iff_ne.2 (by omega)
                        have d0' : (((j : Int) + 1) == 0) = false := beq_eq_false_iff_ne.2 (by omega)
                        generalize l.getD j Sp.z = a at *
                        have abd := inB_iff.1 hpi
                        obtain ⟨aa, ap, al⟩ := a
                        simp only at p1 p2 p3 abd
                        have HD' := Lib.hid HD
                        have P1 := (World.cell?_alloc_lt wr (.cells #[.int .i64 sa, .int .i64 sp, .int .i64 sl] 85) ⟨b, o + j * 3, none⟩ (by show b < _; omega)).trans p1
                        have P2 := (World.cell?_alloc_lt wr (.cells #[.int .i64 sa, .int .i64 sp, .int .i64 sl] 85) ⟨b, o + j * 3 + 1, none⟩ (by show b < _; omega)).trans p2
                        have P3 := (World.cell?_alloc_lt wr (.cells #[.int .i64 sa, .int .i64 sp, .int .i64 sl] 85) ⟨b, o + j * 3 + 2, none⟩ (by show b < _; omega)).trans p3
                        clear p1 p2 p3
                        clear HD hpi h0
                        cases q1 : decide (sa < aa + al) with
                        | true =>
                          have HE : Hid (R = false) := by
                            show _ = _
                            rw [HD'.out]
                            cases hf : fitsB (some ⟨aa, ap, al⟩) ⟨sa, sp, sl⟩ with
                            | false => rfl
                            | true => have h1 := (fitsB_some.1 hf).2.1; have h2 := of_decide_eq_true q1; simp only at h1; omega
                          clear HD'
                          go_wp2
                          go_ret
                          exact ⟨ret_bool HE.out.symm, HBW2.out _ _⟩
                        | false =>
                          cases q2 : (sa == aa + al) with
                          | true =>
                            cases q3 : (sp == ap + al) with
                            | true =>
                              have HE : Hid (R = false) := by
                                show _ = _
                                rw [HD'.out]
                                cases hf : fitsB (some ⟨aa, ap, al⟩) ⟨sa, sp, sl⟩ with
                                | false => rfl
                                | true =>
                                  have h1 := (fitsB_some.1 hf).2.2
                                  have h2 : joinsB ⟨aa, ap, al⟩ ⟨sa, sp, sl⟩ = true := joinsB_iff.2 ⟨eq_of_beq q2, eq_of_beq q3⟩
                                  rw [h1] at h2; cases h2
                              clear HD'
                              go_wp2
                              go_ret
                              exact ⟨ret_bool HE.out.symm, HBW2.out _ _⟩
                            | false =>
                              have HE : Hid (R = rightL (prevS l (j + 1 + 1)) (l.drop (j + 1 + 1))) := by
                                show _ = _
                                rw [HD'.out, HHK'.out]
                                have hj : joinsB ⟨aa, ap, al⟩ ⟨sa, sp, sl⟩ = false := by
                                  cases hj : joinsB ⟨aa, ap, al⟩ ⟨sa, sp, sl⟩ with
                                  | false => rfl
                                  | true => have := (joinsB_iff.1 hj).2; simp only at this; rw [this] at q3; simp at q3
                                rw [fitsB_some.2 ⟨HIN.out, by have := of_decide_eq_false q1; simp only; omega, hj⟩, Bool.true_and]
                              clear HD'
                              go_wp2
                              go_roundw
                              case rel => exact ⟨j + 1 + 1, by omega, by go_num, HE, HI, HBW2.out _ _⟩
                              case measure => simp [intOf]; omega
                          | false =>
                            have HE : Hid (R = rightL (prevS l (j + 1 + 1)) (l.drop (j + 1 + 1))) := by
                              show _ = _
                              rw [HD'.out, HHK'.out]
                              have hj : joinsB ⟨aa, ap, al⟩ ⟨sa, sp, sl⟩ = false := by
                                cases hj : joinsB ⟨aa, ap, al⟩ ⟨sa, sp, sl⟩ with
                                | false => rfl
                                | true => have := (joinsB_iff.1 hj).1; simp only at this; rw [this] at q2; simp at q2
                              rw [fitsB_some.2 ⟨HIN.out, by have := of_decide_eq_false q1; simp only; omega, hj⟩, Bool.true_and]
                            clear HD'
                            go_wp2
                            go_roundw
                            case rel => exact ⟨j + 1 + 1, by omega, by go_num, HE, HI, HBW2.out _ _⟩
                            case measure => simp [intOf]; omega
    · have HN : Hid (R = true) := by show _ = _; rw [HG.out, List.drop_of_length_le (by rw [HL.out]; omega)]; unfold rightL; rfl
      go_wp2
      go_ret
      exact ⟨ret_bool HN.out.symm, hb⟩
end Go.Proofs.YtgdlfiejjnjcpaaGreat
