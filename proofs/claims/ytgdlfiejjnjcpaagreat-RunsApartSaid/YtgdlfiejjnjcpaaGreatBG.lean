/-
  WALK: the reference's Right tells whether a card is valid. Conditions: the lists have as many elements as an int64 counts.
-/
import Derived.Test.YtgdlfiejjnjcpaaGreatBE
import Derived.Test.YtgdlfiejjnjcpaaGreatBF
namespace Go.Proofs.YtgdlfiejjnjcpaaGreat
open Go.RowKit

def hdB (kd ln sz : Int) : Bool := (decide (kd = 1) || decide (kd = 2)) && decide (1 ≤ ln) && decide (ln ≤ 200) && decide (0 ≤ sz)
def q1B (sz : Int) (n : Nat) (ps : List Int) (sg db : Int) (n' : Nat) (ov : Int) : Bool := ps.all blkB && (decide (sz ≤ 9728) && (((n : Int) == 4) && (blkB sg && (blkB db && (((n' : Int) == 0) && (ov == 0))))))
def q2B (fm sz : Int) (n : Nat) (sg db : Int) (n' : Nat) (rs : List Sp) (ov : Int) : Bool := (fm == 2) && (decide (sz ≤ 15360) && (((n : Int) == 0) && ((sg == 0) && ((db == 0) && (decide ((n' : Int) ≤ 3) && (rightL none rs && (blkB ov && ((ov == 0) || ((n' : Int) == 3)))))))))
set_option maxRecDepth 100000 in
theorem ref_form {fm kd ln sz sg db ov : Int} {ps : List Int} {rs : List Sp} {n n' : Nat} (hl : ps.length = n) (hl' : rs.length = n') (hz : isZ ⟨fm, kd, ln, sz, ps, sg, db, rs, ov⟩ = false) :
    rightC ⟨fm, kd, ln, sz, ps, sg, db, rs, ov⟩ = (hdB kd ln sz && (if fm = 1 then q1B sz n ps sg db n' ov else q2B fm sz n sg db n' rs ov)) := by
  subst hl hl'
  rw [rightC, hz, Bool.false_or, Bool.eq_iff_iff]
  by_cases h1 : fm = 1
  · rw [if_pos h1]
    have h2 : twoB ⟨fm, kd, ln, sz, ps, sg, db, rs, ov⟩ = false := by
      cases ht : twoB ⟨fm, kd, ln, sz, ps, sg, db, rs, ov⟩ with
      | false => rfl
      | true => have := (twoB_iff.1 ht).1; simp only at this; omega
    rw [h2, Bool.or_false]
    simp only [headB, oneB, hdB, q1B, Bool.and_eq_true, Bool.or_eq_true, decide_eq_true_eq, beq_iff_eq, and_assoc]
    constructor
    · rintro ⟨a, b, c, d, e, f, g, h, i, j, k, l⟩; exact ⟨a, b, c, e, h, f, by omega, i, j, by omega, l⟩
    · rintro ⟨a, b, c, d, e, f, g, h, i, j, k⟩; exact ⟨a, b, c, h1, d, f, by omega, e, h, i, by omega, k⟩
  · rw [if_neg h1]
    have h2 : oneB ⟨fm, kd, ln, sz, ps, sg, db, rs, ov⟩ = false := by
      cases ht : oneB ⟨fm, kd, ln, sz, ps, sg, db, rs, ov⟩ with
      | false => rfl
      | true => have := (oneB_iff.1 ht).1; exact absurd this h1
    rw [h2, Bool.false_or]
    simp only [headB, twoB, hdB, q2B, Bool.and_eq_true, Bool.or_eq_true, decide_eq_true_eq, beq_iff_eq, and_assoc]
    constructor
    · rintro ⟨a, b, c, d, e, f, g, h, i, j, k, l, m⟩; exact ⟨a, b, c, e, d, f, by omega, l, m, by omega, j, i, by omega⟩
    · rintro ⟨a, b, c, d, e, f, g, h, i, j, k, l, m⟩; exact ⟨a, b, c, e, d, f, by omega, by omega, l, k, by omega, h, i⟩

set_option maxRecDepth 100000 in
theorem small_is (z : Int) (w : World) : Calls Tryz.prog 49 #[.int .i64 z] w fun e w' => e = .returned (.bool (blkB z)) ∧ w = w' := small_any z _ w rfl

set_option maxRecDepth 100000 in
set_option maxHeartbeats 4000000 in
theorem rright9_any (v : Value) (c : Cd) (B : Nat) (R : Bool) (w : World) (hR : rightC c = R) (hc : CdAt w B v c) (hB : B ≤ w.heap.size) :
    Calls Tryz.prog 20 #[v] w fun e w' => e = .returned (.bool R) ∧ Below w.heap.size w w' := by
  have HCD : Hid (∀ v', Below w.heap.size w v' → CdAt v' B v c) := fun v' hv => hc.below hv hB
  obtain ⟨A, n, k, A', n', k', rfl, i1, s1, bn, bn', f1⟩ := hc
  have HO : Hid (∀ o : Obj, Below w.heap.size w (w.alloc o)) := fun o => (Below.refl _ _).alloc (Nat.le_refl _) _
  have HO' : Hid (∀ (o : Obj) (v : World), Below (w.alloc o).heap.size (w.alloc o) v → Below w.heap.size w v) := fun o v hv => (HO.out o).trans (hv.mono (by simp))
  have HS : Hid (∀ v', Below w.heap.size w v' → Calls Tryz.prog 48 #[cdv c A n k A' n' k', cdv zeroC none 0 0 none 0 0] v' fun e w' => e = .returned (.bool (isZ c)) ∧ Below v'.heap.size v' w') :=
    fun v' hv => rsame_any _ _ c zeroC B (isZ c) v' isZ_iff (HCD.out v' hv) (cdv_zero _ _) (Nat.le_trans hB hv.size)
  have HROW : Hid (∀ v', Below (w.alloc (.cells (cells9 c A n k A' n' k') 30)).heap.size (w.alloc (.cells (cells9 c A n k A' n' k') 30)) v' → CdRow v' w.heap.size c A n k A' n' k') := fun v' hv => (CdRow.new w c A n k A' n' k').below hv (by simp)
  have HI1 : Hid (∀ v', Below w.heap.size w v' → IntsAt v' B A n c.ps) := fun v' hv => i1.below hv hB
  have HS1 : Hid (∀ v', Below w.heap.size w v' → SpsAt v' B A' n' c.rs) := fun v' hv => s1.below hv hB
  have HL := Lib.hid i1.len
  have HL' := Lib.hid s1.len
  have HSM := Lib.hid small_is
  cases hz : isZ c with
  | true =>
    have HF : Hid (R = true) := by show _ = _; rw [← hR]; simp [rightC, hz]
    rw [hz] at HS
    clear hR i1 s1 f1 HCD
    go_enter Tryz.func20, Tryz.ntmps20
    go_wp2_with fail
    refine (HS.out _ (HO.out _)).mono ?_
    rintro e w2 ⟨rfl, b2⟩
    have HB2 := Lib.hid (HO'.out _ _ b2)
    clear b2
    go_wp2
    go_ret
    exact ⟨ret_bool HF.out.symm, HB2.out⟩
  | false =>
    rw [hz] at HS
    obtain ⟨fm, kd, ln, sz, ps, sg, db, rs, ov⟩ := c
    simp only at *
    have HR := Lib.hid (hR.symm.trans (ref_form HL.out HL'.out hz))
    have hws : w.heap.size ≤ w.heap.size := Nat.le_refl _
    clear hR i1 s1 f1 HCD hz
    go_enter Tryz.func20, Tryz.ntmps20
    go_wp2_with fail
    refine (HS.out _ (HO.out _)).mono ?_
    rintro e w2 ⟨rfl, b2⟩
    have HB2 := Lib.hid (HO'.out _ _ b2)
    have HR2 := Lib.hid (HROW.out _ b2)
    have HI2 := Lib.hid (HI1.out _ HB2.out)
    have HS2 := Lib.hid (HS1.out _ HB2.out)
    obtain ⟨c0, c1, c2, c3, c4, c5, c6, c7, c8⟩ := HR2.out.cells
    simp only at c0 c1 c2 c3 c4 c5 c6 c7 c8
    have hg2 := HR2.out.lt
    have hbs := HB2.out.size
    clear b2 HS HROW HO HO' HI1 HS1
    by_cases hk : kd = 1 ∨ kd = 2
    · have HKD : Hid ((decide (kd = 1) || decide (kd = 2)) = true) := by show _ = _; simpa using hk
      rcases hk with rfl | rfl
      all_goals
        cases h1 : decide (1 ≤ ln) with
        | false =>
          have x1 : decide (ln < 1) = true := by have := of_decide_eq_false h1; exact decide_eq_true (by omega)
          have HF : Hid (R = false) := by show _ = _; rw [HR.out]; simp [hdB, h1]
          go_wp2_with (first | (go_at_call 49; refine (HSM.out _ _).mono ?_; rintro e w1 ⟨rfl, rfl⟩) | (go_at_call 50; refine (rright4_any A' n' k' B rs w2 HS2.out (Nat.le_trans hB hbs) (by omega)).mono ?_; rintro e w3 ⟨rfl, b3⟩; obtain ⟨d0, d1, d2, d3, d4, d5, d6, d7, d8⟩ := (HR2.out.below b3 hg2).cells; have HB3 := Lib.hid (HB2.out.trans (b3.mono hbs)); clear b3))
          go_ret
          first | exact ⟨ret_bool HF.out.symm, HB3.out⟩ | exact ⟨ret_bool HF.out.symm, HB2.out⟩
        | true =>
          have x1 : decide (ln < 1) = false := by have := of_decide_eq_true h1; exact decide_eq_false (by omega)
          cases h2 : decide (ln ≤ 200) with
          | false =>
            have x2 : decide (200 < ln) = true := by have := of_decide_eq_false h2; exact decide_eq_true (by omega)
            have HF : Hid (R = false) := by show _ = _; rw [HR.out]; simp [hdB, h1, h2]
            go_wp2_with (first | (go_at_call 49; refine (HSM.out _ _).mono ?_; rintro e w1 ⟨rfl, rfl⟩) | (go_at_call 50; refine (rright4_any A' n' k' B rs w2 HS2.out (Nat.le_trans hB hbs) (by omega)).mono ?_; rintro e w3 ⟨rfl, b3⟩; obtain ⟨d0, d1, d2, d3, d4, d5, d6, d7, d8⟩ := (HR2.out.below b3 hg2).cells; have HB3 := Lib.hid (HB2.out.trans (b3.mono hbs)); clear b3))
            go_ret
            first | exact ⟨ret_bool HF.out.symm, HB3.out⟩ | exact ⟨ret_bool HF.out.symm, HB2.out⟩
          | true =>
            have x2 : decide (200 < ln) = false := by have := of_decide_eq_true h2; exact decide_eq_false (by omega)
            cases h3 : decide (0 ≤ sz) with
            | false =>
              have x3 : decide (sz < 0) = true := by have := of_decide_eq_false h3; exact decide_eq_true (by omega)
              have HF : Hid (R = false) := by show _ = _; rw [HR.out]; simp [hdB, h1, h2, h3]
              go_wp2_with (first | (go_at_call 49; refine (HSM.out _ _).mono ?_; rintro e w1 ⟨rfl, rfl⟩) | (go_at_call 50; refine (rright4_any A' n' k' B rs w2 HS2.out (Nat.le_trans hB hbs) (by omega)).mono ?_; rintro e w3 ⟨rfl, b3⟩; obtain ⟨d0, d1, d2, d3, d4, d5, d6, d7, d8⟩ := (HR2.out.below b3 hg2).cells; have HB3 := Lib.hid (HB2.out.trans (b3.mono hbs)); clear b3))
              go_ret
              first | exact ⟨ret_bool HF.out.symm, HB3.out⟩ | exact ⟨ret_bool HF.out.symm, HB2.out⟩
            | true =>
              have x3 : decide (sz < 0) = false := by have := of_decide_eq_true h3; exact decide_eq_false (by omega)
              have HRH : Hid (R = (if fm = 1 then q1B sz n ps sg db n' ov else q2B fm sz n sg db n' rs ov)) := by show _ = _; rw [HR.out]; simp [hdB, h1, h2, h3]
              clear HR h1 h2 h3
              by_cases h4 : fm = 1
              · have HR := Lib.hid (HRH.out.trans (if_pos h4))
                subst h4
                clear HRH
                go_wp2
                go_loop [3] (fun i => ∃ j : Nat, j ≤ n ∧ i = .int .i64 (j : Int) ∧ Hid ((ps.take j).all blkB = true)) (fun i => n - (intOf i).toNat)
                case atStart => exact ⟨0, by omega, rfl, (by show _ = _; rfl)⟩
                case round =>
                  obtain ⟨j, hj, rfl, HALL⟩ := hrel
                  by_cases hlt : j < n
                  · obtain ⟨b, o, rfl, hbB, hcl⟩ := HI2.out.at_ hlt
                    have hjl : j < ps.length := by rw [HL.out]; exact hlt
                    have y0 : (0 : Int) ≤ (j : Int) := by omega
                    have y1 : (j : Int) < (n : Int) := by omega
                    cases hb : blkB (ps.getD j 0) with
                    | false =>
                      have HF : Hid (R = false) := by show _ = _; rw [HR.out]; simp [q1B, all_no hjl hb]
                      clear hjl
                      generalize ps.getD j 0 = z at *
                      go_wp2_with (go_at_call 49; refine (HSM.out _ _).mono ?_; rintro e w1 ⟨rfl, rfl⟩)
                      go_ret
                      exact ⟨ret_bool HF.out.symm, HB2.out⟩
                    | true =>
                      have HN : Hid ((ps.take (j + 1)).all blkB = true) := by show _ = _; rw [all_take_succ hjl, HALL.out, hb]; rfl
                      clear hjl
                      generalize ps.getD j 0 = z at *
                      go_wp2_with (go_at_call 49; refine (HSM.out _ _).mono ?_; rintro e w1 ⟨rfl, rfl⟩)
                      go_round
                      case rel => exact ⟨j + 1, by omega, by go_num, HN⟩
                      case measure => simp [intOf]; omega
                  · have HA : Hid (ps.all blkB = true) := by
                      show _ = _
                      have h := HALL.out
                      rwa [List.take_of_length_le (by rw [HL.out]; omega)] at h
                    cases g1 : decide (sz ≤ 9728) with
                    | false =>
                      have HF : Hid (R = false) := by show _ = _; rw [HR.out]; simp [q1B, HA.out, g1]
                      go_wp2_with (first | (go_at_call 49; refine (HSM.out _ _).mono ?_; rintro e w1 ⟨rfl, rfl⟩) | (go_at_call 50; refine (rright4_any A' n' k' B rs w2 HS2.out (Nat.le_trans hB hbs) (by omega)).mono ?_; rintro e w3 ⟨rfl, b3⟩; obtain ⟨d0, d1, d2, d3, d4, d5, d6, d7, d8⟩ := (HR2.out.below b3 hg2).cells; have HB3 := Lib.hid (HB2.out.trans (b3.mono hbs)); clear b3))
                      go_ret
                      first | exact ⟨ret_bool HF.out.symm, HB3.out⟩ | exact ⟨ret_bool HF.out.symm, HB2.out⟩
                    | true =>
                      cases g2 : ((n : Int) == 4) with
                      | false =>
                        have HF : Hid (R = false) := by show _ = _; rw [HR.out]; simp [q1B, HA.out, g1, g2]
                        go_wp2_with (first | (go_at_call 49; refine (HSM.out _ _).mono ?_; rintro e w1 ⟨rfl, rfl⟩) | (go_at_call 50; refine (rright4_any A' n' k' B rs w2 HS2.out (Nat.le_trans hB hbs) (by omega)).mono ?_; rintro e w3 ⟨rfl, b3⟩; obtain ⟨d0, d1, d2, d3, d4, d5, d6, d7, d8⟩ := (HR2.out.below b3 hg2).cells; have HB3 := Lib.hid (HB2.out.trans (b3.mono hbs)); clear b3))
                        go_ret
                        first | exact ⟨ret_bool HF.out.symm, HB3.out⟩ | exact ⟨ret_bool HF.out.symm, HB2.out⟩
                      | true =>
                        cases g3 : blkB sg with
                        | false =>
                          have HF : Hid (R = false) := by show _ = _; rw [HR.out]; simp [q1B, HA.out, g1, g2, g3]
                          go_wp2_with (first | (go_at_call 49; refine (HSM.out _ _).mono ?_; rintro e w1 ⟨rfl, rfl⟩) | (go_at_call 50; refine (rright4_any A' n' k' B rs w2 HS2.out (Nat.le_trans hB hbs) (by omega)).mono ?_; rintro e w3 ⟨rfl, b3⟩; obtain ⟨d0, d1, d2, d3, d4, d5, d6, d7, d8⟩ := (HR2.out.below b3 hg2).cells; have HB3 := Lib.hid (HB2.out.trans (b3.mono hbs)); clear b3))
                          go_ret
                          first | exact ⟨ret_bool HF.out.symm, HB3.out⟩ | exact ⟨ret_bool HF.out.symm, HB2.out⟩
                        | true =>
                          cases g4 : blkB db with
                          | false =>
                            have HF : Hid (R = false) := by show _ = _; rw [HR.out]; simp [q1B, HA.out, g1, g2, g3, g4]
                            go_wp2_with (first | (go_at_call 49; refine (HSM.out _ _).mono ?_; rintro e w1 ⟨rfl, rfl⟩) | (go_at_call 50; refine (rright4_any A' n' k' B rs w2 HS2.out (Nat.le_trans hB hbs) (by omega)).mono ?_; rintro e w3 ⟨rfl, b3⟩; obtain ⟨d0, d1, d2, d3, d4, d5, d6, d7, d8⟩ := (HR2.out.below b3 hg2).cells; have HB3 := Lib.hid (HB2.out.trans (b3.mono hbs)); clear b3))
                            go_ret
                            first | exact ⟨ret_bool HF.out.symm, HB3.out⟩ | exact ⟨ret_bool HF.out.symm, HB2.out⟩
                          | true =>
                            cases g5 : ((n' : Int) == 0) with
                            | false =>
                              have HF : Hid (R = false) := by show _ = _; rw [HR.out]; simp [q1B, HA.out, g1, g2, g3, g4, g5]
                              go_wp2_with (first | (go_at_call 49; refine (HSM.out _ _).mono ?_; rintro e w1 ⟨rfl, rfl⟩) | (go_at_call 50; refine (rright4_any A' n' k' B rs w2 HS2.out (Nat.le_trans hB hbs) (by omega)).mono ?_; rintro e w3 ⟨rfl, b3⟩; obtain ⟨d0, d1, d2, d3, d4, d5, d6, d7, d8⟩ := (HR2.out.below b3 hg2).cells; have HB3 := Lib.hid (HB2.out.trans (b3.mono hbs)); clear b3))
                              go_ret
                              first | exact ⟨ret_bool HF.out.symm, HB3.out⟩ | exact ⟨ret_bool HF.out.symm, HB2.out⟩
                            | true =>
                              cases g6 : (ov == 0) with
                              | false =>
                                have HF : Hid (R = false) := by show _ = _; rw [HR.out]; simp [q1B, HA.out, g1, g2, g3, g4, g5, g6]
                                go_wp2_with (first | (go_at_call 49; refine (HSM.out _ _).mono ?_; rintro e w1 ⟨rfl, rfl⟩) | (go_at_call 50; refine (rright4_any A' n' k' B rs w2 HS2.out (Nat.le_trans hB hbs) (by omega)).mono ?_; rintro e w3 ⟨rfl, b3⟩; obtain ⟨d0, d1, d2, d3, d4, d5, d6, d7, d8⟩ := (HR2.out.below b3 hg2).cells; have HB3 := Lib.hid (HB2.out.trans (b3.mono hbs)); clear b3))
                                go_ret
                                first | exact ⟨ret_bool HF.out.symm, HB3.out⟩ | exact ⟨ret_bool HF.out.symm, HB2.out⟩
                              | true =>
                                have HF : Hid (R = true) := by show _ = _; rw [HR.out]; simp [q1B, HA.out, g1, g2, g3, g4, g5, g6]
                                go_wp2_with (first | (go_at_call 49; refine (HSM.out _ _).mono ?_; rintro e w1 ⟨rfl, rfl⟩) | (go_at_call 50; refine (rright4_any A' n' k' B rs w2 HS2.out (Nat.le_trans hB hbs) (by omega)).mono ?_; rintro e w3 ⟨rfl, b3⟩; obtain ⟨d0, d1, d2, d3, d4, d5, d6, d7, d8⟩ := (HR2.out.below b3 hg2).cells; have HB3 := Lib.hid (HB2.out.trans (b3.mono hbs)); clear b3))
                                go_ret
                                exact ⟨ret_bool HF.out.symm, HB2.out⟩
              · have HR := Lib.hid (HRH.out.trans (if_neg h4))
                have h5 : (fm == 1) = false := by simpa using h4
                clear HRH h4
                cases g1 : (fm == 2) with
                | false =>
                  have HF : Hid (R = false) := by show _ = _; rw [HR.out]; simp [q2B, g1]
                  go_wp2_with (first | (go_at_call 49; refine (HSM.out _ _).mono ?_; rintro e w1 ⟨rfl, rfl⟩) | (go_at_call 50; refine (rright4_any A' n' k' B rs w2 HS2.out (Nat.le_trans hB hbs) (by omega)).mono ?_; rintro e w3 ⟨rfl, b3⟩; obtain ⟨d0, d1, d2, d3, d4, d5, d6, d7, d8⟩ := (HR2.out.below b3 hg2).cells; have HB3 := Lib.hid (HB2.out.trans (b3.mono hbs)); clear b3))
                  go_ret
                  first | exact ⟨ret_bool HF.out.symm, HB3.out⟩ | exact ⟨ret_bool HF.out.symm, HB2.out⟩
                | true =>
                  cases g2 : decide (sz ≤ 15360) with
                  | false =>
                    have HF : Hid (R = false) := by show _ = _; rw [HR.out]; simp [q2B, g1, g2]
                    go_wp2_with (first | (go_at_call 49; refine (HSM.out _ _).mono ?_; rintro e w1 ⟨rfl, rfl⟩) | (go_at_call 50; refine (rright4_any A' n' k' B rs w2 HS2.out (Nat.le_trans hB hbs) (by omega)).mono ?_; rintro e w3 ⟨rfl, b3⟩; obtain ⟨d0, d1, d2, d3, d4, d5, d6, d7, d8⟩ := (HR2.out.below b3 hg2).cells; have HB3 := Lib.hid (HB2.out.trans (b3.mono hbs)); clear b3))
                    go_ret
                    first | exact ⟨ret_bool HF.out.symm, HB3.out⟩ | exact ⟨ret_bool HF.out.symm, HB2.out⟩
                  | true =>
                    cases g3 : ((n : Int) == 0) with
                    | false =>
                      have HF : Hid (R = false) := by show _ = _; rw [HR.out]; simp [q2B, g1, g2, g3]
                      go_wp2_with (first | (go_at_call 49; refine (HSM.out _ _).mono ?_; rintro e w1 ⟨rfl, rfl⟩) | (go_at_call 50; refine (rright4_any A' n' k' B rs w2 HS2.out (Nat.le_trans hB hbs) (by omega)).mono ?_; rintro e w3 ⟨rfl, b3⟩; obtain ⟨d0, d1, d2, d3, d4, d5, d6, d7, d8⟩ := (HR2.out.below b3 hg2).cells; have HB3 := Lib.hid (HB2.out.trans (b3.mono hbs)); clear b3))
                      go_ret
                      first | exact ⟨ret_bool HF.out.symm, HB3.out⟩ | exact ⟨ret_bool HF.out.symm, HB2.out⟩
                    | true =>
                      cases g4 : (sg == 0) with
                      | false =>
                        have HF : Hid (R = false) := by show _ = _; rw [HR.out]; simp [q2B, g1, g2, g3, g4]
                        go_wp2_with (first | (go_at_call 49; refine (HSM.out _ _).mono ?_; rintro e w1 ⟨rfl, rfl⟩) | (go_at_call 50; refine (rright4_any A' n' k' B rs w2 HS2.out (Nat.le_trans hB hbs) (by omega)).mono ?_; rintro e w3 ⟨rfl, b3⟩; obtain ⟨d0, d1, d2, d3, d4, d5, d6, d7, d8⟩ := (HR2.out.below b3 hg2).cells; have HB3 := Lib.hid (HB2.out.trans (b3.mono hbs)); clear b3))
                        go_ret
                        first | exact ⟨ret_bool HF.out.symm, HB3.out⟩ | exact ⟨ret_bool HF.out.symm, HB2.out⟩
                      | true =>
                        cases g5 : (db == 0) with
                        | false =>
                          have HF : Hid (R = false) := by show _ = _; rw [HR.out]; simp [q2B, g1, g2, g3, g4, g5]
                          go_wp2_with (first | (go_at_call 49; refine (HSM.out _ _).mono ?_; rintro e w1 ⟨rfl, rfl⟩) | (go_at_call 50; refine (rright4_any A' n' k' B rs w2 HS2.out (Nat.le_trans hB hbs) (by omega)).mono ?_; rintro e w3 ⟨rfl, b3⟩; obtain ⟨d0, d1, d2, d3, d4, d5, d6, d7, d8⟩ := (HR2.out.below b3 hg2).cells; have HB3 := Lib.hid (HB2.out.trans (b3.mono hbs)); clear b3))
                          go_ret
                          first | exact ⟨ret_bool HF.out.symm, HB3.out⟩ | exact ⟨ret_bool HF.out.symm, HB2.out⟩
                        | true =>
                          cases g6 : decide ((n' : Int) ≤ 3) with
                          | false =>
                            have HF : Hid (R = false) := by show _ = _; rw [HR.out]; simp [q2B, g1, g2, g3, g4, g5, g6]
                            go_wp2_with (first | (go_at_call 49; refine (HSM.out _ _).mono ?_; rintro e w1 ⟨rfl, rfl⟩) | (go_at_call 50; refine (rright4_any A' n' k' B rs w2 HS2.out (Nat.le_trans hB hbs) (by omega)).mono ?_; rintro e w3 ⟨rfl, b3⟩; obtain ⟨d0, d1, d2, d3, d4, d5, d6, d7, d8⟩ := (HR2.out.below b3 hg2).cells; have HB3 := Lib.hid (HB2.out.trans (b3.mono hbs)); clear b3))
                            go_ret
                            first | exact ⟨ret_bool HF.out.symm, HB3.out⟩ | exact ⟨ret_bool HF.out.symm, HB2.out⟩
                          | true =>
                            have hn3 : n' ≤ 3 := by have := of_decide_eq_true g6; omega
                            cases g7 : rightL none rs with
                            | false =>
                              have HF : Hid (R = false) := by show _ = _; rw [HR.out]; simp [q2B, g1, g2, g3, g4, g5, g6, g7]
                              go_wp2_with (first | (go_at_call 49; refine (HSM.out _ _).mono ?_; rintro e w1 ⟨rfl, rfl⟩) | (go_at_call 50; refine (rright4_any A' n' k' B rs w2 HS2.out (Nat.le_trans hB hbs) (by omega)).mono ?_; rintro e w3 ⟨rfl, b3⟩; obtain ⟨d0, d1, d2, d3, d4, d5, d6, d7, d8⟩ := (HR2.out.below b3 hg2).cells; have HB3 := Lib.hid (HB2.out.trans (b3.mono hbs)); clear b3))
                              go_ret
                              first | exact ⟨ret_bool HF.out.symm, HB3.out⟩ | exact ⟨ret_bool HF.out.symm, HB2.out⟩
                            | true =>
                              cases g8 : blkB ov with
                              | false =>
                                have HF : Hid (R = false) := by show _ = _; rw [HR.out]; simp [q2B, g1, g2, g3, g4, g5, g6, g7, g8]
                                go_wp2_with (first | (go_at_call 49; refine (HSM.out _ _).mono ?_; rintro e w1 ⟨rfl, rfl⟩) | (go_at_call 50; refine (rright4_any A' n' k' B rs w2 HS2.out (Nat.le_trans hB hbs) (by omega)).mono ?_; rintro e w3 ⟨rfl, b3⟩; obtain ⟨d0, d1, d2, d3, d4, d5, d6, d7, d8⟩ := (HR2.out.below b3 hg2).cells; have HB3 := Lib.hid (HB2.out.trans (b3.mono hbs)); clear b3))
                                go_ret
                                first | exact ⟨ret_bool HF.out.symm, HB3.out⟩ | exact ⟨ret_bool HF.out.symm, HB2.out⟩
                              | true =>
                                cases g9 : (ov == 0) with
                                | true =>
                                  have HF : Hid (R = true) := by show _ = _; rw [HR.out]; simp [q2B, g1, g2, g3, g4, g5, g6, g7, g8, g9]
                                  go_wp2_with (first | (go_at_call 49; refine (HSM.out _ _).mono ?_; rintro e w1 ⟨rfl, rfl⟩) | (go_at_call 50; refine (rright4_any A' n' k' B rs w2 HS2.out (Nat.le_trans hB hbs) (by omega)).mono ?_; rintro e w3 ⟨rfl, b3⟩; obtain ⟨d0, d1, d2, d3, d4, d5, d6, d7, d8⟩ := (HR2.out.below b3 hg2).cells; have HB3 := Lib.hid (HB2.out.trans (b3.mono hbs)); clear b3))
                                  go_ret
                                  exact ⟨ret_bool HF.out.symm, HB3.out⟩
                                | false =>
                                  cases g10 : ((n' : Int) == 3) with
                                  | true =>
                                    have HF : Hid (R = true) := by show _ = _; rw [HR.out]; simp [q2B, g1, g2, g3, g4, g5, g6, g7, g8, g9, g10]
                                    go_wp2_with (first | (go_at_call 49; refine (HSM.out _ _).mono ?_; rintro e w1 ⟨rfl, rfl⟩) | (go_at_call 50; refine (rright4_any A' n' k' B rs w2 HS2.out (Nat.le_trans hB hbs) (by omega)).mono ?_; rintro e w3 ⟨rfl, b3⟩; obtain ⟨d0, d1, d2, d3, d4, d5, d6, d7, d8⟩ := (HR2.out.below b3 hg2).cells; have HB3 := Lib.hid (HB2.out.trans (b3.mono hbs)); clear b3))
                                    go_ret
                                    exact ⟨ret_bool HF.out.symm, HB3.out⟩
                                  | false =>
                                    have HF : Hid (R = false) := by show _ = _; rw [HR.out]; simp [q2B, g1, g2, g3, g4, g5, g6, g7, g8, g9, g10]
                                    go_wp2_with (first | (go_at_call 49; refine (HSM.out _ _).mono ?_; rintro e w1 ⟨rfl, rfl⟩) | (go_at_call 50; refine (rright4_any A' n' k' B rs w2 HS2.out (Nat.le_trans hB hbs) (by omega)).mono ?_; rintro e w3 ⟨rfl, b3⟩; obtain ⟨d0, d1, d2, d3, d4, d5, d6, d7, d8⟩ := (HR2.out.below b3 hg2).cells; have HB3 := Lib.hid (HB2.out.trans (b3.mono hbs)); clear b3))
                                    go_ret
                                    exact ⟨ret_bool HF.out.symm, HB3.out⟩
    · have HKD : Hid ((decide (kd = 1) || decide (kd = 2)) = false) := by show _ = _; simpa using hk
      have x1 : (kd != 1) = true := bne_iff_ne.2 (by omega)
      have x2 : (kd != 2) = true := bne_iff_ne.2 (by omega)
      clear hk
      have HF : Hid (R = false) := by show _ = _; rw [HR.out]; simp [hdB, HKD.out]
      go_wp2_with (first | (go_at_call 49; refine (HSM.out _ _).mono ?_; rintro e w1 ⟨rfl, rfl⟩) | (go_at_call 50; refine (rright4_any A' n' k' B rs w2 HS2.out (Nat.le_trans hB hbs) (by omega)).mono ?_; rintro e w3 ⟨rfl, b3⟩; obtain ⟨d0, d1, d2, d3, d4, d5, d6, d7, d8⟩ := (HR2.out.below b3 hg2).cells; have HB3 := Lib.hid (HB2.out.trans (b3.mono hbs)); clear b3))
      go_ret
      first | exact ⟨ret_bool HF.out.symm, HB3.out⟩ | exact ⟨ret_bool HF.out.symm, HB2.out⟩
end Go.Proofs.YtgdlfiejjnjcpaaGreat
