/-
  WALKS: isOne and isTwo tell whether a card is valid in its format, but for its kind and links. Conditions: the lists have as many elements as an int64 counts.
  WALK: Right tells whether a card is valid. Conditions: the lists have as many elements as an int64 counts.
-/
import Derived.Test.YtgdlfiejjnjcpaaGreatBC
import Derived.Test.YtgdlfiejjnjcpaaGreatBD
namespace Go.Proofs.YtgdlfiejjnjcpaaGreat
open Go.RowKit

set_option maxRecDepth 100000 in
theorem one_form {fm kd ln sz sg db ov : Int} {ps : List Int} {rs : List Sp} {n n' : Nat} (hl : ps.length = n) (hl' : rs.length = n') :
    oneB ⟨fm, kd, ln, sz, ps, sg, db, rs, ov⟩ = ((fm == 1) && ((decide (0 ≤ sz) && decide (sz ≤ 9728)) && (((n : Int) == 4) && (ps.all blkB && (blkB sg && (blkB db && (((n' : Int) == 0) && (ov == 0)))))))) := by
  subst hl hl'
  rw [Bool.eq_iff_iff]
  simp only [oneB, Bool.and_eq_true, decide_eq_true_eq, beq_iff_eq, and_assoc]
  constructor
  · rintro ⟨h1, h2, h3, h4, h5, h6, h7, h8, h9⟩; exact ⟨h1, h2, h3, by omega, h5, h6, h7, by omega, h9⟩
  · rintro ⟨h1, h2, h3, h4, h5, h6, h7, h8, h9⟩; exact ⟨h1, h2, h3, by omega, h5, h6, h7, by omega, h9⟩
set_option maxRecDepth 100000 in
theorem two_form {fm kd ln sz sg db ov : Int} {ps : List Int} {rs : List Sp} {n n' : Nat} (hl : ps.length = n) (hl' : rs.length = n') :
    twoB ⟨fm, kd, ln, sz, ps, sg, db, rs, ov⟩ = ((fm == 2) && ((decide (0 ≤ sz) && decide (sz ≤ 15360)) && (decide ((n' : Int) ≤ 3) && ((!((ov != 0) && decide ((n' : Int) < 3))) && (blkB ov && (rightL none rs && (((n : Int) == 0) && ((sg == 0) && (db == 0)))))))) ) := by
  subst hl hl'
  rw [Bool.eq_iff_iff]
  simp only [twoB, Bool.and_eq_true, Bool.or_eq_true, decide_eq_true_eq, beq_iff_eq, and_assoc, Bool.not_eq_true', Bool.and_eq_false_iff, bne_eq_false_iff_eq, decide_eq_false_iff_not]
  constructor
  · rintro ⟨h1, h2, h3, h4, h5, h6, h7, h8, h9, h10⟩; exact ⟨h1, h2, h3, by omega, by omega, h6, h7, by omega, h9, h10⟩
  · rintro ⟨h1, h2, h3, h4, h5, h6, h7, h8, h9, h10⟩; exact ⟨h1, h2, h3, by omega, by omega, h6, h7, by omega, h9, h10⟩

set_option maxRecDepth 100000 in
theorem all_take_succ {l : List Int} {k : Nat} (h : k < l.length) : (l.take (k + 1)).all blkB = ((l.take k).all blkB && blkB (l.getD k 0)) := by
  rw [List.take_add_one, List.getElem?_eq_getElem h, List.all_append]
  simp [List.getD, List.getElem?_eq_getElem h]
set_option maxRecDepth 100000 in
theorem all_no {l : List Int} {k : Nat} (h : k < l.length) (hb : blkB (l.getD k 0) = false) : l.all blkB = false := by
  cases ha : l.all blkB with
  | false => rfl
  | true =>
    have := List.all_eq_true.1 ha (l.getD k 0) (by simp [List.getD, List.getElem?_eq_getElem h])
    rw [hb] at this; cases this

set_option maxRecDepth 100000 in
set_option maxHeartbeats 2000000 in
theorem isOne_any (v : Value) (c : Cd) (B : Nat) (R : Bool) (w : World) (hR : oneB c = R) (hc : CdAt w B v c) (hB : B ≤ w.heap.size) :
    Calls Tryz.prog 104 #[v] w fun e w' => e = .returned (.bool R) ∧ Below w.heap.size w w' := by
  obtain ⟨A, n, k, A', n', k', rfl, i1, s1, bn, bn', f1⟩ := hc
  obtain ⟨fm, kd, ln, sz, ps, sg, db, rs, ov⟩ := c
  have HL := Lib.hid i1.len
  have HL' := Lib.hid s1.len
  simp only at *
  have HR := Lib.hid (hR.symm.trans (one_form HL.out HL'.out))
  have HI : Hid (∀ v, Below w.heap.size w v → IntsAt v B A n ps) := fun v hv => i1.below hv hB
  have HO : Hid (∀ o : Obj, Below w.heap.size w (w.alloc o)) := fun o => (Below.refl _ _).alloc (Nat.le_refl _) _
  clear hR i1 s1 f1 bn bn'
  go_enter Tryz.func104, Tryz.ntmps104
  cases h0 : (fm == 1) with
  | false =>
    have xh0 : (fm != 1) = true := by simp only [bne, h0, Bool.not_false]
    have HF : Hid (R = false) := by show _ = _; rw [HR.out]; simp [h0]
    go_wp2
    go_ret
    exact ⟨ret_bool HF.out.symm, HO.out _⟩
  | true =>
    have xh0 : (fm != 1) = false := by simp only [bne, h0, Bool.not_true]
    cases h1 : (decide (0 ≤ sz) && decide (sz ≤ 9728)) with
    | false =>
      have HF : Hid (R = false) := by show _ = _; rw [HR.out]; simp [h0, h1]
      have h1' := Lib.hid h1
      have HW := Lib.hid (fun w => within_any sz 0 9728 _ w h1)
      clear h1
      go_wp2_with fail
      refine (HW.out _).mono ?_
      rintro e w1 ⟨rfl, rfl⟩
      go_wp2
      go_ret
      exact ⟨ret_bool HF.out.symm, HO.out _⟩
    | true =>
      have h1' := Lib.hid h1
      have HW := Lib.hid (fun w => within_any sz 0 9728 _ w h1)
      clear h1
      cases h2 : ((n : Int) == 4) with
      | false =>
        have xh2 : ((n : Int) != 4) = true := by simp only [bne, h2, Bool.not_false]
        have HF : Hid (R = false) := by show _ = _; rw [HR.out]; simp [h0, h1'.out, h2]
        go_wp2_with fail
        refine (HW.out _).mono ?_
        rintro e w1 ⟨rfl, rfl⟩
        go_wp2
        go_ret
        exact ⟨ret_bool HF.out.symm, HO.out _⟩
      | true =>
        have xh2 : ((n : Int) != 4) = false := by simp only [bne, h2, Bool.not_true]
        go_wp2_with fail
        refine (HW.out _).mono ?_
        rintro e w1 ⟨rfl, rfl⟩
        have hn4 : n = 4 := by have := eq_of_beq h2; omega
        subst hn4
        go_wp2
        go_loopw [4, 23] (fun _ j wr => ∃ i : Nat, i ≤ 4 ∧ j = .int .i64 (i : Int) ∧ Hid ((ps.take i).all blkB = true) ∧ Hid (wr = w.alloc (.cells #[.int .i64 fm, .int .i64 kd, .int .i64 ln, .int .i64 sz, .slice A 4 k, .int .i64 sg, .int .i64 db, .slice A' n' k', .int .i64 ov] 30))) (fun _ j _ => 4 - (intOf j).toNat)
        case atStart => exact ⟨0, by omega, rfl, (by show _ = _; rfl), (by show _ = _; rfl)⟩
        case round =>
          obtain ⟨i, hi, rfl, HT, HWR⟩ := hrel
          obtain rfl := HWR.out
          by_cases hlt : i < 4
          · obtain ⟨b, o, rfl, hb, hcl⟩ := (HI.out _ (HO.out (.cells #[.int .i64 fm, .int .i64 kd, .int .i64 ln, .int .i64 sz, .slice A 4 k, .int .i64 sg, .int .i64 db, .slice A' n' k', .int .i64 ov] 30))).at_ hlt
            cases hbl : blkB (ps.getD i 0) with
            | false =>
              have HF : Hid (R = false) := by show _ = _; rw [HR.out, all_no (by rw [HL.out]; exact hlt) hbl]; simp
              have HW3 := Lib.hid (fun w => isBlock_any (ps.getD i 0) _ w hbl)
              clear hbl
              generalize ps.getD i 0 = z at *
              go_wp2_with fail
              refine (HW3.out _).mono ?_
              rintro e w1 ⟨rfl, rfl⟩
              go_wp2
              go_ret
              exact ⟨ret_bool HF.out.symm, HO.out _⟩
            | true =>
              have HT2 : Hid ((ps.take (i + 1)).all blkB = true) := by show _ = _; rw [all_take_succ (by rw [HL.out]; exact hlt), HT.out, hbl]; rfl
              have HW3 := Lib.hid (fun w => isBlock_any (ps.getD i 0) _ w hbl)
              clear hbl
              generalize ps.getD i 0 = z at *
              go_wp2_with fail
              refine (HW3.out _).mono ?_
              rintro e w1 ⟨rfl, rfl⟩
              go_wp2
              go_roundw
              case rel => exact ⟨i + 1, by omega, by go_num, HT2, (by first | (show _ = _; rfl) | (show True; trivial))⟩
              case measure => simp [intOf]; omega
          · have HA : Hid (ps.all blkB = true) := by
              show _ = _
              have := HT.out
              rwa [List.take_of_length_le (by rw [HL.out]; omega)] at this
            have HR2 := HR
            clear HR
            have HR : Hid (R = (blkB sg && (blkB db && (((n' : Int) == 0) && (ov == 0))))) := by show _ = _; rw [HR2.out, HA.out, h1'.out]; simp [h0]
            cases g0 : blkB sg with
            | false =>
              have HF : Hid (R = false) := by show _ = _; rw [HR.out]; simp [g0]
              have HW1 := Lib.hid (fun w => isBlock_any sg _ w g0)
              go_wp2_with fail
              refine (HW1.out _).mono ?_
              rintro e w1 ⟨rfl, rfl⟩
              go_wp2
              go_ret
              exact ⟨ret_bool HF.out.symm, HO.out _⟩
            | true =>
              have HW1 := Lib.hid (fun w => isBlock_any sg _ w g0)
              cases g1 : blkB db with
              | false =>
                have HF : Hid (R = false) := by show _ = _; rw [HR.out]; simp [g0, g1]
                have HW2 := Lib.hid (fun w => isBlock_any db _ w g1)
                go_wp2_with fail
                refine (HW1.out _).mono ?_
                rintro e w1 ⟨rfl, rfl⟩
                go_wp2_with fail
                refine (HW2.out _).mono ?_
                rintro e w1 ⟨rfl, rfl⟩
                go_wp2
                go_ret
                exact ⟨ret_bool HF.out.symm, HO.out _⟩
              | true =>
                have HW2 := Lib.hid (fun w => isBlock_any db _ w g1)
                cases g2 : ((n' : Int) == 0) with
                | false =>
                  have HF : Hid (R = false) := by show _ = _; rw [HR.out]; simp [g0, g1, g2]
                  go_wp2_with fail
                  refine (HW1.out _).mono ?_
                  rintro e w1 ⟨rfl, rfl⟩
                  go_wp2_with fail
                  refine (HW2.out _).mono ?_
                  rintro e w1 ⟨rfl, rfl⟩
                  go_wp2
                  go_ret
                  exact ⟨ret_bool HF.out.symm, HO.out _⟩
                | true =>
                  cases g3 : (ov == 0) with
                  | false =>
                    have HF : Hid (R = false) := by show _ = _; rw [HR.out]; simp [g0, g1, g2, g3]
                    go_wp2_with fail
                    refine (HW1.out _).mono ?_
                    rintro e w1 ⟨rfl, rfl⟩
                    go_wp2_with fail
                    refine (HW2.out _).mono ?_
                    rintro e w1 ⟨rfl, rfl⟩
                    go_wp2
                    go_ret
                    exact ⟨ret_bool HF.out.symm, HO.out _⟩
                  | true =>
                    have HF : Hid (R = true) := by show _ = _; rw [HR.out]; simp [g0, g1, g2, g3]
                    go_wp2_with fail
                    refine (HW1.out _).mono ?_
                    rintro e w1 ⟨rfl, rfl⟩
                    go_wp2_with fail
                    refine (HW2.out _).mono ?_
                    rintro e w1 ⟨rfl, rfl⟩
                    go_wp2
                    go_ret
                    exact ⟨ret_bool HF.out.symm, HO.out _⟩


set_option maxRecDepth 100000 in
set_option maxHeartbeats 2000000 in
theorem isTwo_any (v : Value) (c : Cd) (B : Nat) (R : Bool) (w : World) (hR : twoB c = R) (hc : CdAt w B v c) (hB : B ≤ w.heap.size) :
    Calls Tryz.prog 105 #[v] w fun e w' => e = .returned (.bool R) ∧ Below w.heap.size w w' := by
  obtain ⟨A, n, k, A', n', k', rfl, i1, s1, bn, bn', f1⟩ := hc
  obtain ⟨fm, kd, ln, sz, ps, sg, db, rs, ov⟩ := c
  have HL := Lib.hid i1.len
  have HL' := Lib.hid s1.len
  simp only at *
  have HR := Lib.hid (hR.symm.trans (two_form HL.out HL'.out))
  have HSP : Hid (∀ v, Below w.heap.size w v → SpsAt v B A' n' rs) := fun v hv => s1.below hv hB
  have HO : Hid (∀ o : Obj, Below w.heap.size w (w.alloc o)) := fun o => (Below.refl _ _).alloc (Nat.le_refl _) _
  have HO' : Hid (∀ (o : Obj) (v : World), Below (w.alloc o).heap.size (w.alloc o) v → Below w.heap.size w v) := fun o v hv => (HO.out o).trans (hv.mono (by simp))
  clear hR i1 s1 f1 bn bn'
  go_enter Tryz.func105, Tryz.ntmps105
  cases h0 : (fm == 2) with
  | false =>
    have xh0 : (fm != 2) = true := by simp only [bne, h0, Bool.not_false]
    have HF : Hid (R = false) := by show _ = _; rw [HR.out]; simp [h0]
    go_wp2
    go_ret
    exact ⟨ret_bool HF.out.symm, HO.out _⟩
  | true =>
    have xh0 : (fm != 2) = false := by simp only [bne, h0, Bool.not_true]
    cases h1 : (decide (0 ≤ sz) && decide (sz ≤ 15360)) with
    | false =>
      have HF : Hid (R = false) := by show _ = _; rw [HR.out]; simp [h0, h1]
      have h1' := Lib.hid h1
      have HW := Lib.hid (fun w => within_any sz 0 15360 _ w h1)
      clear h1
      go_wp2_with fail
      refine (HW.out _).mono ?_
      rintro e w1 ⟨rfl, rfl⟩
      go_wp2
      go_ret
      exact ⟨ret_bool HF.out.symm, HO.out _⟩
    | true =>
      have h1' := Lib.hid h1
      have HW := Lib.hid (fun w => within_any sz 0 15360 _ w h1)
      clear h1
      cases h2 : decide ((n' : Int) ≤ 3) with
      | false =>
        have xh2 : decide ((3 : Int) < (n' : Int)) = true := by have := of_decide_eq_false h2; exact decide_eq_true (by omega)
        have HF : Hid (R = false) := by show _ = _; rw [HR.out]; simp [h0, h1'.out, h2]
        go_wp2_with fail
        refine (HW.out _).mono ?_
        rintro e w1 ⟨rfl, rfl⟩
        go_wp2
        go_ret
        exact ⟨ret_bool HF.out.symm, HO.out _⟩
      | true =>
        have xh2 : decide ((3 : Int) < (n' : Int)) = false := by have := of_decide_eq_true h2; exact decide_eq_false (by omega)
        go_wp2_with fail
        refine (HW.out _).mono ?_
        rintro e w1 ⟨rfl, rfl⟩
        cases hov : (ov != 0) with
        | false =>
          cases g0 : blkB ov with
          | false =>
            have HF : Hid (R = false) := by show _ = _; rw [HR.out]; simp [h0, h1'.out, h2, hov, g0]
            have HW1 := Lib.hid (fun w => isBlock_any ov _ w g0)
            go_wp2_with fail
            refine (HW1.out _).mono ?_
            rintro e w1 ⟨rfl, rfl⟩
            go_wp2
            go_ret
            first | exact ⟨ret_bool HF.out.symm, HB2.out⟩ | exact ⟨ret_bool HF.out.symm, HO.out _⟩
          | true =>
            have HW1 := Lib.hid (fun w => isBlock_any ov _ w g0)
            cases g1 : rightL none rs with
            | false =>
              have HF : Hid (R = false) := by show _ = _; rw [HR.out]; simp [h0, h1'.out, h2, hov, g0, g1]
              have HW2 : Hid (∀ v, Below w.heap.size w v → Calls Tryz.prog 108 #[.slice A' n' k'] v fun e w' => e = .returned (.bool _) ∧ Below v.heap.size v w') := fun v hv => by have := right_any A' n' k' B rs v (HSP.out v hv) (Nat.le_trans hB hv.size) (by have := of_decide_eq_true h2; omega); rw [g1] at this; exact this
              go_wp2_with fail
              refine (HW1.out _).mono ?_
              rintro e w1 ⟨rfl, rfl⟩
              go_wp2_with fail
              refine (HW2.out _ (HO.out _)).mono ?_
              rintro e w2 ⟨rfl, b2⟩
              obtain ⟨c0, c1, c2, c3, c4, c5, c6, c7, c8⟩ := ((CdRow.new w ⟨fm, kd, ln, sz, ps, sg, db, rs, ov⟩ A n k A' n' k').below b2 (by simp)).cells
              simp only at c0 c1 c2 c3 c4 c5 c6 c7 c8
              have HB2 := Lib.hid (HO'.out _ _ b2)
              clear b2
              go_wp2
              go_ret
              first | exact ⟨ret_bool HF.out.symm, HB2.out⟩ | exact ⟨ret_bool HF.out.symm, HO.out _⟩
            | true =>
              have HW2 : Hid (∀ v, Below w.heap.size w v → Calls Tryz.prog 108 #[.slice A' n' k'] v fun e w' => e = .returned (.bool _) ∧ Below v.heap.size v w') := fun v hv => by have := right_any A' n' k' B rs v (HSP.out v hv) (Nat.le_trans hB hv.size) (by have := of_decide_eq_true h2; omega); rw [g1] at this; exact this
              cases g2 : ((n : Int) == 0) with
              | false =>
                have HF : Hid (R = false) := by show _ = _; rw [HR.out]; simp [h0, h1'.out, h2, hov, g0, g1, g2]
                go_wp2_with fail
                refine (HW1.out _).mono ?_
                rintro e w1 ⟨rfl, rfl⟩
                go_wp2_with fail
                refine (HW2.out _ (HO.out _)).mono ?_
                rintro e w2 ⟨rfl, b2⟩
                obtain ⟨c0, c1, c2, c3, c4, c5, c6, c7, c8⟩ := ((CdRow.new w ⟨fm, kd, ln, sz, ps, sg, db, rs, ov⟩ A n k A' n' k').below b2 (by simp)).cells
                simp only at c0 c1 c2 c3 c4 c5 c6 c7 c8
                have HB2 := Lib.hid (HO'.out _ _ b2)
                clear b2
                go_wp2
                go_ret
                first | exact ⟨ret_bool HF.out.symm, HB2.out⟩ | exact ⟨ret_bool HF.out.symm, HO.out _⟩
              | true =>
                cases g3 : (sg == 0) with
                | false =>
                  have HF : Hid (R = false) := by show _ = _; rw [HR.out]; simp [h0, h1'.out, h2, hov, g0, g1, g2, g3]
                  go_wp2_with fail
                  refine (HW1.out _).mono ?_
                  rintro e w1 ⟨rfl, rfl⟩
                  go_wp2_with fail
                  refine (HW2.out _ (HO.out _)).mono ?_
                  rintro e w2 ⟨rfl, b2⟩
                  obtain ⟨c0, c1, c2, c3, c4, c5, c6, c7, c8⟩ := ((CdRow.new w ⟨fm, kd, ln, sz, ps, sg, db, rs, ov⟩ A n k A' n' k').below b2 (by simp)).cells
                  simp only at c0 c1 c2 c3 c4 c5 c6 c7 c8
                  have HB2 := Lib.hid (HO'.out _ _ b2)
                  clear b2
                  go_wp2
                  go_ret
                  first | exact ⟨ret_bool HF.out.symm, HB2.out⟩ | exact ⟨ret_bool HF.out.symm, HO.out _⟩
                | true =>
                  cases g4 : (db == 0) with
                  | false =>
                    have HF : Hid (R = false) := by show _ = _; rw [HR.out]; simp [h0, h1'.out, h2, hov, g0, g1, g2, g3, g4]
                    go_wp2_with fail
                    refine (HW1.out _).mono ?_
                    rintro e w1 ⟨rfl, rfl⟩
                    go_wp2_with fail
                    refine (HW2.out _ (HO.out _)).mono ?_
                    rintro e w2 ⟨rfl, b2⟩
                    obtain ⟨c0, c1, c2, c3, c4, c5, c6, c7, c8⟩ := ((CdRow.new w ⟨fm, kd, ln, sz, ps, sg, db, rs, ov⟩ A n k A' n' k').below b2 (by simp)).cells
                    simp only at c0 c1 c2 c3 c4 c5 c6 c7 c8
                    have HB2 := Lib.hid (HO'.out _ _ b2)
                    clear b2
                    go_wp2
                    go_ret
                    first | exact ⟨ret_bool HF.out.symm, HB2.out⟩ | exact ⟨ret_bool HF.out.symm, HO.out _⟩
                  | true =>
                    have HF : Hid (R = true) := by show _ = _; rw [HR.out]; simp [h0, h1'.out, h2, hov, g0, g1, g2, g3, g4]
                    go_wp2_with fail
                    refine (HW1.out _).mono ?_
                    rintro e w1 ⟨rfl, rfl⟩
                    go_wp2_with fail
                    refine (HW2.out _ (HO.out _)).mono ?_
                    rintro e w2 ⟨rfl, b2⟩
                    obtain ⟨c0, c1, c2, c3, c4, c5, c6, c7, c8⟩ := ((CdRow.new w ⟨fm, kd, ln, sz, ps, sg, db, rs, ov⟩ A n k A' n' k').below b2 (by simp)).cells
                    simp only at c0 c1 c2 c3 c4 c5 c6 c7 c8
                    have HB2 := Lib.hid (HO'.out _ _ b2)
                    clear b2
                    go_wp2
                    go_ret
                    first | exact ⟨ret_bool HF.out.symm, HB2.out⟩ | exact ⟨ret_bool HF.out.symm, HO.out _⟩
        | true =>
          cases hlt : decide ((n' : Int) < 3) with
          | true =>
            have HF : Hid (R = false) := by show _ = _; rw [HR.out]; simp [hov, hlt]
            go_wp2
            go_ret
            exact ⟨ret_bool HF.out.symm, HO.out _⟩
          | false =>
            cases g0 : blkB ov with
            | false =>
              have HF : Hid (R = false) := by show _ = _; rw [HR.out]; simp [h0, h1'.out, h2, hov, hlt, g0]
              have HW1 := Lib.hid (fun w => isBlock_any ov _ w g0)
              go_wp2_with fail
              refine (HW1.out _).mono ?_
              rintro e w1 ⟨rfl, rfl⟩
              go_wp2
              go_ret
              first | exact ⟨ret_bool HF.out.symm, HB2.out⟩ | exact ⟨ret_bool HF.out.symm, HO.out _⟩
            | true =>
              have HW1 := Lib.hid (fun w => isBlock_any ov _ w g0)
              cases g1 : rightL none rs with
              | false =>
                have HF : Hid (R = false) := by show _ = _; rw [HR.out]; simp [h0, h1'.out, h2, hov, hlt, g0, g1]
                have HW2 : Hid (∀ v, Below w.heap.size w v → Calls Tryz.prog 108 #[.slice A' n' k'] v fun e w' => e = .returned (.bool _) ∧ Below v.heap.size v w') := fun v hv => by have := right_any A' n' k' B rs v (HSP.out v hv) (Nat.le_trans hB hv.size) (by have := of_decide_eq_true h2; omega); rw [g1] at this; exact this
                go_wp2_with fail
                refine (HW1.out _).mono ?_
                rintro e w1 ⟨rfl, rfl⟩
                go_wp2_with fail
                refine (HW2.out _ (HO.out _)).mono ?_
                rintro e w2 ⟨rfl, b2⟩
                obtain ⟨c0, c1, c2, c3, c4, c5, c6, c7, c8⟩ := ((CdRow.new w ⟨fm, kd, ln, sz, ps, sg, db, rs, ov⟩ A n k A' n' k').below b2 (by simp)).cells
                simp only at c0 c1 c2 c3 c4 c5 c6 c7 c8
                have HB2 := Lib.hid (HO'.out _ _ b2)
                clear b2
                go_wp2
                go_ret
                first | exact ⟨ret_bool HF.out.symm, HB2.out⟩ | exact ⟨ret_bool HF.out.symm, HO.out _⟩
              | true =>
                have HW2 : Hid (∀ v, Below w.heap.size w v → Calls Tryz.prog 108 #[.slice A' n' k'] v fun e w' => e = .returned (.bool _) ∧ Below v.heap.size v w') := fun v hv => by have := right_any A' n' k' B rs v (HSP.out v hv) (Nat.le_trans hB hv.size) (by have := of_decide_eq_true h2; omega); rw [g1] at this; exact this
                cases g2 : ((n : Int) == 0) with
                | false =>
                  have HF : Hid (R = false) := by show _ = _; rw [HR.out]; simp [h0, h1'.out, h2, hov, hlt, g0, g1, g2]
                  go_wp2_with fail
                  refine (HW1.out _).mono ?_
                  rintro e w1 ⟨rfl, rfl⟩
                  go_wp2_with fail
                  refine (HW2.out _ (HO.out _)).mono ?_
                  rintro e w2 ⟨rfl, b2⟩
                  obtain ⟨c0, c1, c2, c3, c4, c5, c6, c7, c8⟩ := ((CdRow.new w ⟨fm, kd, ln, sz, ps, sg, db, rs, ov⟩ A n k A' n' k').below b2 (by simp)).cells
                  simp only at c0 c1 c2 c3 c4 c5 c6 c7 c8
                  have HB2 := Lib.hid (HO'.out _ _ b2)
                  clear b2
                  go_wp2
                  go_ret
                  first | exact ⟨ret_bool HF.out.symm, HB2.out⟩ | exact ⟨ret_bool HF.out.symm, HO.out _⟩
                | true =>
                  cases g3 : (sg == 0) with
                  | false =>
                    have HF : Hid (R = false) := by show _ = _; rw [HR.out]; simp [h0, h1'.out, h2, hov, hlt, g0, g1, g2, g3]
                    go_wp2_with fail
                    refine (HW1.out _).mono ?_
                    rintro e w1 ⟨rfl, rfl⟩
                    go_wp2_with fail
                    refine (HW2.out _ (HO.out _)).mono ?_
                    rintro e w2 ⟨rfl, b2⟩
                    obtain ⟨c0, c1, c2, c3, c4, c5, c6, c7, c8⟩ := ((CdRow.new w ⟨fm, kd, ln, sz, ps, sg, db, rs, ov⟩ A n k A' n' k').below b2 (by simp)).cells
                    simp only at c0 c1 c2 c3 c4 c5 c6 c7 c8
                    have HB2 := Lib.hid (HO'.out _ _ b2)
                    clear b2
                    go_wp2
                    go_ret
                    first | exact ⟨ret_bool HF.out.symm, HB2.out⟩ | exact ⟨ret_bool HF.out.symm, HO.out _⟩
                  | true =>
                    cases g4 : (db == 0) with
                    | false =>
                      have HF : Hid (R = false) := by show _ = _; rw [HR.out]; simp [h0, h1'.out, h2, hov, hlt, g0, g1, g2, g3, g4]
                      go_wp2_with fail
                      refine (HW1.out _).mono ?_
                      rintro e w1 ⟨rfl, rfl⟩
                      go_wp2_with fail
                      refine (HW2.out _ (HO.out _)).mono ?_
                      rintro e w2 ⟨rfl, b2⟩
                      obtain ⟨c0, c1, c2, c3, c4, c5, c6, c7, c8⟩ := ((CdRow.new w ⟨fm, kd, ln, sz, ps, sg, db, rs, ov⟩ A n k A' n' k').below b2 (by simp)).cells
                      simp only at c0 c1 c2 c3 c4 c5 c6 c7 c8
                      have HB2 := Lib.hid (HO'.out _ _ b2)
                      clear b2
                      go_wp2
                      go_ret
                      first | exact ⟨ret_bool HF.out.symm, HB2.out⟩ | exact ⟨ret_bool HF.out.symm, HO.out _⟩
                    | true =>
                      have HF : Hid (R = true) := by show _ = _; rw [HR.out]; simp [h0, h1'.out, h2, hov, hlt, g0, g1, g2, g3, g4]
                      go_wp2_with fail
                      refine (HW1.out _).mono ?_
                      rintro e w1 ⟨rfl, rfl⟩
                      go_wp2_with fail
                      refine (HW2.out _ (HO.out _)).mono ?_
                      rintro e w2 ⟨rfl, b2⟩
                      obtain ⟨c0, c1, c2, c3, c4, c5, c6, c7, c8⟩ := ((CdRow.new w ⟨fm, kd, ln, sz, ps, sg, db, rs, ov⟩ A n k A' n' k').below b2 (by simp)).cells
                      simp only at c0 c1 c2 c3 c4 c5 c6 c7 c8
                      have HB2 := Lib.hid (HO'.out _ _ b2)
                      clear b2
                      go_wp2
                      go_ret
                      first | exact ⟨ret_bool HF.out.symm, HB2.out⟩ | exact ⟨ret_bool HF.out.symm, HO.out _⟩
end Go.Proofs.YtgdlfiejjnjcpaaGreat

namespace Go.Proofs.YtgdlfiejjnjcpaaGreat
open Go.RowKit

set_option maxRecDepth 100000 in
theorem cdv_zero (w : World) (B : Nat) : CdAt w B (cdv zeroC none 0 0 none 0 0) zeroC :=
  ⟨none, 0, 0, none, 0, 0, rfl, ⟨rfl, by simp [zeroC], fun k hk => absurd hk (by omega)⟩, ⟨rfl, by simp [zeroC], fun k hk => absurd hk (by omega)⟩, by omega, by omega, by simp [Cd.fit, zeroC, Fit]⟩

set_option maxRecDepth 100000 in
theorem right_form (c : Cd) : rightC c = (isZ c || ((decide (c.kd = 1) || decide (c.kd = 2)) && ((decide (1 ≤ c.ln) && decide (c.ln ≤ 200)) && (oneB c || twoB c)))) := by
  simp only [rightC, headB, Bool.and_assoc]

set_option maxRecDepth 100000 in
set_option maxHeartbeats 2000000 in
theorem rightc_any (v : Value) (c : Cd) (B : Nat) (R : Bool) (w : World) (hR : rightC c = R) (hc : CdAt w B v c) (hB : B ≤ w.heap.size) :
    Calls Tryz.prog 73 #[v] w fun e w' => e = .returned (.bool R) ∧ Below w.heap.size w w' := by
  have HCD : Hid (∀ v', Below w.heap.size w v' → CdAt v' B v c) := fun v' hv => hc.below hv hB
  obtain ⟨A, n, k, A', n', k', rfl, i1, s1, bn, bn', f1⟩ := hc
  have HR := Lib.hid (hR.symm.trans (right_form c))
  have HO : Hid (∀ o : Obj, Below w.heap.size w (w.alloc o)) := fun o => (Below.refl _ _).alloc (Nat.le_refl _) _
  have HO' : Hid (∀ (o : Obj) (v : World), Below (w.alloc o).heap.size (w.alloc o) v → Below w.heap.size w v) := fun o v hv => (HO.out o).trans (hv.mono (by simp))
  have HZ : Hid (isZ c = true ↔ c = zeroC) := isZ_iff
  have HS : Hid (∀ v', Below w.heap.size w v' → Calls Tryz.prog 101 #[cdv c A n k A' n' k', cdv zeroC none 0 0 none 0 0] v' fun e w' => e = .returned (.bool (isZ c)) ∧ Below v'.heap.size v' w') :=
    fun v' hv => same_any _ _ c zeroC B (isZ c) v' isZ_iff (HCD.out v' hv) (cdv_zero _ _) (Nat.le_trans hB hv.size)
  have HROW : Hid (∀ v', Below (w.alloc (.cells (cells9 c A n k A' n' k') 30)).heap.size (w.alloc (.cells (cells9 c A n k A' n' k') 30)) v' → CdRow v' w.heap.size c A n k A' n' k') := fun v' hv => (CdRow.new w c A n k A' n' k').below hv (by simp)
  have H1 : Hid (∀ v', Below w.heap.size w v' → Calls Tryz.prog 104 #[cdv c A n k A' n' k'] v' fun e w' => e = .returned (.bool (oneB c)) ∧ Below v'.heap.size v' w') :=
    fun v' hv => isOne_any _ c B (oneB c) v' rfl (HCD.out v' hv) (Nat.le_trans hB hv.size)
  have H2 : Hid (∀ v', Below w.heap.size w v' → Calls Tryz.prog 105 #[cdv c A n k A' n' k'] v' fun e w' => e = .returned (.bool (twoB c)) ∧ Below v'.heap.size v' w') :=
    fun v' hv => isTwo_any _ c B (twoB c) v' rfl (HCD.out v' hv) (Nat.le_trans hB hv.size)
  clear hR i1 s1 f1 bn bn' HCD HZ
  go_enter Tryz.func73, Tryz.ntmps73
  go_wp2_with fail
  refine (HS.out _ (HO.out _)).mono ?_
  rintro e w2 ⟨rfl, b2⟩
  have HB2 := Lib.hid (HO'.out _ _ b2)
  have HR2 := Lib.hid (HROW.out _ b2)
  obtain ⟨c0, c1, c2, c3, c4, c5, c6, c7, c8⟩ := HR2.out.cells
  clear b2
  cases hz : isZ c with
  | true =>
    have HF : Hid (R = true) := by show _ = _; rw [HR.out]; simp [hz]
    go_wp2
    go_ret
    exact ⟨ret_bool HF.out.symm, HB2.out⟩
  | false =>
    cases h0 : (decide (c.kd = 1) || decide (c.kd = 2)) with
    | false =>
      have HF : Hid (R = false) := by show _ = _; rw [HR.out]; simp [hz, h0]
      have h0' := Lib.hid h0
      have HW0 := Lib.hid (fun w => isKind_any c.kd _ w h0)
      clear h0
      go_wp2_with fail
      refine (HW0.out _).mono ?_
      rintro e w1 ⟨rfl, rfl⟩
      go_wp2
      go_ret
      first | exact ⟨ret_bool HF.out.symm, HB4.out⟩ | exact ⟨ret_bool HF.out.symm, HB3.out⟩ | exact ⟨ret_bool HF.out.symm, HB2.out⟩
    | true =>
      have h0' := Lib.hid h0
      have HW0 := Lib.hid (fun w => isKind_any c.kd _ w h0)
      clear h0
      cases h1 : (decide (1 ≤ c.ln) && decide (c.ln ≤ 200)) with
      | false =>
        have HF : Hid (R = false) := by show _ = _; rw [HR.out]; simp [hz, h0'.out, h1]
        have h1' := Lib.hid h1
        have HW1 := Lib.hid (fun w => within_any c.ln 1 200 _ w h1)
        clear h1
        go_wp2_with fail
        refine (HW0.out _).mono ?_
        rintro e w1 ⟨rfl, rfl⟩
        go_wp2_with fail
        refine (HW1.out _).mono ?_
        rintro e w1 ⟨rfl, rfl⟩
        go_wp2
        go_ret
        first | exact ⟨ret_bool HF.out.symm, HB4.out⟩ | exact ⟨ret_bool HF.out.symm, HB3.out⟩ | exact ⟨ret_bool HF.out.symm, HB2.out⟩
      | true =>
        have h1' := Lib.hid h1
        have HW1 := Lib.hid (fun w => within_any c.ln 1 200 _ w h1)
        clear h1
        go_wp2_with fail
        refine (HW0.out _).mono ?_
        rintro e w1 ⟨rfl, rfl⟩
        go_wp2_with fail
        refine (HW1.out _).mono ?_
        rintro e w1 ⟨rfl, rfl⟩
        go_wp2_with fail
        refine (H1.out _ HB2.out).mono ?_
        rintro e w3 ⟨rfl, b3⟩
        have HB3 := Lib.hid (HB2.out.trans (b3.mono HB2.out.size))
        obtain ⟨d0, d1, d2, d3, d4, d5, d6, d7, d8⟩ := (HR2.out.below b3 HR2.out.lt).cells
        clear b3
        cases h2 : oneB c with
        | true =>
          have HF : Hid (R = true) := by show _ = _; rw [HR.out]; simp [hz, h0'.out, h1'.out, h2]
          go_wp2
          go_ret
          first | exact ⟨ret_bool HF.out.symm, HB4.out⟩ | exact ⟨ret_bool HF.out.symm, HB3.out⟩ | exact ⟨ret_bool HF.out.symm, HB2.out⟩
        | false =>
          have HF : Hid (R = twoB c) := by show _ = _; rw [HR.out]; simp [hz, h0'.out, h1'.out, h2]
          go_wp2_with fail
          refine (H2.out _ HB3.out).mono ?_
          rintro e w4 ⟨rfl, b4⟩
          have HB4 := Lib.hid (HB3.out.trans (b4.mono HB3.out.size))
          clear b4
          go_wp2
          go_ret
          first | exact ⟨ret_bool HF.out.symm, HB4.out⟩ | exact ⟨ret_bool HF.out.symm, HB3.out⟩ | exact ⟨ret_bool HF.out.symm, HB2.out⟩
end Go.Proofs.YtgdlfiejjnjcpaaGreat
