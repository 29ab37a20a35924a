/-
  WALK: Right tells whether a card is valid. Conditions: the lists have as many elements as an int64 counts.
-/
import Derived.Test.YtmimfnbcffcdfaaCSame
import Derived.Test.YtmimfnbcffcdfaaCOne
namespace Go.Proofs.Ytmimfnbcffcdfaa
open Go.RowKit

theorem cdv_zero (w : World) (B : Nat) : CdAt w B (cdv zeroC none 0 0 none 0 0) zeroC :=
  ⟨none, 0, 0, none, 0, 0, rfl, ⟨rfl, by simp [zeroC], fun k hk => absurd hk (by omega)⟩, ⟨rfl, by simp [zeroC], fun k hk => absurd hk (by omega)⟩, by omega, by omega, by simp [Cd.fit, zeroC, Fit]⟩

theorem right_form (c : Cd) : rightC c = (isZ c || ((decide (c.kd = 1) || decide (c.kd = 2)) && ((decide (1 ≤ c.ln) && decide (c.ln ≤ 200)) && (oneB c || twoB c)))) := by
  simp only [rightC, headB, Bool.and_assoc]

set_option maxHeartbeats 2000000 in
theorem rightc_any (v : Value) (c : Cd) (B : Nat) (R : Bool) (w : World) (hR : rightC c = R) (hc : CdAt w B v c) (hB : B ≤ w.heap.size) :
    Calls Try.prog 11 #[v] w fun e w' => e = .returned (.bool R) ∧ Below w.heap.size w w' := by
  have HCD : Hid (∀ v', Below w.heap.size w v' → CdAt v' B v c) := fun v' hv => hc.below hv hB
  obtain ⟨A, n, k, A', n', k', rfl, i1, s1, bn, bn', f1⟩ := hc
  have HR := Lib.hid (hR.symm.trans (right_form c))
  have HO : Hid (∀ o : Obj, Below w.heap.size w (w.alloc o)) := fun o => (Below.refl _ _).alloc (Nat.le_refl _) _
  have HO' : Hid (∀ (o : Obj) (v : World), Below (w.alloc o).heap.size (w.alloc o) v → Below w.heap.size w v) := fun o v hv => (HO.out o).trans (hv.mono (by simp))
  have HZ : Hid (isZ c = true ↔ c = zeroC) := isZ_iff
  have HS : Hid (∀ v', Below w.heap.size w v' → Calls Try.prog 16 #[cdv c A n k A' n' k', cdv zeroC none 0 0 none 0 0] v' fun e w' => e = .returned (.bool (isZ c)) ∧ Below v'.heap.size v' w') :=
    fun v' hv => same_any _ _ c zeroC B (isZ c) v' isZ_iff (HCD.out v' hv) (cdv_zero _ _) (Nat.le_trans hB hv.size)
  have HROW : Hid (∀ v', Below (w.alloc (.cells (cells9 c A n k A' n' k') 25)).heap.size (w.alloc (.cells (cells9 c A n k A' n' k') 25)) v' → CdRow v' w.heap.size c A n k A' n' k') := fun v' hv => (CdRow.new w c A n k A' n' k').below hv (by simp)
  have H1 : Hid (∀ v', Below w.heap.size w v' → Calls Try.prog 29 #[cdv c A n k A' n' k'] v' fun e w' => e = .returned (.bool (oneB c)) ∧ Below v'.heap.size v' w') :=
    fun v' hv => isOne_any _ c B (oneB c) v' rfl (HCD.out v' hv) (Nat.le_trans hB hv.size)
  have H2 : Hid (∀ v', Below w.heap.size w v' → Calls Try.prog 30 #[cdv c A n k A' n' k'] v' fun e w' => e = .returned (.bool (twoB c)) ∧ Below v'.heap.size v' w') :=
    fun v' hv => isTwo_any _ c B (twoB c) v' rfl (HCD.out v' hv) (Nat.le_trans hB hv.size)
  clear hR i1 s1 f1 bn bn' HCD HZ
  go_enter Try.func11, Try.ntmps11
  go_wp2_with fail
  refine (HS.out _ (HO.out _)).mono ?_
  rintro e w2 ⟨rfl, b2⟩
  have HB2 := Lib.hid (HO'.out _ _ b2)
  have HR2 := Lib.hid (HROW.out _ b2)
  obtain ⟨c0, c1, c2, c3, c4, c5, c6, c7, c8⟩ := HR2.out.cells
  clear b2
  cases hz : isZ c with
  | true =>
    have HF : Hid (R = true) := by show _ = _; rw [HR.out]; simp [hz]
    go_wp2
    go_ret
    exact ⟨ret_bool HF.out.symm, HB2.out⟩
  | false =>
    cases h0 : (decide (c.kd = 1) || decide (c.kd = 2)) with
    | false =>
      have HF : Hid (R = false) := by show _ = _; rw [HR.out]; simp [hz, h0]
      have h0' := Lib.hid h0
      have HW0 := Lib.hid (fun w => isKind_any c.kd _ w h0)
      clear h0
      go_wp2_with fail
      refine (HW0.out _).mono ?_
      rintro e w1 ⟨rfl, rfl⟩
      go_wp2
      go_ret
      first | exact ⟨ret_bool HF.out.symm, HB4.out⟩ | exact ⟨ret_bool HF.out.symm, HB3.out⟩ | exact ⟨ret_bool HF.out.symm, HB2.out⟩
    | true =>
      have h0' := Lib.hid h0
      have HW0 := Lib.hid (fun w => isKind_any c.kd _ w h0)
      clear h0
      cases h1 : (decide (1 ≤ c.ln) && decide (c.ln ≤ 200)) with
      | false =>
        have HF : Hid (R = false) := by show _ = _; rw [HR.out]; simp [hz, h0'.out, h1]
        have h1' := Lib.hid h1
        have HW1 := Lib.hid (fun w => within_any c.ln 1 200 _ w h1)
        clear h1
        go_wp2_with fail
        refine (HW0.out _).mono ?_
        rintro e w1 ⟨rfl, rfl⟩
        go_wp2_with fail
        refine (HW1.out _).mono ?_
        rintro e w1 ⟨rfl, rfl⟩
        go_wp2
        go_ret
        first | exact ⟨ret_bool HF.out.symm, HB4.out⟩ | exact ⟨ret_bool HF.out.symm, HB3.out⟩ | exact ⟨ret_bool HF.out.symm, HB2.out⟩
      | true =>
        have h1' := Lib.hid h1
        have HW1 := Lib.hid (fun w => within_any c.ln 1 200 _ w h1)
        clear h1
        go_wp2_with fail
        refine (HW0.out _).mono ?_
        rintro e w1 ⟨rfl, rfl⟩
        go_wp2_with fail
        refine (HW1.out _).mono ?_
        rintro e w1 ⟨rfl, rfl⟩
        go_wp2_with fail
        refine (H1.out _ HB2.out).mono ?_
        rintro e w3 ⟨rfl, b3⟩
        have HB3 := Lib.hid (HB2.out.trans (b3.mono HB2.out.size))
        obtain ⟨d0, d1, d2, d3, d4, d5, d6, d7, d8⟩ := (HR2.out.below b3 HR2.out.lt).cells
        clear b3
        cases h2 : oneB c with
        | true =>
          have HF : Hid (R = true) := by show _ = _; rw [HR.out]; simp [hz, h0'.out, h1'.out, h2]
          go_wp2
          go_ret
          first | exact ⟨ret_bool HF.out.symm, HB4.out⟩ | exact ⟨ret_bool HF.out.symm, HB3.out⟩ | exact ⟨ret_bool HF.out.symm, HB2.out⟩
        | false =>
          have HF : Hid (R = twoB c) := by show _ = _; rw [HR.out]; simp [hz, h0'.out, h1'.out, h2]
          go_wp2_with fail
          refine (H2.out _ HB3.out).mono ?_
          rintro e w4 ⟨rfl, b4⟩
          have HB4 := Lib.hid (HB3.out.trans (b4.mono HB3.out.size))
          clear b4
          go_wp2
          go_ret
          first | exact ⟨ret_bool HF.out.symm, HB4.out⟩ | exact ⟨ret_bool HF.out.symm, HB3.out⟩ | exact ⟨ret_bool HF.out.symm, HB2.out⟩
end Go.Proofs.Ytmimfnbcffcdfaa
