/-
  THE LAW CardsWrite: a card's bytes, or that it may not be, is what the document says. It holds for every input.
-/
import Derived.Test.YtmimfnbcffcdfaaCFrame
import Derived.Test.YtmimfnbcffcdfaaCRefWrite
namespace Go.Proofs.Ytmimfnbcffcdfaa.cardsWrite
open Go.ChangeShapes Go.WideShapes Go.ChangeAt Go.RowKit

set_option maxHeartbeats 4000000 in
theorem walk {v : Value} (c : Cd) (w : World) (hc : CdAt w w.heap.size v c) : Calls Try.prog 3 #[v] w fun e w' => e = .returned (.bool true) ∧ Below w.heap.size w w' := by
  obtain ⟨A, n, k, A', n', k', rfl, i0, s0, bn, bn', f0⟩ := hc
  have HC0 : Hid (CdAt w w.heap.size (cdv c A n k A' n' k') c) := ⟨A, n, k, A', n', k', rfl, i0, s0, bn, bn', f0⟩
  have HW : Hid (∀ (v : Value) (u : World), CdAt u u.heap.size v c → Calls Try.prog 9 #[v] u fun e w' => e = .returned (.tuple #[.string (writeC c).1, .int .i64 (writeC c).2]) ∧ Below u.heap.size u w') := fun v u hc => write9_any v c _ u hc (Nat.le_refl _)
  have HV : Hid (∀ (v : Value) (u : World), CdAt u u.heap.size v c → Calls Try.prog 10 #[v] u fun e w' => e = .returned (.tuple #[.string (writeC c).1, .int .i64 (writeC c).2]) ∧ Below u.heap.size u w') := fun v u hc => rwrite9_any v c _ u hc (Nat.le_refl _)
  have HR : Hid (∀ (v : Value) (u : World), CdAt u u.heap.size v c → Calls Try.prog 11 #[v] u fun e w' => e = .returned (.bool (rightC c)) ∧ Below u.heap.size u w') := fun v u hc => rightc_any v c _ _ u rfl hc (Nat.le_refl _)
  have HQ : Hid (∀ (v : Value) (u : World), CdAt u u.heap.size v c → Calls Try.prog 12 #[v] u fun e w' => e = .returned (.bool (rightC c)) ∧ Below u.heap.size u w') := fun v u hc => rright9_any v c _ _ u rfl hc (Nat.le_refl _)
  generalize (writeC c).1 = t at *
  generalize (writeC c).2 = z at *
  generalize rightC c = r at *
  clear i0 s0 bn bn' f0
  go_enter Try.func3, Try.ntmps3
  go_wp2_with fail
  have HG1 : Hid (CdRow (w.alloc (.cells (cells9 c A n k A' n' k') 25)) w.heap.size c A n k A' n' k') := CdRow.new w c A n k A' n' k'
  have b1 : Below w.heap.size w (w.alloc (.cells (cells9 c A n k A' n' k') 25)) := (Below.refl _ _).alloc (Nat.le_refl _) _
  have HC1 := Lib.hid ((HC0.out.below b1 (Nat.le_refl _)).more b1.size)
  have HB1 := Lib.hid b1
  clear b1 HC0
  unfold cells9 at HG1 HC1 HB1
  generalize w.alloc (.cells #[.int .i64 c.fm, .int .i64 c.kd, .int .i64 c.ln, .int .i64 c.sz, .slice A n k, .int .i64 c.sg, .int .i64 c.db, .slice A' n' k', .int .i64 c.ov] 25) = w1 at *
  refine (lives_any _).mono ?_
  rintro e w2 ⟨rfl, b2⟩
  have HG2 := Lib.hid (HG1.out.below b2 HG1.out.lt)
  have HC2 := Lib.hid ((HC1.out.below b2 (Nat.le_refl _)).more b2.size)
  have HB2 := Lib.hid (HB1.out.trans (b2.mono HB1.out.size))
  clear b2 HG1 HC1 HB1
  obtain ⟨e0, e1, e2, e3, e4, e5, e6, e7, e8⟩ := HG2.out.cells
  go_wp2_with fail
  refine (HW.out _ _ HC2.out).mono ?_
  rintro e w3 ⟨rfl, b3⟩
  have HG3 := Lib.hid (HG2.out.below b3 HG2.out.lt)
  have HC3 := Lib.hid ((HC2.out.below b3 (Nat.le_refl _)).more b3.size)
  have HB3 := Lib.hid (HB2.out.trans (b3.mono HB2.out.size))
  clear b3 HG2 HC2 HB2 e0 e1 e2 e3 e4 e5 e6 e7 e8
  obtain ⟨e0, e1, e2, e3, e4, e5, e6, e7, e8⟩ := HG3.out.cells
  go_wp2_with fail
  refine (HV.out _ _ HC3.out).mono ?_
  rintro e w4 ⟨rfl, b4⟩
  have HG4 := Lib.hid (HG3.out.below b4 HG3.out.lt)
  have HC4 := Lib.hid ((HC3.out.below b4 (Nat.le_refl _)).more b4.size)
  have HB4 := Lib.hid (HB3.out.trans (b4.mono HB3.out.size))
  clear b4 HG3 HC3 HB3 e0 e1 e2 e3 e4 e5 e6 e7 e8
  have HCD : Hid (CdAt w4.drew w4.drew.heap.size (cdv c A n k A' n' k') c) := CdAt.below (C := w4.heap.size) HC4.out (Below.dr (Below.refl _ _)) (Nat.le_refl _)
  have S4 := Lib.hid (box_row HG4.out)
  have hg4 := HG4.out.lt
  have hb4 := HB4.out.size
  go_upto_region 5 with fail
  go_region_held3 (fun v' => v'.cell? ⟨w.heap.size, 0, none⟩ = some (.int .i64 c.fm) ∧ v'.cell? ⟨w.heap.size, 1, none⟩ = some (.int .i64 c.kd) ∧ v'.cell? ⟨w.heap.size, 2, none⟩ = some (.int .i64 c.ln) ∧ v'.cell? ⟨w.heap.size, 3, none⟩ = some (.int .i64 c.sz) ∧ v'.cell? ⟨w.heap.size, 4, none⟩ = some (.slice A n k) ∧ v'.cell? ⟨w.heap.size, 5, none⟩ = some (.int .i64 c.sg) ∧ v'.cell? ⟨w.heap.size, 6, none⟩ = some (.int .i64 c.db) ∧ v'.cell? ⟨w.heap.size, 7, none⟩ = some (.slice A' n' k') ∧ v'.cell? ⟨w.heap.size, 8, none⟩ = some (.int .i64 c.ov))
    (first | exact S4.out | exact S5.out | exact S6.out)
    (first
      | (go_at_call 12; go_fit (HQ.out _ _ HC5.out)
         rintro e w6 ⟨rfl, b6⟩
         have HB6 := Lib.hid (HB5.out.trans (b6.mono HB5.out.size))
         have S6 := Lib.hid (box_row (HG5.out.below b6 HG5.out.lt))
         clear b6)
      | (go_at_call 11; go_fit (HR.out _ _ HCD.out)
         rintro e w5 ⟨rfl, b5⟩
         have HB5 := Lib.hid (HB4.out.trans (Below.und (b5.mono hb4)))
         have HG5 := Lib.hid (CdRow.below (w' := w5) HG4.out.dr b5 hg4)
         have S5 := Lib.hid (box_row HG5.out)
         have HC5 := Lib.hid ((HCD.out.below b5 (Nat.le_refl _)).more b5.size)
         clear b5))
  all_goals
    go_wp2
    go_ret
    exact ⟨rfl, HB6.out⟩

set_option maxRecDepth 100000 in
theorem lifted (os : Os) (started : os.Started) (H : Type) (enc : TypeId × Value → H) :
    ReturnsInHanded {} Try.checked os 3 .any (Rows.cardsWriteSpec.pre6 enc Try.prog Try.f3 Rows.cardsWriteRow.domain false) (Rows.cardsWriteSpec.post enc Try.prog Try.f3 false true false false) := by
  refine returnsInHanded_of_change_sized (C := Try.checked) own started (by kernel_rfl) Try.func3
    (ChangeSpec.witness6 (enc := enc) (C := Try.checked) false ⟨#[], #[.agg #[.int .i64 0, .int .i64 0, .int .i64 0, .int .i64 0, .slice none 0 0, .int .i64 0, .int .i64 0, .slice none 0 0, .int .i64 0]], []⟩ 8 (by kernel_rfl) (by kernel_rfl) (by kernel_rfl) (by kernel_rfl)) ?_
  intro W base args ds gs before hval0 hW hcnd hsz0 _
  have hval : ∀ (j : Nat) t v, Try.f3.params[j]? = some t → args[j]? = some v → Value.okWide Try.prog W .any base t v := hval0
  have hW' := hW
  obtain ⟨p, q, hA0, hV, rfl, hfz, hnd⟩ := hW
  have hA : DataW.TrodAll enc Try.prog W 0 (fun _ => true) true Try.f3.params.toList args.toList ds p := hA0
  rw [Try.params3] at hA hval
  obtain ⟨v0, vs0, d0, ds0, p0, q0, hargs, rfl, rfl, h0, r0⟩ := trodAll_cons hA
  obtain ⟨rfl, rfl, rfl⟩ := trodAll_nil r0
  obtain rfl : args = #[v0] := by cases args; simp_all
  obtain ⟨rfl, rfl⟩ := trodVars_none hV
  have lt0 : ∀ x ∈ p0, x.block < W.heap.size := by obtain ⟨m, hm⟩ := h0; exact DataW.trod_lt m _ _ _ hm
  obtain ⟨c0, -, w0⟩ := cd_open (hval 0 25 v0 rfl rfl) h0
  clear hA0 hval0
  refine (walk c0 W w0).mono fun e W' ⟨he, bel⟩ => ?_
  subst he
  exact ⟨_, rfl, _, _, _, [], _, [], hW', trodAll_mk1 (shut_bool Try.underlying4 _), (trodAll_cons_mk (Below.trod laidOut (by kernel_rfl) (of_decide_eq_true (by kernel_rfl)) h0 bel lt0) trodAll_mk0), rfl, bel.frame _, fun h => by cases h⟩

theorem over : Rows.cardsWriteRow.holds Try.pinned (OpenSpec.ofChange Rows.cardsWriteSpec) :=
  OpenClaim.holds_of_wide 3 Try.f3 rfl rfl rfl rfl rfl rfl rfl ⟨rfl, rfl, rfl, rfl, rfl⟩ rfl rfl rfl rfl rfl (by kernel_rfl) Try.func3 (by kernel_rfl)
    (of_decide_eq_true (by kernel_rfl)) (by unfold Func.isWrapper; first | (rw [if_pos (by decide +kernel)]; kernel_rfl) | (rw [if_neg (by decide +kernel)]; exact ⟨rfl, rfl⟩))
    (fun os started H enc _ => lifted os started H enc)

end Go.Proofs.Ytmimfnbcffcdfaa.cardsWrite
namespace Go.Proofs.Ytmimfnbcffcdfaa
theorem cardsWrite_proved : Rows.CardsWriteSaid := cardsWrite.over
#print axioms cardsWrite_proved
end Go.Proofs.Ytmimfnbcffcdfaa
