/-
  THE LAW CardsRead: the card of any bytes, or that they are none's, is what the document says. It holds for every input.
-/
import Derived.Test.YtmimfnbcffcdfaaCFrame
import Derived.Test.YtmimfnbcffcdfaaCRefRead
namespace Go.Proofs.Ytmimfnbcffcdfaa.cardsRead
open Go.ChangeShapes Go.WideShapes Go.ChangeAt Go.RowKit
open Go.ChangeMaps (open_string shut_string)

set_option maxHeartbeats 2000000 in
theorem walk (s : ByteArray) (w : World) (hs : s.size ≤ 140737488355328) : Calls Try.prog 4 #[.string s] w fun e w' => e = .returned (.bool true) ∧ Below w.heap.size w w' := by
  have H1 := Lib.hid (fun u => read9_any s u (by omega))
  have H2 := Lib.hid (fun u => rread9_any s u (by omega))
  obtain ⟨c, hc⟩ : ∃ c, c = (readC s).1 := ⟨_, rfl⟩
  obtain ⟨z, hz⟩ : ∃ z, z = (readC s).2 := ⟨_, rfl⟩
  rw [← hc, ← hz] at H1 H2
  clear hc hz
  go_enter Try.func4, Try.ntmps4
  go_wp2_with fail
  refine (lives_any _).mono ?_
  rintro e w1 ⟨rfl, b1⟩
  have HB1 := Lib.hid b1
  clear b1
  go_wp2_with fail
  refine (H1.out _).mono ?_
  rintro e w2 ⟨v2, rfl, hc2, b2⟩
  obtain ⟨A, n, k, A', n', k', rfl, i2, s2, bn, bn', f2⟩ := hc2
  have HC2 : Hid (CdAt w2 w2.heap.size (cdv c A n k A' n' k') c) := ⟨A, n, k, A', n', k', rfl, i2, s2, bn, bn', f2⟩
  have HB2 := Lib.hid (HB1.out.trans (b2.mono HB1.out.size))
  clear b2 i2 s2 bn bn' f2 HB1
  go_upto_region 4 with fail
  have HG3 : Hid (CdRow (w2.alloc (.cells (cells9 c A n k A' n' k') 25)) w2.heap.size c A n k A' n' k') := CdRow.new w2 c A n k A' n' k'
  have b3 : Below w2.heap.size w2 (w2.alloc (.cells (cells9 c A n k A' n' k') 25)) := (Below.refl _ _).alloc (Nat.le_refl _) _
  have HC3 := Lib.hid ((HC2.out.below b3 (Nat.le_refl _)).more b3.size)
  have HB3 := Lib.hid (HB2.out.trans (b3.mono HB2.out.size))
  clear b3 HC2 HB2
  unfold cells9 at HG3 HC3 HB3
  generalize w2.alloc (.cells #[.int .i64 c.fm, .int .i64 c.kd, .int .i64 c.ln, .int .i64 c.sz, .slice A n k, .int .i64 c.sg, .int .i64 c.db, .slice A' n' k', .int .i64 c.ov] 25) = w3 at *
  generalize w2.heap.size = g at *
  go_wp2_with fail
  refine (H2.out _).mono ?_
  rintro e w4 ⟨v4, rfl, hc4, b4⟩
  obtain ⟨C, m, l, C', m', l', rfl, i4, s4, bm, bm', f4⟩ := hc4
  have HD4 : Hid (CdAt w4 w4.heap.size (cdv c C m l C' m' l') c) := ⟨C, m, l, C', m', l', rfl, i4, s4, bm, bm', f4⟩
  have HG4 := Lib.hid (HG3.out.below b4 HG3.out.lt)
  have HC4 := Lib.hid ((HC3.out.below b4 (Nat.le_refl _)).more b4.size)
  have HB4 := Lib.hid (HB3.out.trans (b4.mono HB3.out.size))
  clear b4 HG3 HC3 HB3 i4 s4 bm bm' f4
  go_upto_region 5 with fail
  have HE5 : Hid (CdRow (w4.alloc (.cells (cells9 c C m l C' m' l') 25)) w4.heap.size c C m l C' m' l') := CdRow.new w4 c C m l C' m' l'
  have b5 : Below w4.heap.size w4 (w4.alloc (.cells (cells9 c C m l C' m' l') 25)) := (Below.refl _ _).alloc (Nat.le_refl _) _
  have HG5 := Lib.hid (HG4.out.below b5 HG4.out.lt)
  have HC5 := Lib.hid ((HC4.out.below b5 (Nat.le_refl _)).more b5.size)
  have HD5 := Lib.hid ((HD4.out.below b5 (Nat.le_refl _)).more b5.size)
  have HB5 := Lib.hid (HB4.out.trans (b5.mono HB4.out.size))
  clear b5 HG4 HC4 HB4 HD4
  unfold cells9 at HE5 HG5 HC5 HB5 HD5
  generalize w4.alloc (.cells #[.int .i64 c.fm, .int .i64 c.kd, .int .i64 c.ln, .int .i64 c.sz, .slice C m l, .int .i64 c.sg, .int .i64 c.db, .slice C' m' l', .int .i64 c.ov] 25) = w5 at *
  generalize w4.heap.size = g' at *
  obtain ⟨e0, e1, e2, e3, e4, e5, e6, e7, e8⟩ := HG5.out.cells
  obtain ⟨q0, q1, q2, q3, q4, q5, q6, q7, q8⟩ := HE5.out.cells
  have hzz : (z == z) = true := by simp
  go_wp2_with fail
  refine (rsame_any _ _ c c _ true w5 (by simp) HC5.out HD5.out (Nat.le_refl _)).mono ?_
  rintro e w6 ⟨rfl, b6⟩
  have HB6 := Lib.hid (HB5.out.trans (b6.mono HB5.out.size))
  clear b6
  go_wp2
  go_ret
  exact ⟨rfl, HB6.out⟩

set_option maxRecDepth 100000 in
theorem lifted (os : Os) (started : os.Started) (H : Type) (enc : TypeId × Value → H) :
    ReturnsInHanded {} Try.checked os 4 .any (Rows.cardsReadSpec.pre6 enc Try.prog Try.f4 Rows.cardsReadRow.domain false) (Rows.cardsReadSpec.post enc Try.prog Try.f4 false true false false) := by
  refine returnsInHanded_of_change_sized (C := Try.checked) own started (by kernel_rfl) Try.func4
    (ChangeSpec.witness6 (enc := enc) (C := Try.checked) false ⟨#[], #[.string ByteArray.empty], []⟩ 8 (by kernel_rfl) (by kernel_rfl) (by kernel_rfl) (by kernel_rfl)) ?_
  intro W base args ds gs before hval0 hW hcnd hsz0 _
  have hval : ∀ (j : Nat) t v, Try.f4.params[j]? = some t → args[j]? = some v → Value.okWide Try.prog W .any base t v := hval0
  have hsz : (DataW.weightsEach Try.prog (Try.f4.params.toList ++ Rows.cardsReadSpec.plain.varTypes Try.prog) (ds ++ gs)).all (· ≤ reachBytes) = true := hsz0
  have hW' := hW
  obtain ⟨p, q, hA0, hV, rfl, hfz, hnd⟩ := hW
  have hA : DataW.TrodAll enc Try.prog W 0 (fun _ => true) true Try.f4.params.toList args.toList ds p := hA0
  rw [Try.params4] at hA hval hsz
  obtain ⟨v0, vs0, d0, ds0, p0, q0, hargs, rfl, rfl, h0, r0⟩ := trodAll_cons hA
  obtain ⟨rfl, rfl, rfl⟩ := trodAll_nil r0
  obtain rfl : args = #[v0] := by cases args; simp_all
  obtain ⟨rfl, rfl⟩ := trodVars_none hV
  obtain ⟨s0, rfl, rfl, rfl, hs0⟩ := open_string Try.underlying9 (hval 0 9 v0 rfl rfl) h0
  have b0 : s0.size ≤ 140737488355328 := by
    have := sized_string hsz (j := 0) (t := 9) rfl rfl
    rw [Array.length_toList] at this
    simp only [reachBytes] at this
    exact Nat.le_trans this (by decide)
  clear hA0 hval0
  refine (walk s0 W b0).mono fun e W' ⟨he, bel⟩ => ?_
  subst he
  exact ⟨_, rfl, _, _, _, [], _, [], hW', trodAll_mk1 (shut_bool Try.underlying4 _), (trodAll_cons_mk (shut_string Try.underlying9 hs0) trodAll_mk0), rfl, bel.frame _, fun h => by cases h⟩

theorem over : Rows.cardsReadRow.holds Try.pinned (OpenSpec.ofChange Rows.cardsReadSpec) :=
  OpenClaim.holds_of_wide 4 Try.f4 rfl rfl rfl rfl rfl rfl rfl ⟨rfl, rfl, rfl, rfl, rfl⟩ rfl rfl rfl rfl rfl (by kernel_rfl) Try.func4 (by kernel_rfl)
    (of_decide_eq_true (by kernel_rfl)) (by unfold Func.isWrapper; first | (rw [if_pos (by decide +kernel)]; kernel_rfl) | (rw [if_neg (by decide +kernel)]; exact ⟨rfl, rfl⟩))
    (fun os started H enc _ => lifted os started H enc)

end Go.Proofs.Ytmimfnbcffcdfaa.cardsRead
namespace Go.Proofs.Ytmimfnbcffcdfaa
theorem cardsRead_proved : Rows.CardsReadSaid := cardsRead.over
#print axioms cardsRead_proved
end Go.Proofs.Ytmimfnbcffcdfaa
