/-
  THE LAW CardsBack: what is written is read again; what is read is just what is written. It holds for every input.
-/
import Derived.Test.YtmimfnbcffcdfaaCFrame
namespace Go.Proofs.Ytmimfnbcffcdfaa.cardsBack
open Go.ChangeShapes Go.WideShapes Go.ChangeAt Go.RowKit
open Go.ChangeMaps (open_string shut_string)

set_option maxHeartbeats 4000000 in
theorem walk {v : Value} (c : Cd) (s : ByteArray) (w : World) (hc : CdAt w w.heap.size v c) (hs : s.size ≤ 140737488355328) : Calls Try.prog 5 #[v, .string s] w fun e w' => e = .returned (.bool true) ∧ Below w.heap.size w w' := by
  obtain ⟨A, n, k, A', n', k', rfl, i0, s0, bn, bn', f0⟩ := hc
  have HC0 : Hid (CdAt w w.heap.size (cdv c A n k A' n' k') c) := ⟨A, n, k, A', n', k', rfl, i0, s0, bn, bn', f0⟩
  have HW : Hid (∀ (v : Value) (u : World), CdAt u u.heap.size v c → Calls Try.prog 9 #[v] u fun e w' => e = .returned (.tuple #[.string (writeC c).1, .int .i64 (writeC c).2]) ∧ Below u.heap.size u w') := fun v u hc => write9_any v c _ u hc (Nat.le_refl _)
  obtain ⟨t, ht⟩ : ∃ t, t = (writeC c).1 := ⟨_, rfl⟩
  obtain ⟨z, hz⟩ : ∃ z, z = (writeC c).2 := ⟨_, rfl⟩
  obtain ⟨a, ha⟩ : ∃ a, a = (readC t).1 := ⟨_, rfl⟩
  obtain ⟨y, hy⟩ : ∃ y, y = (readC t).2 := ⟨_, rfl⟩
  obtain ⟨b, hb⟩ : ∃ b, b = (readC s).1 := ⟨_, rfl⟩
  obtain ⟨x, hx⟩ : ∃ x, x = (readC s).2 := ⟨_, rfl⟩
  have htz : t.size ≤ 32 := writeC_size2 (c := c) (t := t) (z := z) (by rw [ht, hz])
  have HR1 : Hid (∀ u : World, Calls Try.prog 13 #[.string t] u (RetCE u a y)) := fun u => by rw [ha, hy]; exact read9_any t u (by omega)
  have HR2 : Hid (∀ u : World, Calls Try.prog 13 #[.string s] u (RetCE u b x)) := fun u => by rw [hb, hx]; exact read9_any s u (by omega)
  have HWB : Hid (∀ (v : Value) (u : World), CdAt u u.heap.size v b → Calls Try.prog 9 #[v] u fun e w' => e = .returned (.tuple #[.string (writeC b).1, .int .i64 (writeC b).2]) ∧ Below u.heap.size u w') := fun v u hc => write9_any v b _ u hc (Nat.le_refl _)
  have HK1 : Hid (z = 0 ∧ y = 0 ∧ a = c ∨ z = 1) := by
    cases hr : rightC c with
    | false => exact Or.inr (by rw [hz, writeC_no hr])
    | true =>
      have h := read_back hr
      rw [← ht] at h
      exact Or.inl ⟨by rw [hz, writeC_ok hr], by rw [hy, h], by rw [ha, h]⟩
  have HK2 : Hid (x = 0 ∧ writeC b = (s, 0) ∨ (x != 0) = true) := by
    by_cases h : x = 0
    · exact Or.inl ⟨h, by rw [hb]; exact read_ok (by rw [← hx]; exact h)⟩
    · exact Or.inr (bne_iff_ne.2 h)
  rw [← ht, ← hz] at HW
  generalize hu : (writeC b).1 = u' at *
  generalize hp : (writeC b).2 = p' at *
  have HU := Lib.hid hu
  have HP := Lib.hid hp
  clear i0 s0 bn bn' f0 ht hz ha hy hb hx hu hp
  go_enter Try.func5, Try.ntmps5
  go_wp2_with fail
  have HG1 : Hid (CdRow (w.alloc (.cells (cells9 c A n k A' n' k') 25)) w.heap.size c A n k A' n' k') := CdRow.new w c A n k A' n' k'
  have b1 : Below w.heap.size w (w.alloc (.cells (cells9 c A n k A' n' k') 25)) := (Below.refl _ _).alloc (Nat.le_refl _) _
  have HC1 := Lib.hid ((HC0.out.below b1 (Nat.le_refl _)).more b1.size)
  have HB1 := Lib.hid b1
  clear b1 HC0
  unfold cells9 at HG1 HC1 HB1
  generalize w.alloc (.cells #[.int .i64 c.fm, .int .i64 c.kd, .int .i64 c.ln, .int .i64 c.sz, .slice A n k, .int .i64 c.sg, .int .i64 c.db, .slice A' n' k', .int .i64 c.ov] 25) = w1 at *
  refine (lives_any _).mono ?_
  rintro e w2 ⟨rfl, b2⟩
  have HG2 := Lib.hid (HG1.out.below b2 HG1.out.lt)
  have HC2 := Lib.hid ((HC1.out.below b2 (Nat.le_refl _)).more b2.size)
  have HB2 := Lib.hid (HB1.out.trans (b2.mono HB1.out.size))
  clear b2 HG1 HC1 HB1
  obtain ⟨e0, e1, e2, e3, e4, e5, e6, e7, e8⟩ := HG2.out.cells
  go_wp2_with fail
  refine (HW.out _ _ HC2.out).mono ?_
  rintro e w3 ⟨rfl, b3⟩
  have HG3 := Lib.hid (HG2.out.below b3 HG2.out.lt)
  have HC3 := Lib.hid ((HC2.out.below b3 (Nat.le_refl _)).more b3.size)
  have HB3 := Lib.hid (HB2.out.trans (b3.mono HB2.out.size))
  clear b3 HG2 HC2 HB2 e0 e1 e2 e3 e4 e5 e6 e7 e8
  go_wp2_with fail
  refine (HR1.out _).mono ?_
  rintro e w4 ⟨v4, rfl, hc4, b4⟩
  obtain ⟨C, m, l, C', m', l', rfl, i4, s4, bm, bm', f4⟩ := hc4
  have HD4 : Hid (CdAt w4 w4.heap.size (cdv a C m l C' m' l') a) := ⟨C, m, l, C', m', l', rfl, i4, s4, bm, bm', f4⟩
  have HG4 := Lib.hid (HG3.out.below b4 HG3.out.lt)
  have HC4 := Lib.hid ((HC3.out.below b4 (Nat.le_refl _)).more b4.size)
  have HB4 := Lib.hid (HB3.out.trans (b4.mono HB3.out.size))
  clear b4 HG3 HC3 HB3 i4 s4 bm bm' f4
  go_upto_region 5 with fail
  have HE5 : Hid (CdRow (w4.alloc (.cells (cells9 a C m l C' m' l') 25)) w4.heap.size a C m l C' m' l') := CdRow.new w4 a C m l C' m' l'
  have b5 : Below w4.heap.size w4 (w4.alloc (.cells (cells9 a C m l C' m' l') 25)) := (Below.refl _ _).alloc (Nat.le_refl _) _
  have HG5 := Lib.hid (HG4.out.below b5 HG4.out.lt)
  have HC5 := Lib.hid ((HC4.out.below b5 (Nat.le_refl _)).more b5.size)
  have HD5 := Lib.hid ((HD4.out.below b5 (Nat.le_refl _)).more b5.size)
  have HB5 := Lib.hid (HB4.out.trans (b5.mono HB4.out.size))
  clear b5 HG4 HC4 HB4 HD4
  unfold cells9 at HE5 HG5 HC5 HB5 HD5
  generalize w4.alloc (.cells #[.int .i64 a.fm, .int .i64 a.kd, .int .i64 a.ln, .int .i64 a.sz, .slice C m l, .int .i64 a.sg, .int .i64 a.db, .slice C' m' l', .int .i64 a.ov] 25) = w5 at *
  generalize w4.heap.size = g' at *
  have HFIN : Hid (∀ w6 : World, Below w.heap.size w w6 → Calls Try.prog 13 #[.string s] w6 (RetCE w6 b x)) := fun w6 _ => HR2.out w6
  rcases HK1.out with ⟨rfl, rfl, rfl⟩ | rfl
  · obtain ⟨e0, e1, e2, e3, e4, e5, e6, e7, e8⟩ := HG5.out.cells
    obtain ⟨q0, q1, q2, q3, q4, q5, q6, q7, q8⟩ := HE5.out.cells
    go_wp2_with fail
    refine (same_any _ _ a a _ true w5 (by simp) HD5.out HC5.out (Nat.le_refl _)).mono ?_
    rintro e w6 ⟨rfl, b6⟩
    have HB6 := Lib.hid (HB5.out.trans (b6.mono HB5.out.size))
    clear b6 e0 e1 e2 e3 e4 e5 e6 e7 e8 q0 q1 q2 q3 q4 q5 q6 q7 q8
    go_wp2_with fail
    refine (HR2.out _).mono ?_
    rintro e w7 ⟨v7, rfl, hc7, b7⟩
    obtain ⟨D, d, o, D', d', o', rfl, i7, s7, bd, bd', f7⟩ := hc7
    have HD7 : Hid (CdAt w7 w7.heap.size (cdv b D d o D' d' o') b) := ⟨D, d, o, D', d', o', rfl, i7, s7, bd, bd', f7⟩
    have HB7 := Lib.hid (HB6.out.trans (b7.mono HB6.out.size))
    clear b7 i7 s7 bd bd' f7 HB6
    go_upto_region 8 with fail
    have HE8 : Hid (CdRow (w7.alloc (.cells (cells9 b D d o D' d' o') 25)) w7.heap.size b D d o D' d' o') := CdRow.new w7 b D d o D' d' o'
    have b8 : Below w7.heap.size w7 (w7.alloc (.cells (cells9 b D d o D' d' o') 25)) := (Below.refl _ _).alloc (Nat.le_refl _) _
    have HD8 := Lib.hid ((HD7.out.below b8 (Nat.le_refl _)).more b8.size)
    have HB8 := Lib.hid (HB7.out.trans (b8.mono HB7.out.size))
    clear b8 HD7 HB7
    unfold cells9 at HE8 HD8 HB8
    generalize w7.alloc (.cells #[.int .i64 b.fm, .int .i64 b.kd, .int .i64 b.ln, .int .i64 b.sz, .slice D d o, .int .i64 b.sg, .int .i64 b.db, .slice D' d' o', .int .i64 b.ov] 25) = w8 at *
    generalize w7.heap.size = g8 at *
    obtain ⟨e0, e1, e2, e3, e4, e5, e6, e7, e8⟩ := HE8.out.cells
    go_wp2_with fail
    refine (HWB.out _ _ HD8.out).mono ?_
    rintro e w9 ⟨rfl, b9⟩
    have HB9 := Lib.hid (HB8.out.trans (b9.mono HB8.out.size))
    clear b9 e0 e1 e2 e3 e4 e5 e6 e7 e8
    rcases HK2.out with ⟨rfl, hwb⟩ | hx0
    · rw [hwb] at HU HP
      obtain rfl : s = u' := HU.out
      obtain rfl : 0 = p' := HP.out
      clear hwb
      go_wp2
      go_ret
      exact ⟨rfl, HB9.out⟩
    · go_wp2
      go_ret
      exact ⟨rfl, HB9.out⟩
  · have HB6 := Lib.hid HB5.out
    generalize hw6 : w5 = w6 at *
    clear hw6
    go_wp2_with fail
    refine (HR2.out _).mono ?_
    rintro e w7 ⟨v7, rfl, hc7, b7⟩
    obtain ⟨D, d, o, D', d', o', rfl, i7, s7, bd, bd', f7⟩ := hc7
    have HD7 : Hid (CdAt w7 w7.heap.size (cdv b D d o D' d' o') b) := ⟨D, d, o, D', d', o', rfl, i7, s7, bd, bd', f7⟩
    have HB7 := Lib.hid (HB6.out.trans (b7.mono HB6.out.size))
    clear b7 i7 s7 bd bd' f7 HB6
    go_upto_region 8 with fail
    have HE8 : Hid (CdRow (w7.alloc (.cells (cells9 b D d o D' d' o') 25)) w7.heap.size b D d o D' d' o') := CdRow.new w7 b D d o D' d' o'
    have b8 : Below w7.heap.size w7 (w7.alloc (.cells (cells9 b D d o D' d' o') 25)) := (Below.refl _ _).alloc (Nat.le_refl _) _
    have HD8 := Lib.hid ((HD7.out.below b8 (Nat.le_refl _)).more b8.size)
    have HB8 := Lib.hid (HB7.out.trans (b8.mono HB7.out.size))
    clear b8 HD7 HB7
    unfold cells9 at HE8 HD8 HB8
    generalize w7.alloc (.cells #[.int .i64 b.fm, .int .i64 b.kd, .int .i64 b.ln, .int .i64 b.sz, .slice D d o, .int .i64 b.sg, .int .i64 b.db, .slice D' d' o', .int .i64 b.ov] 25) = w8 at *
    generalize w7.heap.size = g8 at *
    obtain ⟨e0, e1, e2, e3, e4, e5, e6, e7, e8⟩ := HE8.out.cells
    go_wp2_with fail
    refine (HWB.out _ _ HD8.out).mono ?_
    rintro e w9 ⟨rfl, b9⟩
    have HB9 := Lib.hid (HB8.out.trans (b9.mono HB8.out.size))
    clear b9 e0 e1 e2 e3 e4 e5 e6 e7 e8
    rcases HK2.out with ⟨rfl, hwb⟩ | hx0
    · rw [hwb] at HU HP
      obtain rfl : s = u' := HU.out
      obtain rfl : 0 = p' := HP.out
      clear hwb
      go_wp2
      go_ret
      exact ⟨rfl, HB9.out⟩
    · go_wp2
      go_ret
      exact ⟨rfl, HB9.out⟩

set_option maxRecDepth 100000 in
theorem lifted (os : Os) (started : os.Started) (H : Type) (enc : TypeId × Value → H) :
    ReturnsInHanded {} Try.checked os 5 .any (Rows.cardsBackSpec.pre6 enc Try.prog Try.f5 Rows.cardsBackRow.domain false) (Rows.cardsBackSpec.post enc Try.prog Try.f5 false true false false) := by
  refine returnsInHanded_of_change_sized (C := Try.checked) own started (by kernel_rfl) Try.func5
    (ChangeSpec.witness6 (enc := enc) (C := Try.checked) false ⟨#[], #[.agg #[.int .i64 0, .int .i64 0, .int .i64 0, .int .i64 0, .slice none 0 0, .int .i64 0, .int .i64 0, .slice none 0 0, .int .i64 0], .string ByteArray.empty], []⟩ 8 (by kernel_rfl) (by kernel_rfl) (by kernel_rfl) (by kernel_rfl)) ?_
  intro W base args ds gs before hval0 hW hcnd hsz0 _
  have hval : ∀ (j : Nat) t v, Try.f5.params[j]? = some t → args[j]? = some v → Value.okWide Try.prog W .any base t v := hval0
  have hsz : (DataW.weightsEach Try.prog (Try.f5.params.toList ++ Rows.cardsBackSpec.plain.varTypes Try.prog) (ds ++ gs)).all (· ≤ reachBytes) = true := hsz0
  have hW' := hW
  obtain ⟨p, q, hA0, hV, rfl, hfz, hnd⟩ := hW
  have hA : DataW.TrodAll enc Try.prog W 0 (fun _ => true) true Try.f5.params.toList args.toList ds p := hA0
  rw [Try.params5] at hA hval hsz
  obtain ⟨v0, vs0, d0, ds0, p0, q0, hargs, rfl, rfl, h0, r0⟩ := trodAll_cons hA
  obtain ⟨v1, vs1, d1, ds1, p1, q1, rfl, rfl, rfl, h1, r1⟩ := trodAll_cons r0
  obtain ⟨rfl, rfl, rfl⟩ := trodAll_nil r1
  obtain rfl : args = #[v0, v1] := by cases args; simp_all
  obtain ⟨rfl, rfl⟩ := trodVars_none hV
  have lt0 : ∀ x ∈ p0, x.block < W.heap.size := by obtain ⟨m, hm⟩ := h0; exact DataW.trod_lt m _ _ _ hm
  obtain ⟨c0, -, w0⟩ := cd_open (hval 0 25 v0 rfl rfl) h0
  obtain ⟨s1, rfl, rfl, rfl, hs1⟩ := open_string Try.underlying9 (hval 1 9 v1 rfl rfl) h1
  have b1 : s1.size ≤ 140737488355328 := by
    have := sized_string hsz (j := 1) (t := 9) rfl rfl
    rw [Array.length_toList] at this
    simp only [reachBytes] at this
    exact Nat.le_trans this (by decide)
  clear hA0 hval0
  refine (walk c0 s1 W w0 b1).mono fun e W' ⟨he, bel⟩ => ?_
  subst he
  exact ⟨_, rfl, _, _, _, [], _, [], hW', trodAll_mk1 (shut_bool Try.underlying4 _), (trodAll_cons_mk (Below.trod laidOut (by kernel_rfl) (of_decide_eq_true (by kernel_rfl)) h0 bel lt0) (trodAll_cons_mk (shut_string Try.underlying9 hs1) trodAll_mk0)), rfl, bel.frame _, fun h => by cases h⟩

theorem over : Rows.cardsBackRow.holds Try.pinned (OpenSpec.ofChange Rows.cardsBackSpec) :=
  OpenClaim.holds_of_wide 5 Try.f5 rfl rfl rfl rfl rfl rfl rfl ⟨rfl, rfl, rfl, rfl, rfl⟩ rfl rfl rfl rfl rfl (by kernel_rfl) Try.func5 (by kernel_rfl)
    (of_decide_eq_true (by kernel_rfl)) (by unfold Func.isWrapper; first | (rw [if_pos (by decide +kernel)]; kernel_rfl) | (rw [if_neg (by decide +kernel)]; exact ⟨rfl, rfl⟩))
    (fun os started H enc _ => lifted os started H enc)

end Go.Proofs.Ytmimfnbcffcdfaa.cardsBack
namespace Go.Proofs.Ytmimfnbcffcdfaa
theorem cardsBack_proved : Rows.CardsBackSaid := cardsBack.over
#print axioms cardsBack_proved
end Go.Proofs.Ytmimfnbcffcdfaa
