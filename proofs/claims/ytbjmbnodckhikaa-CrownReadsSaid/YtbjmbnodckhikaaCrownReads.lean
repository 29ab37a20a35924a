/-
  THE LAW CrownReads: the crown of any bytes, or that they are none's; there and back. It holds for every input.
-/
import Derived.Test.YtbjmbnodckhikaaKFrame
import Derived.Test.YtbjmbnodckhikaaKRefRead
namespace Go.Proofs.Ytbjmbnodckhikaa.crownReads
open Go.ChangeShapes Go.WideShapes Go.ChangeAt Go.RowKit
open Go.ChangeMaps (open_string shut_string)

theorem writeK_size (f b c : Int) : (writeK f b c).1.size ≤ 140737488355328 := by
  cases h : rightK f b c with
  | false => rw [writeK_no h]; exact Nat.zero_le _
  | true => rw [writeK_ok h, blockK_size h]; omega
/-- What the law asks of the crown that came in. -/
theorem there (f b c : Int) : (writeK f b c).2 = 1 ∨ (writeK f b c).2 = 0 ∧ fK (writeK f b c).1 = f ∧ bK (writeK f b c).1 = b ∧ cK (writeK f b c).1 = c ∧ eK (writeK f b c).1 = 0 := by
  cases h : rightK f b c with
  | false => left; rw [writeK_no h]
  | true =>
    right
    rw [writeK_ok h]
    obtain ⟨h1, h2, h3⟩ := back_k h
    simp only [fK, bK, cK, eK, ok_block h, h1, h2, h3, if_pos, and_self]
/-- What the law asks of the text that came in. -/
theorem here (s : ByteArray) : eK s = 15 ∨ eK s = 0 ∧ writeK (fK s) (bK s) (cK s) = (s, 0) := by
  cases h : okK s with
  | false => left; unfold eK; rw [h]; rfl
  | true =>
    right
    obtain ⟨h1, h2⟩ := okK_t h
    unfold eK fK bK cK
    rw [h]
    simp only [if_pos]
    rw [writeK_ok h1, h2]
    exact ⟨trivial, rfl⟩

set_option maxRecDepth 100000 in
set_option maxHeartbeats 4000000 in
theorem walk (f b c : Int) (s : ByteArray) (w : World) (_hc : I64 f ∧ I64 b ∧ I64 c) (hs : s.size ≤ 140737488355328) :
    Calls Try.prog 4 #[crv f b c, .string s] w fun e w' => e = .returned (.bool true) ∧ Below w.heap.size w w' := by
  have HX0 : Hid (KBox (w.alloc (.cells (cells3 f b c) 23)) w.heap.size f b c) := KBox.new _ _ _ _
  have HB0 : Hid (Below w.heap.size w (w.alloc (.cells (cells3 f b c) 23))) := (Below.refl _ _).alloc (Nat.le_refl _) _
  have HN : Hid (∀ (v : World) (f b c : Int), KBox (v.alloc (.cells #[.int .i64 f, .int .i64 b, .int .i64 c] 23)) v.heap.size f b c) := fun v f b c => KBox.new v f b c
  have HNB : Hid (∀ (v : World) (o : Obj), Below v.heap.size v (v.alloc o)) := fun v o => (Below.refl _ _).alloc (Nat.le_refl _) _
  have HRD := Lib.hid (fun v => read10_any s v hs)
  have HRR := Lib.hid (fun v => rread10_any s v hs)
  have HWR := Lib.hid (fun v => write10_any f b c v)
  have HRT := Lib.hid (fun v => read10_any (writeK f b c).1 v (writeK_size f b c))
  have HWA := Lib.hid (fun v => write10_any (fK s) (bK s) (cK s) v)
  have HT := Lib.hid (there f b c)
  have HH := Lib.hid (here s)
  unfold RetK at HRD HRR HRT
  unfold crv cells3 at *
  generalize writeK (fK s) (bK s) (cK s) = wa at *
  generalize fK s = A at *
  generalize bK s = B at *
  generalize cK s = C at *
  generalize eK s = E at *
  generalize (writeK f b c).2 = z at *
  generalize (writeK f b c).1 = t at *
  generalize fK t = A' at *
  generalize bK t = B' at *
  generalize cK t = C' at *
  generalize eK t = E' at *
  obtain ⟨u, y⟩ := wa
  simp only at HWA
  go_enter Try.func4, Try.ntmps4
  go_wp2_with fail
  refine (lives_any _).mono ?_
  rintro e w1 ⟨rfl, b1⟩
  have HX1 := Lib.hid (HX0.out.below b1 HX0.out.lt)
  have HB1 := Lib.hid (HB0.out.trans (b1.mono HB0.out.size))
  clear b1 HX0 HB0
  go_wp2_with fail
  refine (HRD.out _).mono ?_
  rintro e w2 ⟨rfl, b2⟩
  have HX2 := Lib.hid ((HX1.out.below b2 HX1.out.lt).below (HNB.out w2 (.cells #[.int .i64 A, .int .i64 B, .int .i64 C] 23)) (Nat.lt_of_lt_of_le HX1.out.lt b2.size))
  have HB2 := Lib.hid ((HB1.out.trans (b2.mono HB1.out.size)).alloc (Nat.le_trans HB1.out.size b2.size) (.cells #[.int .i64 A, .int .i64 B, .int .i64 C] 23))
  have HY2 := Lib.hid (HN.out w2 A B C)
  clear b2 HX1 HB1
  go_wp2_with fail
  generalize w2.alloc (.cells #[.int .i64 A, .int .i64 B, .int .i64 C] 23) = v2 at *
  generalize w2.heap.size = g2 at *
  refine (HRR.out _).mono ?_
  rintro e w3 ⟨rfl, b3⟩
  have hb3 := Lib.hid (HNB.out w3 (.cells #[.int .i64 A, .int .i64 B, .int .i64 C] 23))
  have HX3 := Lib.hid ((HX2.out.below b3 HX2.out.lt).below hb3.out (Nat.lt_of_lt_of_le HX2.out.lt b3.size))
  have HY3 := Lib.hid ((HY2.out.below b3 HY2.out.lt).below hb3.out (Nat.lt_of_lt_of_le HY2.out.lt b3.size))
  have HB3 := Lib.hid ((HB2.out.trans (b3.mono HB2.out.size)).alloc (Nat.le_trans HB2.out.size b3.size) (.cells #[.int .i64 A, .int .i64 B, .int .i64 C] 23))
  have HZ3 := Lib.hid (HN.out w3 A B C)
  clear b3 hb3 HX2 HY2 HB2
  have HV3 : Hid (∃ v3 : World, v3 = w3.alloc (.cells #[.int .i64 A, .int .i64 B, .int .i64 C] 23)) := ⟨_, rfl⟩
  obtain ⟨x0, x1, x2⟩ := HX3.out.row
  go_wp2_with fail
  generalize w3.alloc (.cells #[.int .i64 A, .int .i64 B, .int .i64 C] 23) = v3 at *
  generalize w3.heap.size = g3 at *
  refine (HWR.out _).mono ?_
  rintro e w4 ⟨rfl, b4⟩
  have HX4 := Lib.hid (HX3.out.below b4 HX3.out.lt)
  have HY4 := Lib.hid (HY3.out.below b4 HY3.out.lt)
  have HZ4 := Lib.hid (HZ3.out.below b4 HZ3.out.lt)
  have HB4 := Lib.hid (HB3.out.trans (b4.mono HB3.out.size))
  clear b4 HX3 HY3 HZ3 HB3 HV3 x0 x1 x2
  go_wp2_with fail
  refine (HRT.out _).mono ?_
  rintro e w5 ⟨rfl, b5⟩
  have hb5 := Lib.hid (HNB.out w5 (.cells #[.int .i64 A', .int .i64 B', .int .i64 C'] 23))
  have HX5 := Lib.hid ((HX4.out.below b5 HX4.out.lt).below hb5.out (Nat.lt_of_lt_of_le HX4.out.lt b5.size))
  have HY5 := Lib.hid ((HY4.out.below b5 HY4.out.lt).below hb5.out (Nat.lt_of_lt_of_le HY4.out.lt b5.size))
  have HZ5 := Lib.hid ((HZ4.out.below b5 HZ4.out.lt).below hb5.out (Nat.lt_of_lt_of_le HZ4.out.lt b5.size))
  have HB5 := Lib.hid ((HB4.out.trans (b5.mono HB4.out.size)).alloc (Nat.le_trans HB4.out.size b5.size) (.cells #[.int .i64 A', .int .i64 B', .int .i64 C'] 23))
  have HU5 := Lib.hid (HN.out w5 A' B' C')
  clear b5 hb5 HX4 HY4 HZ4 HB4
  obtain ⟨y0, y1, y2⟩ := HY5.out.row
  go_wp2_with fail
  generalize w5.alloc (.cells #[.int .i64 A', .int .i64 B', .int .i64 C'] 23) = v5 at *
  generalize w5.heap.size = g5 at *
  refine (HWA.out _).mono ?_
  rintro e w6 ⟨rfl, b6⟩
  have HX6 := Lib.hid (HX5.out.below b6 HX5.out.lt)
  have HY6 := Lib.hid (HY5.out.below b6 HY5.out.lt)
  have HZ6 := Lib.hid (HZ5.out.below b6 HZ5.out.lt)
  have HU6 := Lib.hid (HU5.out.below b6 HU5.out.lt)
  have HB6 := Lib.hid (HB5.out.trans (b6.mono HB5.out.size))
  clear b6 HX5 HY5 HZ5 HU5 HB5 y0 y1 y2 HRD HRR HWR HRT HWA HN HNB
  obtain ⟨x0, x1, x2⟩ := HX6.out.row
  obtain ⟨y0, y1, y2⟩ := HY6.out.row
  obtain ⟨z0, z1, z2⟩ := HZ6.out.row
  obtain ⟨u0, u1, u2⟩ := HU6.out.row
  clear HX6 HY6 HZ6 HU6
  rcases HT.out with rfl | ⟨rfl, rfl, rfl, rfl, rfl⟩
  all_goals
    rcases HH.out with rfl | ⟨rfl, h⟩
    · clear HT HH
      go_wp2
      go_ret
      exact ⟨rfl, HB6.out⟩
    · injection h with h1 h2
      subst h1 h2
      clear HT HH
      go_wp2
      go_ret
      exact ⟨rfl, HB6.out⟩


set_option maxRecDepth 100000 in
theorem lifted (os : Os) (started : os.Started) (H : Type) (enc : TypeId × Value → H) :
    ReturnsInHanded {} Try.checked os 4 .any (Rows.crownReadsSpec.pre6 enc Try.prog Try.f4 Rows.crownReadsRow.domain false) (Rows.crownReadsSpec.post enc Try.prog Try.f4 false true false false) := by
  refine returnsInHanded_of_change_sized (C := Try.checked) own started (by kernel_rfl) Try.func4
    (ChangeSpec.witness6 (enc := enc) (C := Try.checked) false ⟨#[], #[.agg #[.int .i64 0, .int .i64 0, .int .i64 0], .string ByteArray.empty], []⟩ 8 (by kernel_rfl) (by kernel_rfl) (by kernel_rfl) (by kernel_rfl)) ?_
  intro W base args ds gs before hval0 hW hcnd hsz0 _
  have hval : ∀ (j : Nat) t v, Try.f4.params[j]? = some t → args[j]? = some v → Value.okWide Try.prog W .any base t v := hval0
  have hsz : (DataW.weightsEach Try.prog (Try.f4.params.toList ++ Rows.crownReadsSpec.plain.varTypes Try.prog) (ds ++ gs)).all (· ≤ reachBytes) = true := hsz0
  have hW' := hW
  obtain ⟨p, q, hA0, hV, rfl, hfz, hnd⟩ := hW
  have hA : DataW.TrodAll enc Try.prog W 0 (fun _ => true) true Try.f4.params.toList args.toList ds p := hA0
  rw [Try.params4] at hA hval hsz
  obtain ⟨v0, vs0, d0, ds0, p0, q0, hargs, rfl, rfl, h0, r0⟩ := trodAll_cons hA
  obtain ⟨v1, vs1, d1, ds1, p1, q1, rfl, rfl, rfl, h1, r1⟩ := trodAll_cons r0
  obtain ⟨rfl, rfl, rfl⟩ := trodAll_nil r1
  obtain rfl : args = #[v0, v1] := by cases args; simp_all
  obtain ⟨rfl, rfl⟩ := trodVars_none hV
  have lt0 : ∀ x ∈ p0, x.block < W.heap.size := by obtain ⟨m, hm⟩ := h0; exact DataW.trod_lt m _ _ _ hm
  obtain ⟨f0, b0, c0, rfl, w0⟩ := cr_open (hval 0 23 v0 rfl rfl) h0
  obtain ⟨s1, rfl, rfl, rfl, hs1⟩ := open_string Try.underlying9 (hval 1 9 v1 rfl rfl) h1
  have b1 : s1.size ≤ 140737488355328 := by
    have := sized_string hsz (j := 1) (t := 9) rfl rfl
    rw [Array.length_toList] at this
    simp only [reachBytes] at this
    exact Nat.le_trans this (by decide)
  clear hA0 hval0
  refine (walk f0 b0 c0 s1 W w0 b1).mono fun e W' ⟨he, bel⟩ => ?_
  subst he
  exact ⟨_, rfl, _, _, _, [], _, [], hW', trodAll_mk1 (shut_bool Try.underlying4 _), (trodAll_cons_mk (Below.trod laidOut (by kernel_rfl) (of_decide_eq_true (by kernel_rfl)) h0 bel lt0) (trodAll_cons_mk (shut_string Try.underlying9 hs1) trodAll_mk0)), rfl, bel.frame _, fun h => by cases h⟩

theorem over : Rows.crownReadsRow.holds Try.pinned (OpenSpec.ofChange Rows.crownReadsSpec) :=
  OpenClaim.holds_of_wide 4 Try.f4 rfl rfl rfl rfl rfl rfl rfl ⟨rfl, rfl, rfl, rfl, rfl⟩ rfl rfl rfl rfl rfl (by kernel_rfl) Try.func4 (by kernel_rfl)
    (of_decide_eq_true (by kernel_rfl)) (by unfold Func.isWrapper; first | (rw [if_pos (by decide +kernel)]; kernel_rfl) | (rw [if_neg (by decide +kernel)]; exact ⟨rfl, rfl⟩))
    (fun os started H enc _ => lifted os started H enc)

end Go.Proofs.Ytbjmbnodckhikaa.crownReads
namespace Go.Proofs.Ytbjmbnodckhikaa
theorem crownReads_proved : Rows.CrownReadsSaid := crownReads.over
#print axioms crownReads_proved
end Go.Proofs.Ytbjmbnodckhikaa
