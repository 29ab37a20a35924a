/-
  LadderLists: a list's block, or why there is none, and the list of any bytes, are what the document says; there and back. No condition beside the form's own reach.
-/
import Derived.Test.YtiknbbkblldjiaaLists
namespace Go.Proofs.Ytiknbbkblldjiaa.ladderLists
open Go.ChangeShapes Go.WideShapes Go.ChangeAt Go.RowKit
open Go.ChangeMaps (open_string shut_string)

theorem readL_which (s : ByteArray) : (readL s).2 = 0 ∨ (readL s).2 = 15 := by
  unfold readL
  split
  · exact .inl rfl
  · exact .inr rfl

set_option maxHeartbeats 4000000 in
theorem walk (A : Option Addr) (n c : Nat) (l : List Int) (s : ByteArray) (w : World) (hr : IntsAt w w.heap.size A n l) (hn : n ≤ 17592186044416) (hs : s.size ≤ 140737488355328) :
    Calls Try.prog 7 #[.slice A n c, .string s] w fun e w' => e = .returned (.bool true) ∧ Below w.heap.size w w' := by
  have HA := Lib.hid hr
  have HRB := Lib.hid (read_back l)
  have HWB := Lib.hid (write_back s)
  have HGW := Lib.hid (readL_which s)
  have HL8 := Lib.hid (readL_len s)
  have hts := writeL_size l
  clear hr
  go_enter Try.func7, Try.ntmps7
  go_wp2_with fail
  refine (lives_any w).mono ?_
  rintro e w1 ⟨rfl, b1⟩
  have HA1 := Lib.hid (HA.out.below b1 (Nat.le_refl _))
  have HB1 := Lib.hid b1
  have hz1 := b1.size
  clear b1
  go_wp2_with fail
  refine (lwrite_any A n c w.heap.size l w1 HA1.out hz1 (by omega)).mono ?_
  rintro e w2 ⟨rfl, b2⟩
  have HA2 := Lib.hid (HA1.out.below b2 hz1)
  have HB2 := Lib.hid (HB1.out.trans (b2.mono hz1))
  have hz2 := HB2.out.size
  clear b2 HA1
  generalize hta : (writeL l).1 = ta at *
  generalize hea : (writeL l).2 = ea at *
  have HW : Hid (∀ w', IntsAt w' w.heap.size A n l → w.heap.size ≤ w'.heap.size → Calls Try.prog 20 #[.slice A n c] w' fun e w'' => e = .returned (.tuple #[.string ta, .int .i64 ea]) ∧ Below w'.heap.size w' w'') := fun w' h1 h2 => by
    have := rwrite2_any A n c w.heap.size l w' h1 h2 (by omega)
    rwa [hta, hea] at this
  clear hta hea
  go_wp2_with fail
  refine (HW.out w2 HA2.out hz2).mono ?_
  rintro e w3 ⟨rfl, b3⟩
  have HA3 := Lib.hid (HA2.out.below b3 hz2)
  have HB3 := Lib.hid (HB2.out.trans (b3.mono hz2))
  have hz3 := HB3.out.size
  clear b3 HA2 HW
  go_wp2_with fail
  refine (lread_any s w3 hs).mono ?_
  rintro e w4 ⟨A4, n4, c4, rfl, hi4, b4⟩
  have HA4 := Lib.hid (HA3.out.below b4 hz3)
  have HB4 := Lib.hid (HB3.out.trans (b4.mono hz3))
  have hz4 := HB4.out.size
  have hn4 : n4 ≤ 8 := by rw [← hi4.len]; exact HL8.out
  have HI4 := Lib.hid hi4
  clear b4 HA3 hi4
  have HRD := Lib.hid (fun w' => rread2_any s w' hs)
  unfold RetRead at HRD
  generalize hlc : (readL s).1 = lc at *
  generalize hgc : (readL s).2 = gc at *
  have HGC := Lib.hid hgc
  clear hlc hgc
  go_wp2_with fail
  refine (HRD.out w4).mono ?_
  rintro e w5 ⟨A5, n5, c5, rfl, hi5, b5⟩
  obtain rfl : n5 = n4 := by rw [← hi5.len, ← HI4.out.len]
  have HA5 := Lib.hid (HA4.out.below b5 hz4)
  have HB5 := Lib.hid (HB4.out.trans (b5.mono hz4))
  have hz5 := HB5.out.size
  have HI45 := Lib.hid ((HI4.out.below b5 (Nat.le_refl _)).more b5.size)
  have HI5 := Lib.hid hi5
  clear b5 HA4 HI4 hi5 HRD
  go_wp2_with fail
  refine (lread_any ta w5 (by omega)).mono ?_
  rintro e w6 ⟨A6, n6, c6, rfl, hi6, b6⟩
  have HA6 := Lib.hid (HA5.out.below b6 hz5)
  have HB6 := Lib.hid (HB5.out.trans (b6.mono hz5))
  have hz6 := HB6.out.size
  have HI46 := Lib.hid ((HI45.out.below b6 (Nat.le_refl _)).more b6.size)
  have HI56 := Lib.hid ((HI5.out.below b6 (Nat.le_refl _)).more b6.size)
  have HI6 := Lib.hid hi6
  clear b6 HA5 HI45 HI5 hi6
  go_wp2_with fail
  refine (lwrite_any A4 n5 c4 w6.heap.size lc w6 HI46.out (Nat.le_refl _) (by omega)).mono ?_
  rintro e w7 ⟨rfl, b7⟩
  have HA7 := Lib.hid (HA6.out.below b7 hz6)
  have HB7 := Lib.hid (HB6.out.trans (b7.mono hz6))
  have hz7 := HB7.out.size
  have HI47 := Lib.hid ((HI46.out.below b7 (Nat.le_refl _)).more b7.size)
  have HI57 := Lib.hid ((HI56.out.below b7 (Nat.le_refl _)).more b7.size)
  have HI67 := Lib.hid ((HI6.out.below b7 (Nat.le_refl _)).more b7.size)
  clear b7 HA6 HI46 HI56 HI6
  have HS1 := Lib.hid (same_ints A4 A5 n5 c4 c5 _ _ lc w7 HI47.out HI57.out (by omega))
  by_cases he : ea = 0
  · subst he
    have hb1 := HRB.out rfl
    rw [hb1] at HI67 ⊢
    obtain rfl : n6 = n := by rw [← HI67.out.len, ← HA.out.len]
    clear hb1
    by_cases hg : gc = 0
    · subst hg
      have hb2 := HWB.out rfl
      rw [hb2]
      clear hb2 HWB HRB HGC HGW
      go_wp2_with fail
      refine HS1.out.mono ?_
      rintro e w8 ⟨rfl, d8⟩
      have HX8 := Lib.hid (HI67.out.keep fun p _ => d8.cells p)
      have HA8 := Lib.hid (HA7.out.keep fun p _ => d8.cells p)
      have HB8 := Lib.hid (Below.drews HB7.out d8)
      clear d8
      go_wp2_with fail
      refine (same_ints A6 A n6 c6 c _ _ l w8 HX8.out HA8.out (by omega)).mono ?_
      rintro e w9 ⟨rfl, d9⟩
      have HB9 := Lib.hid (Below.drews HB8.out d9)
      clear d9
      go_wp2
      go_ret
      exact ⟨rfl, HB9.out⟩
    · have hg' : (gc != 0) = true := bne_iff_ne.2 hg
      clear HWB HRB HGC HGW
      generalize (writeL lc).1 = ty at *
      generalize (writeL lc).2 = ey at *
      go_wp2_with fail
      refine HS1.out.mono ?_
      rintro e w8 ⟨rfl, d8⟩
      have HX8 := Lib.hid (HI67.out.keep fun p _ => d8.cells p)
      have HA8 := Lib.hid (HA7.out.keep fun p _ => d8.cells p)
      have HB8 := Lib.hid (Below.drews HB7.out d8)
      clear d8
      go_wp2_with fail
      refine (same_ints A6 A n6 c6 c _ _ l w8 HX8.out HA8.out (by omega)).mono ?_
      rintro e w9 ⟨rfl, d9⟩
      have HB9 := Lib.hid (Below.drews HB8.out d9)
      clear d9
      go_wp2
      go_ret
      exact ⟨rfl, HB9.out⟩
  · have he' : (ea != 0) = true := bne_iff_ne.2 he
    generalize (readL ta).2 = ei at *
    by_cases hg : gc = 0
    · subst hg
      have hb2 := HWB.out rfl
      rw [hb2]
      clear hb2 HWB HRB HGC HGW
      go_wp2_with fail
      refine HS1.out.mono ?_
      rintro e w8 ⟨rfl, d8⟩
      have HB8 := Lib.hid (Below.drews HB7.out d8)
      clear d8
      go_wp2
      go_ret
      exact ⟨rfl, HB8.out⟩
    · have hg' : (gc != 0) = true := bne_iff_ne.2 hg
      clear HWB HRB HGC HGW
      generalize (writeL lc).1 = ty at *
      generalize (writeL lc).2 = ey at *
      go_wp2_with fail
      refine HS1.out.mono ?_
      rintro e w8 ⟨rfl, d8⟩
      have HB8 := Lib.hid (Below.drews HB7.out d8)
      clear d8
      go_wp2
      go_ret
      exact ⟨rfl, HB8.out⟩

set_option maxRecDepth 100000 in
theorem lifted (os : Os) (started : os.Started) (H : Type) (enc : TypeId × Value → H) :
    ReturnsInHanded {} Try.checked os 7 .any (Rows.ladderListsSpec.pre6 enc Try.prog Try.f7 Rows.ladderListsRow.domain false) (Rows.ladderListsSpec.post enc Try.prog Try.f7 false true false false) := by
  refine returnsInHanded_of_change_sized (C := Try.checked) own started (by kernel_rfl) Try.func7
    (ChangeSpec.witness6 (enc := enc) (C := Try.checked) false ⟨#[], #[.slice none 0 0, .string ByteArray.empty], []⟩ 8 (by kernel_rfl) (by kernel_rfl) (by kernel_rfl) (by kernel_rfl)) ?_
  intro W base args ds gs before hval0 hW hcnd hsz0 _
  have hval : ∀ (j : Nat) t v, Try.f7.params[j]? = some t → args[j]? = some v → Value.okWide Try.prog W .any base t v := hval0
  have hsz : (DataW.weightsEach Try.prog (Try.f7.params.toList ++ Rows.ladderListsSpec.plain.varTypes Try.prog) (ds ++ gs)).all (· ≤ reachBytes) = true := hsz0
  have hW' := hW
  obtain ⟨p, q, hA0, hV, rfl, hfz, hnd⟩ := hW
  have hA : DataW.TrodAll enc Try.prog W 0 (fun _ => true) true Try.f7.params.toList args.toList ds p := hA0
  rw [Try.params7] at hA hval hsz
  obtain ⟨v0, vs0, d0, ds0, p0, q0, hargs, rfl, rfl, h0, r0⟩ := trodAll_cons hA
  obtain ⟨v1, vs1, d1, ds1, p1, q1, rfl, rfl, rfl, h1, r1⟩ := trodAll_cons r0
  obtain ⟨rfl, rfl, rfl⟩ := trodAll_nil r1
  obtain rfl : args = #[v0, v1] := by cases args; simp_all
  obtain ⟨rfl, rfl⟩ := trodVars_none hV
  have lt0 : ∀ x ∈ p0, x.block < W.heap.size := by obtain ⟨m, hm⟩ := h0; exact DataW.trod_lt m _ _ _ hm
  obtain ⟨a0, len0, cap0, rfl⟩ := okWide_slice Try.underlying22 (hval 0 22 v0 rfl rfl)
  obtain ⟨z0, w0, b0⟩ := row_open h0 (fun elems spare hd => sized_slice hsz (j := 0) (t := 22) (e := 3) rfl (by rw [hd]; rfl) Try.underlying22)
  obtain ⟨s1, rfl, rfl, rfl, hs1⟩ := open_string Try.underlying9 (hval 1 9 v1 rfl rfl) h1
  have b1 : s1.size ≤ 140737488355328 := by
    have := sized_string hsz (j := 1) (t := 9) rfl rfl
    rw [Array.length_toList] at this
    simp only [reachBytes] at this
    exact Nat.le_trans this (by decide)
  clear hA0 hval0
  refine (walk a0 len0 cap0 z0 s1 W w0 b0 b1).mono fun e W' ⟨he, bel⟩ => ?_
  subst he
  exact ⟨_, rfl, _, _, _, [], _, [], hW', trodAll_mk1 (shut_bool Try.underlying4 _), (trodAll_cons_mk (Below.trod laidOut (by kernel_rfl) (of_decide_eq_true (by kernel_rfl)) h0 bel lt0) (trodAll_cons_mk (shut_string Try.underlying9 hs1) trodAll_mk0)), rfl, bel.frame _, fun h => by cases h⟩

theorem over : Rows.ladderListsRow.holds Try.pinned (OpenSpec.ofChange Rows.ladderListsSpec) :=
  OpenClaim.holds_of_wide 7 Try.f7 rfl rfl rfl rfl rfl rfl rfl ⟨rfl, rfl, rfl, rfl, rfl⟩ rfl rfl rfl rfl rfl (by kernel_rfl) Try.func7 (by kernel_rfl)
    (of_decide_eq_true (by kernel_rfl)) (by unfold Func.isWrapper; first | (rw [if_pos (by decide +kernel)]; kernel_rfl) | (rw [if_neg (by decide +kernel)]; exact ⟨rfl, rfl⟩))
    (fun os started H enc _ => lifted os started H enc)

end Go.Proofs.Ytiknbbkblldjiaa.ladderLists
namespace Go.Proofs.Ytiknbbkblldjiaa
theorem ladderLists_proved : Rows.LadderListsSaid := ladderLists.over
#print axioms ladderLists_proved
end Go.Proofs.Ytiknbbkblldjiaa
