/-
  THE LAW CrownMarks: the marks of a disk without files; just the blocks that files may have aren't used. It holds for every input.
-/
import Derived.Test.YtbjmbnodckhikaaKFrame
import Derived.Test.YtbjmbnodckhikaaKRefMarks
import Derived.Test.YtbjmbnodckhikaaMCount
namespace Go.Proofs.Ytbjmbnodckhikaa.crownMarks
open Go.ChangeShapes Go.WideShapes Go.ChangeAt Go.RowKit
open Go.ChangeMaps (open_string shut_string)

/-! ### the bits of the marks -/
theorem bit_zero (t : Nat) (h : t < 1024) : bitN (padS ⟨#[]⟩ 128) t = false := by
  unfold bitN
  rw [if_pos (by rw [size_padS _ _ (Nat.zero_le _)]; omega)]
  have : byteN (padS ⟨#[]⟩ 128) (t / 8) = 0 := by
    unfold byteN padS
    rw [List.toList_toArray, List.nil_append, List.getD, List.getElem?_replicate]
    split <;> rfl
  rw [this]
  simp
theorem bit_mkTo (n : Int) : ∀ j, j ≤ 1024 → ∀ t, t < 1024 → bitN (mkTo n j) t = decide (t < j ∧ (t < 51 ∨ n ≤ t))
  | 0, _, t, ht => by rw [mkTo, bit_zero t ht]; simp
  | j + 1, hj, t, ht => by
    by_cases hc : j < 51 ∨ n ≤ j
    · rw [mkTo_set hc, bit_setN _ _ _ _ (by rw [mkTo_size]; omega)]
      by_cases e : t = j
      · rw [if_pos e]; subst e; simp [hc]
      · rw [if_neg e, bit_mkTo n j (by omega) t ht]
        congr 1
        rw [eq_iff_iff]
        omega
    · rw [mkTo_not hc, bit_mkTo n j (by omega) t ht]
      congr 1
      rw [eq_iff_iff]
      omega
theorem bit_marks (n : Int) (t : Nat) (h : t < 1024) : bitN (marksK n) t = decide (t < 51 ∨ n ≤ t) := by
  unfold marksK
  rw [bit_mkTo n 1024 (Nat.le_refl _) t h]
  congr 1
  rw [eq_iff_iff]
  omega
theorem bit_far (n : Int) (t : Nat) (h : 1024 ≤ t) : bitN (marksK n) t = true := by
  unfold bitN marksK
  rw [if_neg (by rw [mkTo_size]; omega)]
theorem cnt_marks (n : Int) (hn : 51 ≤ n) : ∀ N, N ≤ 1024 → (cnt (marksK n) N : Int) = if (N : Int) ≤ 51 then (N : Int) else if (N : Int) ≤ n then 51 else 51 + (N - n)
  | 0, _ => by simp [cnt]
  | N + 1, h => by
    have ih := cnt_marks n hn N (by omega)
    unfold cnt
    rw [bit_marks n N (by omega)]
    by_cases h1 : N < 51
    · rw [if_pos (by simp [h1]), if_pos (by omega)]
      rw [if_pos (by omega)] at ih
      omega
    · by_cases h2 : n ≤ N
      · rw [if_pos (by simp [h2]), if_neg (by omega), if_neg (by omega)]
        by_cases h3 : (N : Int) ≤ 51
        · rw [if_pos h3] at ih; omega
        · rw [if_neg h3] at ih
          by_cases h4 : (N : Int) ≤ n
          · rw [if_pos h4] at ih; omega
          · rw [if_neg h4] at ih; omega
      · rw [if_neg (by simp; omega), if_neg (by omega), if_pos (by omega)]
        by_cases h3 : (N : Int) ≤ 51
        · rw [if_pos h3] at ih; omega
        · rw [if_neg h3, if_pos (by omega)] at ih; omega
theorem count_marks (n : Int) (hn : 51 ≤ n) (h : n ≤ 1024) : cntR (marksK n) 1024 = 1024 - (n - 51) := by
  unfold cntR
  have := cnt_marks n hn 1024 (Nat.le_refl _)
  rw [show (min (1024 : Int) 100000).toNat = 1024 by omega, this]
  rw [if_neg (by omega)]
  split <;> omega
theorem is_marks (n k : Int) (hn : 51 ≤ n ∧ n ≤ 1024) : isB (marksK n) k = !(decide (51 ≤ k) && decide (k < n)) := by
  unfold isB
  by_cases h0 : 0 ≤ k
  · rw [if_pos h0]
    obtain ⟨t, rfl⟩ := Int.eq_ofNat_of_zero_le h0
    rw [Int.toNat_natCast]
    by_cases h1 : t < 1024
    · rw [bit_marks n t h1, Bool.eq_iff_iff]
      simp
      omega
    · rw [bit_far n t (by omega), Bool.eq_iff_iff]
      simp
      omega
  · rw [if_neg h0, Bool.eq_iff_iff]
    simp
    omega
theorem marks_size (n : Int) : (marksK n).size = 128 := mkTo_size n 1024

theorem quiet_drew {P : Program} {f : FuncId} {args : Array Value} {w : World} {n : Nat} {v : Value}
    (h : Calls P f args (w.drewN n) fun e w' => e = .returned v ∧ Drew (w.drewN n) w') : Calls P f args (w.drewN n) fun e w'' => e = .returned v ∧ ∃ m, w'' = w.drewN m :=
  h.mono fun _ _ ⟨he, m, hm⟩ => ⟨he, n + m, by rw [hm, World.drewN_drewN]⟩

set_option maxRecDepth 100000 in
set_option maxHeartbeats 4000000 in
theorem walk (n f b c k : Int) (w : World) (hn : -9223372036854775808 ≤ n ∧ n ≤ 9223372036854775807) (hc : I64 f ∧ I64 b ∧ I64 c) (hk : -9223372036854775808 ≤ k ∧ k ≤ 9223372036854775807) :
    Calls Try.prog 6 #[.int .i64 n, crv f b c, .int .i64 k] w fun e w' => e = .returned (.bool true) ∧ Below w.heap.size w w' := by
  have HX0 : Hid (KBox (w.alloc (.cells (cells3 f b c) 23)) w.heap.size f b c) := KBox.new _ _ _ _
  have HB0 : Hid (Below w.heap.size w (w.alloc (.cells (cells3 f b c) 23))) := (Below.refl _ _).alloc (Nat.le_refl _) _
  have HM := Lib.hid (fun v => marks_any n v hn)
  have HRM := Lib.hid (fun v => rmarks_any n v hn)
  have HMB := Lib.hid (fun v => marks_any b v hc.2.1)
  have HOW := Lib.hid (fun v => owned_any f b c k v)
  have HRT : Hid (∀ v, Calls Try.prog 11 #[crv f b c] v fun e w' => e = .returned (.bool (rightK f b c)) ∧ Below v.heap.size v w') :=
    fun v => (right_any f b c _ v rfl).mono fun e w' h => ⟨h.1, by rw [h.2]; exact (Below.refl _ _).alloc (Nat.le_refl _) _⟩
  have HOR : Hid (ownK f b c k = (rightK f b c && inB k 51 (b - 1))) := by show _ = _; rfl
  have HRI := Lib.hid (fun h => rightK_t (f := f) (b := b) (c := c) h)
  unfold crv cells3 at *
  generalize hMM : marksK n = mm at *
  clear hMM
  have q1 : (mm.toList != mm.toList) = false := by simp
  generalize rightK f b c = R at *
  generalize ownK f b c k = O at *
  clear hc
  cases R with
  | false =>
    have hO := HOR.out
    simp only [Bool.false_and] at hO
    subst hO
    clear HRI HOR HMB
    go_enter Try.func6, Try.ntmps6
    go_wp2_with fail
    refine (lives_any _).mono ?_
    rintro e w1 ⟨rfl, b1⟩
    have HX1 := Lib.hid (HX0.out.below b1 HX0.out.lt)
    have HB1 := Lib.hid (HB0.out.trans (b1.mono HB0.out.size))
    clear b1 HX0 HB0
    go_wp2_with fail
    refine (HM.out _).mono ?_
    rintro e w2 ⟨rfl, b2⟩
    have HX2 := Lib.hid (HX1.out.below b2 HX1.out.lt)
    have HB2 := Lib.hid (HB1.out.trans (b2.mono HB1.out.size))
    clear b2 HX1 HB1
    go_wp2_with fail
    refine (HRM.out _).mono ?_
    rintro e w3 ⟨rfl, b3⟩
    have HX3 := Lib.hid (HX2.out.below b3 HX2.out.lt)
    have HB3 := Lib.hid (HB2.out.trans (b3.mono HB2.out.size))
    clear b3 HX2 HB2 HM HRM
    obtain ⟨c0, c1, c2⟩ := HX3.out.row
    go_wp2_with fail
    refine (HOW.out _).mono ?_
    rintro e w4 ⟨rfl, b4⟩
    have HX4 := Lib.hid (HX3.out.below b4 HX3.out.lt)
    have HB4 := Lib.hid (HB3.out.trans (b4.mono HB3.out.size))
    clear b4 HX3 HB3 HOW c0 c1 c2
    obtain ⟨c0, c1, c2⟩ := HX4.out.row
    go_wp2_with fail
    refine (HRT.out _).mono ?_
    rintro e w5 ⟨rfl, b5⟩
    have HX5 := Lib.hid (HX4.out.below b5 HX4.out.lt)
    have HB5 := Lib.hid (HB4.out.trans (b5.mono HB4.out.size))
    clear b5 HX4 HB4 HRT c0 c1 c2
    obtain ⟨c0, c1, c2⟩ := HX5.out.row
    go_wp2
    go_ret
    exact ⟨rfl, HB5.out⟩
  | true =>
    obtain ⟨hb1, hb2, -⟩ := HRI.out rfl
    have hO := HOR.out
    simp only [Bool.true_and] at hO
    have HIS : Hid (∀ v, Calls Try.prog 21 #[.string (marksK b), .int .i64 k] v fun e w' => e = .returned (.bool (!(decide (51 ≤ k) && decide (k < b)))) ∧ Drew v w') := fun v => by
      rw [← is_marks b k (by omega)]
      exact is_any (marksK b) k v (by rw [marks_size]; omega) hk
    have HCN : Hid (∀ v, Calls Try.prog 22 #[.string (marksK b), .int .i64 1024] v fun e w' => e = .returned (.int .i64 (1024 - (b - 51))) ∧ Drew v w') := fun v => by
      rw [← count_marks b (by omega) (by omega)]
      exact count_any (marksK b) 1024 v (by rw [marks_size]; omega) (by omega)
    have q5 : ((1024 - (b - 51)) == (1024 - (b - 51))) = true := by simp
    clear HRI HOR
    by_cases h1 : 51 ≤ k
    · have d1 : decide (51 ≤ k) = true := by simpa using h1
      by_cases h2 : k < b
      · have d2 : decide (k < b) = true := by simpa using h2
        have hO2 : O = true := by rw [hO]; simp [inB]; omega
        subst hO2
        rw [d1, d2] at HIS
        simp only [Bool.and_true, Bool.not_true] at HIS
        clear hO h1 h2
        go_enter Try.func6, Try.ntmps6
        go_wp2_with fail
        refine (lives_any _).mono ?_
        rintro e w1 ⟨rfl, b1⟩
        have HX1 := Lib.hid (HX0.out.below b1 HX0.out.lt)
        have HB1 := Lib.hid (HB0.out.trans (b1.mono HB0.out.size))
        clear b1 HX0 HB0
        go_wp2_with fail
        refine (HM.out _).mono ?_
        rintro e w2 ⟨rfl, b2⟩
        have HX2 := Lib.hid (HX1.out.below b2 HX1.out.lt)
        have HB2 := Lib.hid (HB1.out.trans (b2.mono HB1.out.size))
        clear b2 HX1 HB1
        go_wp2_with fail
        refine (HRM.out _).mono ?_
        rintro e w3 ⟨rfl, b3⟩
        have HX3 := Lib.hid (HX2.out.below b3 HX2.out.lt)
        have HB3 := Lib.hid (HB2.out.trans (b3.mono HB2.out.size))
        clear b3 HX2 HB2 HM HRM
        obtain ⟨c0, c1, c2⟩ := HX3.out.row
        go_wp2_with fail
        refine (HOW.out _).mono ?_
        rintro e w4 ⟨rfl, b4⟩
        have HX4 := Lib.hid (HX3.out.below b4 HX3.out.lt)
        have HB4 := Lib.hid (HB3.out.trans (b4.mono HB3.out.size))
        clear b4 HX3 HB3 HOW c0 c1 c2
        obtain ⟨c0, c1, c2⟩ := HX4.out.row
        go_wp2_with fail
        refine (HRT.out _).mono ?_
        rintro e w5 ⟨rfl, b5⟩
        have HX5 := Lib.hid (HX4.out.below b5 HX4.out.lt)
        have HB5 := Lib.hid (HB4.out.trans (b5.mono HB4.out.size))
        clear b5 HX4 HB4 HRT c0 c1 c2
        obtain ⟨c0, c1, c2⟩ := HX5.out.row
        go_wp2_with fail
        refine (HMB.out _).mono ?_
        rintro e w6 ⟨rfl, b6⟩
        have HX6 := Lib.hid (HX5.out.below b6 HX5.out.lt)
        have HB6 := Lib.hid (HB5.out.trans (b6.mono HB5.out.size))
        clear b6 HX5 HB5 HMB c0 c1 c2
        obtain ⟨c0, c1, c2⟩ := HX6.out.row
        generalize marksK b = mb at *
        go_wp2
        go_quiet ((first | (go_at_call 21; with_reducible exact quiet_drew (HIS.out _)) | (go_at_call 22; with_reducible exact quiet_drew (HCN.out _))))
        go_wp2
        go_ret
        exact ⟨rfl, by have := HB6.out; exact bel_drewN this _⟩
      · have d2 : decide (k < b) = false := by simpa using h2
        have hO2 : O = false := by rw [hO]; simp [inB]; omega
        subst hO2
        rw [d1, d2] at HIS
        simp only [Bool.and_false, Bool.not_false] at HIS
        clear hO h1 h2
        go_enter Try.func6, Try.ntmps6
        go_wp2_with fail
        refine (lives_any _).mono ?_
        rintro e w1 ⟨rfl, b1⟩
        have HX1 := Lib.hid (HX0.out.below b1 HX0.out.lt)
        have HB1 := Lib.hid (HB0.out.trans (b1.mono HB0.out.size))
        clear b1 HX0 HB0
        go_wp2_with fail
        refine (HM.out _).mono ?_
        rintro e w2 ⟨rfl, b2⟩
        have HX2 := Lib.hid (HX1.out.below b2 HX1.out.lt)
        have HB2 := Lib.hid (HB1.out.trans (b2.mono HB1.out.size))
        clear b2 HX1 HB1
        go_wp2_with fail
        refine (HRM.out _).mono ?_
        rintro e w3 ⟨rfl, b3⟩
        have HX3 := Lib.hid (HX2.out.below b3 HX2.out.lt)
        have HB3 := Lib.hid (HB2.out.trans (b3.mono HB2.out.size))
        clear b3 HX2 HB2 HM HRM
        obtain ⟨c0, c1, c2⟩ := HX3.out.row
        go_wp2_with fail
        refine (HOW.out _).mono ?_
        rintro e w4 ⟨rfl, b4⟩
        have HX4 := Lib.hid (HX3.out.below b4 HX3.out.lt)
        have HB4 := Lib.hid (HB3.out.trans (b4.mono HB3.out.size))
        clear b4 HX3 HB3 HOW c0 c1 c2
        obtain ⟨c0, c1, c2⟩ := HX4.out.row
        go_wp2_with fail
        refine (HRT.out _).mono ?_
        rintro e w5 ⟨rfl, b5⟩
        have HX5 := Lib.hid (HX4.out.below b5 HX4.out.lt)
        have HB5 := Lib.hid (HB4.out.trans (b5.mono HB4.out.size))
        clear b5 HX4 HB4 HRT c0 c1 c2
        obtain ⟨c0, c1, c2⟩ := HX5.out.row
        go_wp2_with fail
        refine (HMB.out _).mono ?_
        rintro e w6 ⟨rfl, b6⟩
        have HX6 := Lib.hid (HX5.out.below b6 HX5.out.lt)
        have HB6 := Lib.hid (HB5.out.trans (b6.mono HB5.out.size))
        clear b6 HX5 HB5 HMB c0 c1 c2
        obtain ⟨c0, c1, c2⟩ := HX6.out.row
        generalize marksK b = mb at *
        go_wp2
        go_quiet ((first | (go_at_call 21; with_reducible exact quiet_drew (HIS.out _)) | (go_at_call 22; with_reducible exact quiet_drew (HCN.out _))))
        go_wp2
        go_ret
        exact ⟨rfl, by have := HB6.out; exact bel_drewN this _⟩
    · have d1 : decide (51 ≤ k) = false := by simpa using h1
      have hO2 : O = false := by rw [hO]; simp [inB]; omega
      subst hO2
      rw [d1] at HIS
      simp only [Bool.false_and, Bool.not_false] at HIS
      clear hO h1
      go_enter Try.func6, Try.ntmps6
      go_wp2_with fail
      refine (lives_any _).mono ?_
      rintro e w1 ⟨rfl, b1⟩
      have HX1 := Lib.hid (HX0.out.below b1 HX0.out.lt)
      have HB1 := Lib.hid (HB0.out.trans (b1.mono HB0.out.size))
      clear b1 HX0 HB0
      go_wp2_with fail
      refine (HM.out _).mono ?_
      rintro e w2 ⟨rfl, b2⟩
      have HX2 := Lib.hid (HX1.out.below b2 HX1.out.lt)
      have HB2 := Lib.hid (HB1.out.trans (b2.mono HB1.out.size))
      clear b2 HX1 HB1
      go_wp2_with fail
      refine (HRM.out _).mono ?_
      rintro e w3 ⟨rfl, b3⟩
      have HX3 := Lib.hid (HX2.out.below b3 HX2.out.lt)
      have HB3 := Lib.hid (HB2.out.trans (b3.mono HB2.out.size))
      clear b3 HX2 HB2 HM HRM
      obtain ⟨c0, c1, c2⟩ := HX3.out.row
      go_wp2_with fail
      refine (HOW.out _).mono ?_
      rintro e w4 ⟨rfl, b4⟩
      have HX4 := Lib.hid (HX3.out.below b4 HX3.out.lt)
      have HB4 := Lib.hid (HB3.out.trans (b4.mono HB3.out.size))
      clear b4 HX3 HB3 HOW c0 c1 c2
      obtain ⟨c0, c1, c2⟩ := HX4.out.row
      go_wp2_with fail
      refine (HRT.out _).mono ?_
      rintro e w5 ⟨rfl, b5⟩
      have HX5 := Lib.hid (HX4.out.below b5 HX4.out.lt)
      have HB5 := Lib.hid (HB4.out.trans (b5.mono HB4.out.size))
      clear b5 HX4 HB4 HRT c0 c1 c2
      obtain ⟨c0, c1, c2⟩ := HX5.out.row
      go_wp2_with fail
      refine (HMB.out _).mono ?_
      rintro e w6 ⟨rfl, b6⟩
      have HX6 := Lib.hid (HX5.out.below b6 HX5.out.lt)
      have HB6 := Lib.hid (HB5.out.trans (b6.mono HB5.out.size))
      clear b6 HX5 HB5 HMB c0 c1 c2
      obtain ⟨c0, c1, c2⟩ := HX6.out.row
      generalize marksK b = mb at *
      go_wp2
      go_quiet ((first | (go_at_call 21; with_reducible exact quiet_drew (HIS.out _)) | (go_at_call 22; with_reducible exact quiet_drew (HCN.out _))))
      go_wp2
      go_ret
      exact ⟨rfl, by have := HB6.out; exact bel_drewN this _⟩


set_option maxRecDepth 100000 in
theorem lifted (os : Os) (started : os.Started) (H : Type) (enc : TypeId × Value → H) :
    ReturnsInHanded {} Try.checked os 6 .any (Rows.crownMarksSpec.pre6 enc Try.prog Try.f6 Rows.crownMarksRow.domain false) (Rows.crownMarksSpec.post enc Try.prog Try.f6 false true false false) := by
  refine returnsInHanded_of_change_sized (C := Try.checked) own started (by kernel_rfl) Try.func6
    (ChangeSpec.witness6 (enc := enc) (C := Try.checked) false ⟨#[], #[.int .i64 0, .agg #[.int .i64 0, .int .i64 0, .int .i64 0], .int .i64 0], []⟩ 8 (by kernel_rfl) (by kernel_rfl) (by kernel_rfl) (by kernel_rfl)) ?_
  intro W base args ds gs before hval0 hW hcnd hsz0 _
  have hval : ∀ (j : Nat) t v, Try.f6.params[j]? = some t → args[j]? = some v → Value.okWide Try.prog W .any base t v := hval0
  have hW' := hW
  obtain ⟨p, q, hA0, hV, rfl, hfz, hnd⟩ := hW
  have hA : DataW.TrodAll enc Try.prog W 0 (fun _ => true) true Try.f6.params.toList args.toList ds p := hA0
  rw [Try.params6] at hA hval
  obtain ⟨v0, vs0, d0, ds0, p0, q0, hargs, rfl, rfl, h0, r0⟩ := trodAll_cons hA
  obtain ⟨v1, vs1, d1, ds1, p1, q1, rfl, rfl, rfl, h1, r1⟩ := trodAll_cons r0
  obtain ⟨v2, vs2, d2, ds2, p2, q2, rfl, rfl, rfl, h2, r2⟩ := trodAll_cons r1
  obtain ⟨rfl, rfl, rfl⟩ := trodAll_nil r2
  obtain rfl : args = #[v0, v1, v2] := by cases args; simp_all
  obtain ⟨rfl, rfl⟩ := trodVars_none hV
  obtain ⟨n0, rfl, rfl, rfl, wn0⟩ := open_int Try.underlying3 (hval 0 3 v0 rfl rfl) h0
  have lt1 : ∀ x ∈ p1, x.block < W.heap.size := by obtain ⟨m, hm⟩ := h1; exact DataW.trod_lt m _ _ _ hm
  obtain ⟨f1, b1, c1, rfl, w1⟩ := cr_open (hval 1 23 v1 rfl rfl) h1
  obtain ⟨n2, rfl, rfl, rfl, wn2⟩ := open_int Try.underlying3 (hval 2 3 v2 rfl rfl) h2
  clear hA0 hval0
  refine (walk n0 f1 b1 c1 n2 W (i64_of_wf wn0) w1 (i64_of_wf wn2)).mono fun e W' ⟨he, bel⟩ => ?_
  subst he
  exact ⟨_, rfl, _, _, _, [], _, [], hW', trodAll_mk1 (shut_bool Try.underlying4 _), (trodAll_cons_mk (shut_int Try.underlying3 wn0) (trodAll_cons_mk (Below.trod laidOut (by kernel_rfl) (of_decide_eq_true (by kernel_rfl)) h1 bel lt1) (trodAll_cons_mk (shut_int Try.underlying3 wn2) trodAll_mk0))), rfl, bel.frame _, fun h => by cases h⟩

theorem over : Rows.crownMarksRow.holds Try.pinned (OpenSpec.ofChange Rows.crownMarksSpec) :=
  OpenClaim.holds_of_wide 6 Try.f6 rfl rfl rfl rfl rfl rfl rfl ⟨rfl, rfl, rfl, rfl, rfl⟩ rfl rfl rfl rfl rfl (by kernel_rfl) Try.func6 (by kernel_rfl)
    (of_decide_eq_true (by kernel_rfl)) (by unfold Func.isWrapper; first | (rw [if_pos (by decide +kernel)]; kernel_rfl) | (rw [if_neg (by decide +kernel)]; exact ⟨rfl, rfl⟩))
    (fun os started H enc _ => lifted os started H enc)

end Go.Proofs.Ytbjmbnodckhikaa.crownMarks
namespace Go.Proofs.Ytbjmbnodckhikaa
theorem crownMarks_proved : Rows.CrownMarksSaid := crownMarks.over
#print axioms crownMarks_proved
end Go.Proofs.Ytbjmbnodckhikaa
