/-
  WALKS: Card, Format and the reference's Format, Owned. Conditions: integers of an int64.
-/
import Derived.Test.YtbjmbnodckhikaaKRead
namespace Go.Proofs.Ytbjmbnodckhikaa
open Go.RowKit

theorem card_no (n : Int) (w : World) (h : inB n 0 31 = false) :
    Calls Try.prog 17 #[.int .i64 n] w fun e w' => e = .returned (.tuple #[.int .i64 0, .int .i64 0, .int .i64 5]) ∧ w = w' := by
  have HN := Lib.hid (fun w => isNode_is false n w h)
  clear h
  go_enter Try.func17, Try.ntmps17
  go_wp2_with fail
  refine (HN.out _).mono ?_
  rintro e w' ⟨rfl, rfl⟩
  go_wp2
  refine bodyPost_ret (v := .tuple #[.int .i64 0, .int .i64 0, .int .i64 5]) (by simp [results, go_sem]) rfl ?_
  exact ⟨rfl, rfl⟩
theorem card_ok (n : Nat) (w : World) (h : n ≤ 31) :
    Calls Try.prog 17 #[.int .i64 (n : Int)] w fun e w' => e = .returned (.tuple #[.int .i64 (43 + (n : Int) / 4), .int .i64 ((n : Int) % 4), .int .i64 0]) ∧ w = w' := by
  have HN := Lib.hid (fun w => isNode_is true n w (by simp [inB]; omega))
  go_enter Try.func17, Try.ntmps17
  go_wp2_with fail
  refine (HN.out _).mono ?_
  rintro e w' ⟨rfl, rfl⟩
  go_wp2
  refine bodyPost_ret (v := .tuple #[.int .i64 (43 + (n : Int) / 4), .int .i64 ((n : Int) % 4), .int .i64 0]) (by simp [results, go_sem]) rfl ?_
  exact ⟨rfl, rfl⟩

/-- The format of a file's card. -/
def fmtK (f b c n : Int) : Int := if rightK f b c = true ∧ inB n 0 31 = true then (if f ≤ 2 then f else if n < c then 2 else 1) else 0
theorem fmtK_no {f b c n : Int} (h : ¬ (rightK f b c = true ∧ inB n 0 31 = true)) : fmtK f b c n = 0 := by unfold fmtK; rw [if_neg h]
theorem fmtK_12 {f b c n : Int} (h : rightK f b c = true) (hn : inB n 0 31 = true) (hf : f = 1 ∨ f = 2) : fmtK f b c n = f := by unfold fmtK; rw [if_pos ⟨h, hn⟩, if_pos (by omega)]
theorem fmtK_34 {f b c n : Int} (h : rightK f b c = true) (hn : inB n 0 31 = true) (hf : f = 3 ∨ f = 4) : fmtK f b c n = if n < c then 2 else 1 := by unfold fmtK; rw [if_pos ⟨h, hn⟩, if_neg (by omega)]

set_option maxHeartbeats 2000000 in
theorem format_any (f b c n : Int) (w : World) :
    Calls Try.prog 13 #[crv f b c, .int .i64 n] w fun e w' => e = .returned (.int .i64 (fmtK f b c n)) ∧ Below w.heap.size w w' := by
  have HB : Hid (Below w.heap.size w ((w.alloc (.cells (cells3 f b c) 23)).alloc (.cells (cells3 f b c) 23))) := ((Below.refl _ _).alloc (Nat.le_refl _) _).alloc (by simp) _
  have HRT := Lib.hid (fun v => right_any f b c _ v rfl)
  cases hr : rightK f b c with
  | false =>
    have HF := Lib.hid (fmtK_no (n := n) (fun h => by rw [hr] at h; cases h.1 : ¬ (rightK f b c = true ∧ inB n 0 31 = true)))
    rw [hr] at HRT
    generalize fmtK f b c n = z at *
    unfold crv cells3 at *
    clear hr
    go_enter Try.func13, Try.ntmps13
    go_wp2_with fail
    refine (HRT.out _).mono ?_
    rintro e w' ⟨rfl, rfl⟩
    go_wp2
    go_ret
    exact ⟨ret_int HF.out.symm, HB.out⟩
  | true =>
    cases hn : inB n 0 31 with
    | false =>
      have HF := Lib.hid (fmtK_no (fun h => by rw [hn] at h; cases h.2 : ¬ (rightK f b c = true ∧ inB n 0 31 = true)))
      have HN := Lib.hid (fun w => isNode_is false n w hn)
      rw [hr] at HRT
      generalize fmtK f b c n = z at *
      unfold crv cells3 at *
      clear hr hn
      go_enter Try.func13, Try.ntmps13
      go_wp2_with fail
      refine (HRT.out _).mono ?_
      rintro e w' ⟨rfl, rfl⟩
      go_wp2_with fail
      refine (HN.out _).mono ?_
      rintro e w' ⟨rfl, rfl⟩
      go_wp2
      go_ret
      exact ⟨ret_int HF.out.symm, HB.out⟩
    | true =>
      have HN := Lib.hid (fun w => isNode_is true n w hn)
      obtain ⟨-, -, h3⟩ := rightK_t hr
      by_cases h12 : f = 1 ∨ f = 2
      · have HF := Lib.hid (fmtK_12 hr hn h12)
        rw [hr] at HRT
        generalize fmtK f b c n = z at *
        unfold crv cells3 at *
        clear hr hn h3
        rcases h12 with rfl | rfl
        all_goals
          go_enter Try.func13, Try.ntmps13
          go_wp2_with fail
          refine (HRT.out _).mono ?_
          rintro e w' ⟨rfl, rfl⟩
          go_wp2_with fail
          refine (HN.out _).mono ?_
          rintro e w' ⟨rfl, rfl⟩
          go_wp2
          go_ret
          exact ⟨ret_int HF.out.symm, HB.out⟩
      · have h34 : f = 3 ∨ f = 4 := by omega
        have HF := Lib.hid (fmtK_34 hr hn h34)
        rw [hr] at HRT
        generalize fmtK f b c n = z at *
        unfold crv cells3 at *
        clear hr hn h3 h12
        by_cases hlt : n < c
        · have HF2 : Hid (z = 2) := by show _ = _; rw [HF.out, if_pos hlt]
          have d1 : decide (n < c) = true := by simpa using hlt
          rcases h34 with rfl | rfl
          all_goals
            go_enter Try.func13, Try.ntmps13
            go_wp2_with fail
            refine (HRT.out _).mono ?_
            rintro e w' ⟨rfl, rfl⟩
            go_wp2_with fail
            refine (HN.out _).mono ?_
            rintro e w' ⟨rfl, rfl⟩
            go_wp2
            go_ret
            exact ⟨ret_int HF2.out.symm, HB.out⟩
        · have HF2 : Hid (z = 1) := by show _ = _; rw [HF.out, if_neg hlt]
          have d1 : decide (n < c) = false := by simpa using hlt
          rcases h34 with rfl | rfl
          all_goals
            go_enter Try.func13, Try.ntmps13
            go_wp2_with fail
            refine (HRT.out _).mono ?_
            rintro e w' ⟨rfl, rfl⟩
            go_wp2_with fail
            refine (HN.out _).mono ?_
            rintro e w' ⟨rfl, rfl⟩
            go_wp2
            go_ret
            exact ⟨ret_int HF2.out.symm, HB.out⟩

set_option maxHeartbeats 2000000 in
theorem rformat_any (f b c n : Int) (w : World) :
    Calls Try.prog 14 #[crv f b c, .int .i64 n] w fun e w' => e = .returned (.int .i64 (fmtK f b c n)) ∧ Below w.heap.size w w' := by
  have HB : Hid (Below w.heap.size w ((w.alloc (.cells (cells3 f b c) 23)).alloc (.cells (cells3 f b c) 23))) := ((Below.refl _ _).alloc (Nat.le_refl _) _).alloc (by simp) _
  have HRT := Lib.hid (fun v => rright_any f b c _ v rfl)
  cases hr : rightK f b c with
  | false =>
    have HF := Lib.hid (fmtK_no (n := n) (fun h => by rw [hr] at h; cases h.1 : ¬ (rightK f b c = true ∧ inB n 0 31 = true)))
    rw [hr] at HRT
    generalize fmtK f b c n = z at *
    unfold crv cells3 at *
    clear hr
    go_enter Try.func14, Try.ntmps14
    go_wp2_with fail
    refine (HRT.out _).mono ?_
    rintro e w' ⟨rfl, rfl⟩
    go_wp2
    go_ret
    exact ⟨ret_int HF.out.symm, HB.out⟩
  | true =>
    cases hn : inB n 0 31 with
    | false =>
      have HF := Lib.hid (fmtK_no (fun h => by rw [hn] at h; cases h.2 : ¬ (rightK f b c = true ∧ inB n 0 31 = true)))
      have h := inB_f hn
      rw [hr] at HRT
      generalize fmtK f b c n = z at *
      unfold crv cells3 at *
      clear hr hn
      by_cases h1 : n < 0
      · have d1 : decide (n < 0) = true := by simpa using h1
        clear h
        go_enter Try.func14, Try.ntmps14
        go_wp2_with fail
        refine (HRT.out _).mono ?_
        rintro e w' ⟨rfl, rfl⟩
        go_wp2
        go_ret
        exact ⟨ret_int HF.out.symm, HB.out⟩
      · have d1 : decide (n < 0) = false := by simpa using h1
        have d2 : decide (32 ≤ n) = true := by simp; omega
        clear h
        go_enter Try.func14, Try.ntmps14
        go_wp2_with fail
        refine (HRT.out _).mono ?_
        rintro e w' ⟨rfl, rfl⟩
        go_wp2
        go_ret
        exact ⟨ret_int HF.out.symm, HB.out⟩
    | true =>
      have h := inB_t hn
      have d1 : decide (n < 0) = false := by simp; omega
      have d2 : decide (32 ≤ n) = false := by simp; omega
      obtain ⟨-, -, h3⟩ := rightK_t hr
      by_cases h12 : f = 1 ∨ f = 2
      · have HF := Lib.hid (fmtK_12 hr hn h12)
        rw [hr] at HRT
        generalize fmtK f b c n = z at *
        unfold crv cells3 at *
        clear hr hn h3
        rcases h12 with rfl | rfl
        all_goals
          go_enter Try.func14, Try.ntmps14
          go_wp2_with fail
          refine (HRT.out _).mono ?_
          rintro e w' ⟨rfl, rfl⟩
          go_wp2
          go_ret
          exact ⟨ret_int HF.out.symm, HB.out⟩
      · have h34 : f = 3 ∨ f = 4 := by omega
        have HF := Lib.hid (fmtK_34 hr hn h34)
        rw [hr] at HRT
        generalize fmtK f b c n = z at *
        unfold crv cells3 at *
        clear hr hn h3 h12
        by_cases hlt : n < c
        · have HF2 : Hid (z = 2) := by show _ = _; rw [HF.out, if_pos hlt]
          have d3 : decide (c ≤ n) = false := by simp; omega
          rcases h34 with rfl | rfl
          all_goals
            go_enter Try.func14, Try.ntmps14
            go_wp2_with fail
            refine (HRT.out _).mono ?_
            rintro e w' ⟨rfl, rfl⟩
            go_wp2
            go_ret
            exact ⟨ret_int HF2.out.symm, HB.out⟩
        · have HF2 : Hid (z = 1) := by show _ = _; rw [HF.out, if_neg hlt]
          have d3 : decide (c ≤ n) = true := by simp; omega
          rcases h34 with rfl | rfl
          all_goals
            go_enter Try.func14, Try.ntmps14
            go_wp2_with fail
            refine (HRT.out _).mono ?_
            rintro e w' ⟨rfl, rfl⟩
            go_wp2
            go_ret
            exact ⟨ret_int HF2.out.symm, HB.out⟩

/-- Is block n one that files can own? -/
def ownK (f b c n : Int) : Bool := rightK f b c && inB n 51 (b - 1)
set_option maxHeartbeats 2000000 in
theorem owned_any (f b c n : Int) (w : World) :
    Calls Try.prog 20 #[crv f b c, .int .i64 n] w fun e w' => e = .returned (.bool (ownK f b c n)) ∧ Below w.heap.size w w' := by
  have HB : Hid (Below w.heap.size w ((w.alloc (.cells (cells3 f b c) 23)).alloc (.cells (cells3 f b c) 23))) := ((Below.refl _ _).alloc (Nat.le_refl _) _).alloc (by simp) _
  have HRT := Lib.hid (fun v => right_any f b c _ v rfl)
  cases hr : rightK f b c with
  | false =>
    have HF : Hid (ownK f b c n = false) := by show _ = _; unfold ownK; rw [hr]; rfl
    rw [hr] at HRT
    generalize ownK f b c n = z at *
    unfold crv cells3 at *
    clear hr
    go_enter Try.func20, Try.ntmps20
    go_wp2_with fail
    refine (HRT.out _).mono ?_
    rintro e w' ⟨rfl, rfl⟩
    go_wp2
    go_ret
    exact ⟨ret_bool HF.out.symm, HB.out⟩
  | true =>
    obtain ⟨h1, h2, h3⟩ := rightK_t hr
    have HF : Hid (ownK f b c n = inB n 51 (b - 1)) := by show _ = _; unfold ownK; rw [hr]; rfl
    have HN := Lib.hid (fun w => within_is (inB n 51 (b - 1)) n 51 (b - 1) w rfl)
    rw [← HF.out] at HN
    rw [hr] at HRT
    generalize ownK f b c n = z at *
    unfold crv cells3 at *
    clear hr h3
    go_enter Try.func20, Try.ntmps20
    go_wp2_with fail
    refine (HRT.out _).mono ?_
    rintro e w' ⟨rfl, rfl⟩
    go_wp2_with fail
    refine (HN.out _).mono ?_
    rintro e w' ⟨rfl, rfl⟩
    go_wp2
    go_ret
    exact ⟨rfl, HB.out⟩
end Go.Proofs.Ytbjmbnodckhikaa
