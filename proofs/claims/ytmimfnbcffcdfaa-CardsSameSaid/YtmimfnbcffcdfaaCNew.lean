/-
  WALK: New returns a new file's card, or that it may not be. Condition: the numbers are of an int64.
-/
import Derived.Test.YtmimfnbcffcdfaaCRead
namespace Go.Proofs.Ytmimfnbcffcdfaa
open Go.RowKit

def newC (f kd : Int) : Cd × Int :=
  if (decide (kd = 1) || decide (kd = 2)) = true then
    (if f = 1 then (⟨1, kd, 1, 0, [0, 0, 0, 0], 0, 0, [], 0⟩, 0) else if f = 2 then (⟨2, kd, 1, 0, [], 0, 0, [], 0⟩, 0) else (zeroC, 1))
  else (zeroC, 1)

theorem make4 (W : World) : (Instr.makeSlice 22 (.int .i64 4) (.int .i64 4)).run Try.prog W = .ok (.slice (some ⟨W.heap.size, 0, none⟩) 4 4) (W.alloc (.cells #[.int .i64 0, .int .i64 0, .int .i64 0, .int .i64 0] 3)) := by
  obtain ⟨i0, hi, hz0, hz1, hz2⟩ := info_parts Try.info3
  have h := run_make (P := Try.prog) W 22 3 i0 (.int .i64 0) Try.underlying22 hi hz0 .i64 .i64 (4 : Int) (4 : Int) (by omega) (by omega) (by rw [hz2]; decide) (by omega)
  have e : madeCells (Value.int .i64 0).cells (4 * i0.size) = #[.int .i64 0, .int .i64 0, .int .i64 0, .int .i64 0] := by
    apply Array.toList_inj.1
    have e1 : (Value.int .i64 0).cells = #[.int .i64 0] := rfl
    rw [hz1, Nat.mul_one, e1, toList_madeCells_one]
    rfl
  rw [← e]
  simpa using h
theorem four0 (W : World) : IntsAt (W.alloc (.cells #[.int .i64 0, .int .i64 0, .int .i64 0, .int .i64 0] 3)) (W.heap.size + 1) (some ⟨W.heap.size, 0, none⟩) 4 [0, 0, 0, 0] :=
  ints_new (w := W) [0, 0, 0, 0] (by decide)

set_option maxHeartbeats 2000000 in
theorem new_any (f kd : Int) (w : World) (hf : Fit f) (hk : Fit kd) : Calls Try.prog 17 #[.int .i64 f, .int .i64 kd] w (RetCE w (newC f kd).1 (newC f kd).2) := by
  have HB1 : Hid (∀ o : Obj, Below w.heap.size w (w.alloc o)) := fun o => (Below.refl _ _).alloc (Nat.le_refl _) _
  have HB2 : Hid (∀ o o' : Obj, Below w.heap.size w ((w.alloc o).alloc o')) := fun o o' => ((Below.refl _ _).alloc (Nat.le_refl _) _).alloc (by simp) _
  have HK := Lib.hid hk
  cases hkd : (decide (kd = 1) || decide (kd = 2)) with
  | false =>
    have HI := Lib.hid (fun w => isKind_any kd false w hkd)
    have HE : Hid (newC f kd = (zeroC, 1)) := by show _ = _; unfold newC; rw [hkd]; rfl
    clear hkd hf hk
    go_enter Try.func17, Try.ntmps17
    go_wp2_with fail
    refine (HI.out _).mono ?_
    rintro e w1 ⟨rfl, rfl⟩
    go_wp2
    refine bodyPost_ret (v := .tuple #[cdv zeroC none 0 0 none 0 0, .int .i64 1]) (by simp [results, Try.results17, go_sem, zeroC]) rfl ?_
    rw [HE.out]
    exact ⟨_, rfl, cdv_zero _ _, HB1.out _⟩
  | true =>
    have HI := Lib.hid (fun w => isKind_any kd true w hkd)
    by_cases h1 : f = 1
    · subst h1
      have HE : Hid (newC 1 kd = (⟨1, kd, 1, 0, [0, 0, 0, 0], 0, 0, [], 0⟩, 0)) := by show _ = _; unfold newC; rw [hkd]; rfl
      clear hkd hf hk
      have HMK := make4
      have HI4 : Hid (∀ o o' : Obj, IntsAt (((w.alloc o).alloc o').alloc (.cells #[.int .i64 0, .int .i64 0, .int .i64 0, .int .i64 0] 3)) (((w.alloc o).alloc o').alloc (.cells #[.int .i64 0, .int .i64 0, .int .i64 0, .int .i64 0] 3)).heap.size (some ⟨w.heap.size + 1 + 1, 0, none⟩) 4 [0, 0, 0, 0]) := fun o o' => by
        have h := four0 ((w.alloc o).alloc o')
        have e : ((w.alloc o).alloc o').heap.size = w.heap.size + 1 + 1 := by simp
        rw [e] at h
        exact h.more (by simp)
      have HB3 : Hid (∀ o o' o'' : Obj, Below w.heap.size w (((w.alloc o).alloc o').alloc o'')) := fun o o' o'' => (((Below.refl _ _).alloc (Nat.le_refl _) _).alloc (by simp) _).alloc (by simp; omega) _
      go_enter Try.func17, Try.ntmps17
      go_wp2_with fail
      refine (HI.out _).mono ?_
      rintro e w1 ⟨rfl, rfl⟩
      go_wp2
      refine bodyPost_ret (v := .tuple #[cdv ⟨1, kd, 1, 0, [0, 0, 0, 0], 0, 0, [], 0⟩ (some ⟨w.heap.size + 1 + 1, 0, none⟩) 4 4 none 0 0, .int .i64 0]) (by simp [results, Try.results17, go_sem]) rfl ?_
      rw [HE.out]
      exact ⟨_, rfl, ⟨_, 4, 4, none, 0, 0, rfl, HI4.out _ _, ⟨rfl, by simp, fun k hk => absurd hk (by omega)⟩, by omega, by omega, (by show Fit 1; decide), HK.out, (by show Fit 1; decide), (by show Fit 0; decide), (by show Fit 0; decide), (by show Fit 0; decide), (by show Fit 0; decide)⟩, HB3.out _ _ _⟩
    · by_cases h2 : f = 2
      · subst h2
        have HE : Hid (newC 2 kd = (⟨2, kd, 1, 0, [], 0, 0, [], 0⟩, 0)) := by show _ = _; unfold newC; rw [hkd]; rfl
        clear hkd hf hk
        go_enter Try.func17, Try.ntmps17
        go_wp2_with fail
        refine (HI.out _).mono ?_
        rintro e w1 ⟨rfl, rfl⟩
        go_wp2
        refine bodyPost_ret (v := .tuple #[cdv ⟨2, kd, 1, 0, [], 0, 0, [], 0⟩ none 0 0 none 0 0, .int .i64 0]) (by simp [results, Try.results17, go_sem]) rfl ?_
        rw [HE.out]
        exact ⟨_, rfl, ⟨none, 0, 0, none, 0, 0, rfl, ⟨rfl, by simp, fun k hk => absurd hk (by omega)⟩, ⟨rfl, by simp, fun k hk => absurd hk (by omega)⟩, by omega, by omega, (by show Fit 2; decide), HK.out, (by show Fit 1; decide), (by show Fit 0; decide), (by show Fit 0; decide), (by show Fit 0; decide), (by show Fit 0; decide)⟩, HB2.out _ _⟩
      · have HE : Hid (newC f kd = (zeroC, 1)) := by show _ = _; unfold newC; rw [hkd, if_pos rfl, if_neg h1, if_neg h2]
        have d1 : (f == 1) = false := by simpa using h1
        have d2 : (f == 2) = false := by simpa using h2
        clear hkd hf hk h1 h2
        go_enter Try.func17, Try.ntmps17
        go_wp2_with fail
        refine (HI.out _).mono ?_
        rintro e w1 ⟨rfl, rfl⟩
        go_wp2
        refine bodyPost_ret (v := .tuple #[cdv zeroC none 0 0 none 0 0, .int .i64 1]) (by simp [results, Try.results17, go_sem, zeroC]) rfl ?_
        rw [HE.out]
        exact ⟨_, rfl, cdv_zero _ _, HB2.out _ _⟩
end Go.Proofs.Ytmimfnbcffcdfaa
