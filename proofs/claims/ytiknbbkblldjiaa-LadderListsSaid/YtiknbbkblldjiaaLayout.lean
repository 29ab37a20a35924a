/-
  WALKS: bits.Mul, slices.Repeat and layout: eight widths of two bytes. No condition.
-/
import Derived.Test.YtiknbbkblldjiaaFrame
import Derived.RegionTactic
namespace Go.Proofs.Ytiknbbkblldjiaa
open Go.RowKit Go.Shelf

def w8 : List Int := [2, 2, 2, 2, 2, 2, 2, 2]

set_option maxHeartbeats 1000000 in
theorem mul64_18 (w : World) : Calls Try.prog 48 #[.int .u64 1, .int .u64 8] w fun e w' => e = .returned (.tuple #[.int .u64 0, .int .u64 8]) ∧ w = w' := by
  go_enter Try.func48, Try.ntmps48
  go_wp2
  go_ret2
  exact ⟨by kernel_rfl, rfl⟩
set_option maxHeartbeats 1000000 in
theorem mul_18 (w : World) : Calls Try.prog 46 #[.int .u64 1, .int .u64 8] w fun e w' => e = .returned (.tuple #[.int .u64 0, .int .u64 8]) ∧ w = w' := by
  go_enter Try.func46, Try.ntmps46
  go_wp2_with (go_at_call 48; refine (mul64_18 _).mono ?_; rintro e w' ⟨rfl, rfl⟩)
  go_ret2
  exact ⟨rfl, rfl⟩
def rep (k : Nat) : List Int := List.replicate k 2 ++ List.replicate (8 - k) 0
/-- one round: k twos become twice as many. -/
theorem rep_copy (W : World) (g k : Nat) (hk : k = 1 ∨ k = 2 ∨ k = 4) (h : IntRow W g (rep k)) :
    ∃ W', (Builtin.copy_ #[22, 22] 3 #[.slice (some ⟨g, k, none⟩) (8 - k) (8 - k), .slice (some ⟨g, 0, none⟩) k 8]).run Try.prog W = .ok (.int .i64 (k : Int)) W' ∧ IntRow W' g (rep (k + k)) ∧ W.grownBy W' (some g) := by
  have hf : ∀ z ∈ rep k, Fit z := by
    intro z hz
    unfold rep at hz
    rcases List.mem_append.1 hz with h1 | h1
    · rw [List.eq_of_mem_replicate h1]; unfold Fit; omega
    · rw [List.eq_of_mem_replicate h1]; unfold Fit; omega
  have hl : (rep k).length = 8 := by simp [rep]; omega
  have hs := h.sub hf h.lt 0 k (by omega)
  obtain ⟨W', h1, h2, h3, _⟩ := copy_ints W g k (8 - k) (8 - k) W.heap.size (some ⟨g, 0, none⟩) k 8 (rep k) _ h (by omega) hs
  refine ⟨W', ?_, ?_, h3⟩
  · rw [h1]
    rcases hk with rfl | rfl | rfl <;> rfl
  · rcases hk with rfl | rfl | rfl <;> exact h2

set_option maxHeartbeats 2000000 in
theorem repeat_any (b : Nat) (w : World) (hb : IntRow w b [2]) :
    Calls Try.prog 40 #[.slice (some ⟨b, 0, none⟩) 1 1, .int .i64 8] w (RetRow w w8) := by
  have hmk : (Instr.makeSlice 22 (.int .i64 8) (.int .i64 8)).run Try.prog w = .ok (.slice (some ⟨w.heap.size, 0, none⟩) 8 8) (w.alloc (.cells (ints (List.replicate 8 0)).toArray 3)) := make_ints 8 (by omega) w
  have hr0 := IntRow.new w (List.replicate 8 0)
  have hi : IntsAt w w.heap.size (some ⟨b, 0, none⟩) 1 [2] := hb.ints (by unfold Fit; simp) hb.lt
  obtain ⟨W1, hcp, hr1, hg1, hz0⟩ := copy_ints (w.alloc (.cells (ints (List.replicate 8 0)).toArray 3)) w.heap.size 0 8 8 w.heap.size (some ⟨b, 0, none⟩) 1 1 (List.replicate 8 0) [2] hr0 (by simp) (hi.below ((Below.refl _ w).alloc (Nat.le_refl _) _) (Nat.le_refl _))
  have HR1 : Hid (IntRow W1 w.heap.size (rep 1)) := hr1
  have HB1 : Hid (Below w.heap.size w W1) := ((Below.refl _ w).alloc (Nat.le_refl _) _).grown hg1 (by simp) (fun k e => by cases e; exact Nat.le_refl _)
  have hcp' : (Builtin.copy_ #[22, 22] 3 #[.slice (some ⟨w.heap.size, 0, none⟩) 8 8, .slice (some ⟨b, 0, none⟩) 1 1]).run Try.prog (w.alloc (.cells (ints (List.replicate 8 0)).toArray 3)) = .ok (.int .i64 1) W1 := hcp
  clear hr1 hg1 hz0 hr0 hi hcp hb
  generalize ints (List.replicate 8 0) = Z at *
  go_enter Try.func40, Try.ntmps40
  go_wp2_with (go_at_call 46; refine (mul_18 _).mono ?_; rintro e w' ⟨rfl, rfl⟩)
  go_loopw [8] (fun j wr => ∃ k : Nat, (k = 1 ∨ k = 2 ∨ k = 4 ∨ k = 8) ∧ j = .int .i64 (k : Int) ∧ IntRow wr w.heap.size (rep k) ∧ Below w.heap.size w wr) (fun j _ => 8 - (intOf j).toNat)
  case atStart => exact ⟨1, by omega, rfl, HR1.out, HB1.out⟩
  case round =>
    obtain ⟨k, hk, rfl, hrow, hb⟩ := hrel
    have HROW := Lib.hid hrow
    have HB := Lib.hid hb
    clear hrow hb hcp' hmk
    by_cases h8 : k = 8
    · subst h8
      rw [show ((8 : Nat) : Int) = 8 from rfl]
      go_wp2
      go_ret
      exact ⟨w.heap.size, Nat.le_refl _, rfl, HROW.out, HB.out⟩
    · have hk3 : k = 1 ∨ k = 2 ∨ k = 4 := by omega
      obtain ⟨W', hc, hr2, hg2⟩ := rep_copy wr.drew w.heap.size k hk3 HROW.out
      have HR2 := Lib.hid hr2
      have HB2 : Hid (Below w.heap.size w W') := (Below.drews HB.out ⟨1, rfl⟩).grown hg2 (by have := HB.out.size; exact this) (fun q e => by cases e; exact Nat.le_refl _)
      clear hr2 hg2
      rcases hk3 with rfl | rfl | rfl
      · rw [show ((1 : Nat) : Int) = 1 from rfl] at hc ⊢
        simp only [Nat.reduceSub] at hc
        go_wp2
        go_region
        all_goals
          go_wp2
          go_roundw
          case rel => exact ⟨2, by omega, rfl, HR2.out, HB2.out⟩
          case measure => simp [intOf]
      · rw [show ((2 : Nat) : Int) = 2 from rfl] at hc ⊢
        simp only [Nat.reduceSub] at hc
        go_wp2
        go_region
        all_goals
          go_wp2
          go_roundw
          case rel => exact ⟨4, by omega, rfl, HR2.out, HB2.out⟩
          case measure => simp [intOf]
      · rw [show ((4 : Nat) : Int) = 4 from rfl] at hc ⊢
        simp only [Nat.reduceSub] at hc
        go_wp2
        go_region
        all_goals
          go_wp2
          go_roundw
          case rel => exact ⟨8, by omega, rfl, HR2.out, HB2.out⟩
          case measure => simp [intOf]

set_option maxHeartbeats 1000000 in
theorem layout_any (w : World) : Calls Try.prog 30 #[] w (RetRow w w8) := by
  have hr := Lib.hid (IntRow.new w [2])
  go_enter Try.func30, Try.ntmps30
  go_wp2_with fail
  refine (repeat_any w.heap.size _ hr.out).mono ?_
  rintro e w2 ⟨g, hg, rfl, hrow, b2⟩
  have HROW := Lib.hid hrow
  have HB := Lib.hid (((Below.refl _ w).alloc (Nat.le_refl _) (.cells #[.int .i64 2] 3)).trans (b2.mono (by simp)))
  have hg2 : w.heap.size ≤ g := by simp at hg; omega
  clear hrow b2 hg
  go_wp2
  go_ret
  exact ⟨g, hg2, rfl, HROW.out, HB.out⟩
theorem w8_fit : ∀ z ∈ w8, Fit z := by unfold Fit; decide
end Go.Proofs.Ytiknbbkblldjiaa
