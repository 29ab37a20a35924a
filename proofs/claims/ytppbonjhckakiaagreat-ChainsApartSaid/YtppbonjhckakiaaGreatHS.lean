/-
  WALKS: slices.Sort and Compact of ints, where the row ascends. Condition: at most 12 numbers.
-/
import Derived.Test.YtppbonjhckakiaaGreatHB
import Derived.BigQuiet
set_option linter.unusedVariables false
set_option linter.unusedSimpArgs false
set_option maxRecDepth 100000
set_option maxHeartbeats 4000000
namespace Go.Proofs.YtppbonjhckakiaaGreat.Dl
open Go.RowKit
open Sl (Turns)

/-! ### Sort and Compact of a row that ascends -/
theorem less_any (x y : Int) (w : World) : Calls Tryz.prog 109 #[.int .i64 x, .int .i64 y] w fun e w' => e = .returned (.bool (decide (x < y))) ∧ w = w' := by
  have HN := Lib.hid nan_any
  go_enter Tryz.func109, Tryz.ntmps109
  go_wp2_with (go_at_call 153; refine (HN.out _ _).mono ?_; rintro e w2 ⟨rfl, rfl⟩)
  go_ret
  exact ⟨rfl, rfl⟩
theorem asc_at {l : List Int} (h : l.Pairwise (· < ·)) {i j : Nat} (hij : i < j) (hj : j < l.length) : l.getD i 0 < l.getD j 0 := by
  have := (List.pairwise_iff_getElem.1 h) i j (by omega) hj hij
  rw [show l.getD i 0 = l[i] by simp [List.getD, List.getElem?_eq_getElem (show i < l.length by omega)], show l.getD j 0 = l[j] by simp [List.getD, List.getElem?_eq_getElem hj]]
  exact this
theorem ins_any (A : Option Addr) (n c B : Nat) (zs : List Int) (w : World) (hr : IntsAt w B A n zs) (hB : B ≤ w.heap.size) (ha : zs.Pairwise (· < ·)) (hn : n ≤ 12) :
    Calls Tryz.prog 103 #[.slice A n c, .int .i64 0, .int .i64 (n : Int)] w fun e w' => e = .returned (.tuple #[]) ∧ Below w.heap.size w w' := by
  have HL := Lib.hid hr.len
  have HA := Lib.hid hr
  have HB := Lib.hid hB
  have HS := Lib.hid less_any
  have HAS := Lib.hid (fun i j (hij : i < j) (hj : j < n) => asc_at ha hij (by rw [hr.len]; exact hj))
  clear hr ha hB
  go_enter Tryz.func103, Tryz.ntmps103
  go_wp2
  go_loopw [6, 7] (fun i _ wr => ∃ t : Nat, i = .int .i64 ((t : Int) + 1) ∧ Hid (Below w.heap.size w wr)) (fun i _ _ => n - (intOf i).toNat)
  case atStart => exact ⟨0, by go_num, Below.refl _ _⟩
  case round =>
    obtain ⟨t, rfl, hb⟩ := hrel
    by_cases hlt : t + 1 < n
    · have hlt2 : (t : Int) + 1 < (n : Int) := by omega
      obtain ⟨b, o, rfl, hbB, h1⟩ := (HA.out.below hb.out HB.out).at_ hlt
      obtain ⟨b2, o2, e2, hbB2, h2⟩ := (HA.out.below hb.out HB.out).at_ (show t < n by omega)
      cases e2
      have hd : decide ((t : Int) + 1 > 0) = true := decide_eq_true (by omega)
      have hless : decide (zs.getD (t + 1) 0 < zs.getD t 0) = false := decide_eq_false (by have := HAS.out t (t + 1) (by omega) hlt; omega)
      generalize zs.getD (t + 1) 0 = x at *
      generalize zs.getD t 0 = y at *
      have HS2 := Lib.hid (fun W => less_any x y W)
      rw [hless] at HS2
      have et : ((t : Int) + 1 - 1) = (t : Int) := by omega
      have hw1 : IntKind.i64.wrap ((t : Int) + 1 - 1) = (t : Int) := IntWalk.i64_in _ (by omega) |>.trans (by omega)
      have hw2 : IntKind.i64.wrap (t : Int) = (t : Int) := IntWalk.i64_in _ (by omega)
      have hg0 : (0 : Int) < (t : Int) + 1 := by omega
      have hg1 : (t : Int) < (n : Int) := by omega
      have hg2 : (0 : Int) ≤ (t : Int) := by omega
      have hg3 : (0 : Int) ≤ (t : Int) + 1 := by omega
      have hg4 : ((t : Int) + 1).toNat = t + 1 := by omega
      have HBD := Lib.hid (hb.out.drew)
      go_wp2_with fail
      go_loopw [7] (fun j w2 => j = .int .i64 ((t : Int) + 1) ∧ w2 = wr) (fun _ _ => 0)
      case atStart => exact ⟨rfl, rfl⟩
      case round =>
        obtain ⟨rfl, rfl⟩ := hrel
        go_wp2_with fail
        go_region_held3 (fun W => W.cell? ⟨b, o + (t + 1), none⟩ = some (.int .i64 x) ∧ W.cell? ⟨b, o + t, none⟩ = some (.int .i64 y))
          (exact ⟨h1, h2⟩)
          ((go_at_call 109; refine (HS2.out _).mono ?_; rintro e w3 ⟨rfl, rfl⟩))
        go_wp2
        go_roundw
        case rel => exact ⟨t + 1, by go_num, HBD.out⟩
        case measure => simp [intOf]; omega
    · have hlt2 : ¬ (t : Int) + 1 < (n : Int) := by omega
      have hlt3 : ((n : Int) ≤ (t : Int) + 1) := by omega
      go_wp2
      go_end0
      exact ⟨rfl, hb.out⟩
theorem len64_small (z : Nat) (hz : z ≤ 12) (w : World) : Calls Tryz.prog 113 #[.int .u64 (z : Int)] w fun e w' => (∃ z, e = .returned (.int .i64 z)) ∧ w = w' := by
  have h : z = 0 ∨ z = 1 ∨ z = 2 ∨ z = 3 ∨ z = 4 ∨ z = 5 ∨ z = 6 ∨ z = 7 ∨ z = 8 ∨ z = 9 ∨ z = 10 ∨ z = 11 ∨ z = 12 := by omega
  rcases h with rfl | rfl | rfl | rfl | rfl | rfl | rfl | rfl | rfl | rfl | rfl | rfl | rfl
  all_goals
    go_enter Tryz.func113, Tryz.ntmps113
    go_wp2
    go_ret
    exact ⟨⟨_, rfl⟩, rfl⟩
theorem len_small (z : Nat) (hz : z ≤ 12) (w : World) : Calls Tryz.prog 73 #[.int .u64 (z : Int)] w fun e w' => (∃ z, e = .returned (.int .i64 z)) ∧ w = w' := by
  have HS := Lib.hid (len64_small z hz)
  have h1 : ((z : Int) % 18446744073709551616) = (z : Int) := by omega
  go_enter Tryz.func73, Tryz.ntmps73
  go_wp2_with (go_at_call 113; refine (HS.out _).mono ?_; rintro e w3 ⟨⟨z, rfl⟩, rfl⟩)
  go_ret
  exact ⟨⟨_, rfl⟩, rfl⟩
theorem pdq_any (z : Int) (A : Option Addr) (n c B : Nat) (zs : List Int) (w : World) (hr : IntsAt w B A n zs) (hB : B ≤ w.heap.size) (ha : zs.Pairwise (· < ·)) (hn : n ≤ 12) :
    Calls Tryz.prog 72 #[.slice A n c, .int .i64 0, .int .i64 (n : Int), .int .i64 z] w fun e w' => e = .returned (.tuple #[]) ∧ Below w.heap.size w w' := by
  have HI := Lib.hid (ins_any A n c B zs w hr hB ha hn)
  have hn2 : (n : Int) ≤ 12 := by omega
  clear hr hB ha hn
  go_enter Tryz.func72, Tryz.ntmps72
  go_wp2
  go_loopw [1, 2, 3, 8, 9] (fun a b l x y wr => a = .int .i64 0 ∧ b = .int .i64 (n : Int) ∧ l = .int .i64 z ∧ x = .bool true ∧ y = .bool true ∧ wr = w) (fun _ _ _ _ _ _ => 0)
  case atStart => exact ⟨rfl, rfl, rfl, rfl, rfl, rfl⟩
  case round =>
    obtain ⟨rfl, rfl, rfl, rfl, rfl, rfl⟩ := hrel
    go_wp2_with (go_at_call 103; refine HI.out.mono ?_; rintro e w3 ⟨rfl, b3⟩)
    refine bodyPost_ret (results_none rfl _ _ _) rfl ?_
    exact ⟨rfl, b3⟩
theorem sort_any (A : Option Addr) (n c B : Nat) (zs : List Int) (w : World) (hr : IntsAt w B A n zs) (hB : B ≤ w.heap.size) (ha : zs.Pairwise (· < ·)) (hn : n ≤ 12) :
    Calls Tryz.prog 36 #[.slice A n c] w fun e w' => e = .returned (.tuple #[]) ∧ Below w.heap.size w w' := by
  have HP := Lib.hid (fun z => pdq_any z A n c B zs w hr hB ha hn)
  have HN := Lib.hid (len_small n hn)
  have h1 : ((n : Int) % 18446744073709551616) = (n : Int) := by omega
  clear hr hB ha
  go_enter Tryz.func36, Tryz.ntmps36
  go_wp2_with (first
    | (go_at_call 73; refine (HN.out _).mono ?_; rintro e w3 ⟨⟨z, rfl⟩, rfl⟩)
    | (go_at_call 72; refine (HP.out _).mono ?_; rintro e w3 ⟨rfl, b3⟩))
  go_end0
  exact ⟨rfl, b3⟩
/-- Compact leaves a row that ascends as it is. -/
theorem compact_any (A : Option Addr) (n c B : Nat) (zs : List Int) (w : World) (hr : IntsAt w B A n zs) (hB : B ≤ w.heap.size) (ha : zs.Pairwise (· < ·)) (hn : n ≤ 12) :
    Calls Tryz.prog 37 #[.slice A n c] w fun e w' => e = .returned (.slice A n c) ∧ Below w.heap.size w w' := by
  have HA := Lib.hid hr
  have HB := Lib.hid hB
  have HAS := Lib.hid (fun i j (hij : i < j) (hj : j < n) => asc_at ha hij (by rw [hr.len]; exact hj))
  clear hr ha hB
  by_cases h2 : n < 2
  · go_enter Tryz.func37, Tryz.ntmps37
    go_wp2
    go_ret
    exact ⟨rfl, Below.refl _ _⟩
  · have h2' : ¬ (n : Int) < 2 := by omega
    go_enter Tryz.func37, Tryz.ntmps37
    go_wp2
    go_loopw [3] (fun i wr => ∃ t : Nat, t + 1 ≤ n ∧ i = .int .i64 ((t : Int) + 1) ∧ Hid (Below w.heap.size w wr)) (fun i _ => n - (intOf i).toNat)
    case atStart => exact ⟨0, by omega, by go_num, Below.refl _ _⟩
    case round =>
      obtain ⟨t, ht, rfl, hb⟩ := hrel
      by_cases hlt : t + 1 < n
      · have hlt2 : (t : Int) + 1 < (n : Int) := by omega
        obtain ⟨b, o, rfl, hbB, h1⟩ := (HA.out.below hb.out HB.out).at_ hlt
        obtain ⟨b2, o2, e2, hbB2, h2⟩ := (HA.out.below hb.out HB.out).at_ (show t < n by omega)
        cases e2
        have hne : (zs.getD (t + 1) 0 == zs.getD t 0) = false := by rw [beq_eq_false_iff_ne]; have := HAS.out t (t + 1) (by omega) hlt; omega
        generalize zs.getD (t + 1) 0 = x at *
        generalize zs.getD t 0 = y at *
        have et : ((t : Int) + 1 - 1) = (t : Int) := by omega
        have hw1 : IntKind.i64.wrap ((t : Int) + 1 - 1) = (t : Int) := IntWalk.i64_in _ (by omega) |>.trans (by omega)
        have hw2 : IntKind.i64.wrap (t : Int) = (t : Int) := IntWalk.i64_in _ (by omega)
        have hg1 : (t : Int) < (n : Int) := by omega
        have hg2 : (0 : Int) ≤ (t : Int) := by omega
        have hg3 : (0 : Int) ≤ (t : Int) + 1 := by omega
        have hg4 : ((t : Int) + 1).toNat = t + 1 := by omega
        have HBD := Lib.hid (hb.out.drew)
        go_wp2_with fail
        go_quiet (fail)
        go_wp2
        go_roundw
        case rel => exact ⟨t + 1, by omega, by go_num, Lg.Below.drews hb.out ⟨_, rfl⟩⟩
        case measure => simp [intOf]; omega
      · have hlt2 : ¬ (t : Int) + 1 < (n : Int) := by omega
        go_wp2
        go_ret
        exact ⟨rfl, hb.out⟩
end Go.Proofs.YtppbonjhckakiaaGreat.Dl
