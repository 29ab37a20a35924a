/-
  WALK: strings.Clone returns the text. Condition: at most 2^47 bytes.
  WALKS: Pick and Place return a card's bytes in a block, and a block with a card's bytes in it, or that they may not be. Condition: the numbers are of an int64.
-/
import Derived.Test.YtapjbffhihhnbaaGreatBM
import Derived.Lib.Walk
import Derived.Lib.BufferWrite
import Derived.Lib.Bytealg
import Derived.Lib.IndexLaws
import Derived.Lib.UnsafeStr
import Derived.Laws.MakeOwn
import Derived.Laws.IdiomStrings
import Derived.Test.YtapjbffhihhnbaaGreatBC
import Derived.Deep.QuietTactic
import Derived.BigQuiet
import Derived.BigRegion
import Derived.IntWalk
namespace Go.Proofs.YtapjbffhihhnbaaGreat
open Go.RowKit


set_option maxRecDepth 100000 in
set_option maxHeartbeats 4000000 in
theorem sliteClone_any (s : ByteArray) (w : World) (hs : s.size ≤ 140737488355328) :
    Calls Tryz.prog 118 #[.string s] w fun e w' => e = .returned (.string s) ∧ Below w.heap.size w w' := by
  by_cases h0 : s.size = 0
  · have hs : s = ⟨#[]⟩ := by
      apply ByteArray.ext
      exact Array.eq_empty_of_size_eq_zero h0
    subst hs
    go_enter Tryz.func118, Tryz.ntmps118
    go_wp2
    go_ret
    exact ⟨rfl, Below.refl _ _⟩
  · obtain ⟨M, hM, hMs, hmk⟩ := make_bytes s.size hs
    have hcp := Lib.run_copy_row_string (P := Tryz.prog) (w.alloc (.cells M 5)) 125 9 3 5 w.heap.size 0 s.size s.size s M 5 Tryz.underlying125 info5size (heap_alloc_new w _) (Nat.le_refl _) (by omega)
    obtain ⟨Y, hY⟩ : ∃ Y, Y = (M.toList.take 0 ++ Lib.byteCells s.data.toList ++ M.toList.drop (0 + s.size)).toArray := ⟨_, rfl⟩
    rw [← hY] at hcp
    have hYl : Y.toList = Lib.byteCells s.data.toList := by
      rw [hY, List.toList_toArray, List.take_zero, List.nil_append, List.drop_of_length_le (by rw [Array.length_toList]; omega), List.append_nil]
    have hYs : Y.size = s.size := by rw [← Array.length_toList, hYl, Lib.byteCells_length, ← Lib.size_eq]
    have hgY : ((w.alloc (.cells M 5)).setRow w.heap.size Y).heap[w.heap.size]? = some (.cells Y 5 (0, 0)) := setRow_heap _ _ M _ 5 (0, 0) (heap_alloc_new w _)
    have hne : s.data.toList ≠ [] := fun e => h0 (by rw [Lib.size_eq, e]; rfl)
    have hUS := Lib.run_unsafeString_row (P := Tryz.prog) ((w.alloc (.cells M 5)).setRow w.heap.size Y) 150 3 9 5 Tryz.underlying150 Tryz.cells5 w.heap.size Y.size (by unfold World.shape?; rw [hgY]) s.data.toList hne (by rw [← Lib.size_eq]; omega) (by rw [← Lib.size_eq]; omega)
      (fun j x hx => Lib.cells_of_row hgY Y.size j _ (by rw [List.take_of_length_le (by rw [Array.length_toList]; exact Nat.le_refl _), hYl]; simp [Lib.byteCells, hx]))
    rw [← Lib.size_eq] at hUS
    have hb2 : Below w.heap.size w ((w.alloc (.cells M 5)).setRow w.heap.size Y) :=
      ((Below.refl _ w).alloc (Nat.le_refl _) (.cells M 5)).trans ⟨rfl, rfl, rfl, by simp, fun k hk => setRow_other _ _ _ _ (by omega)⟩
    clear hY hM hYl
    go_enter Tryz.func118, Tryz.ntmps118
    go_wp2
    go_ret
    exact ⟨rfl, Lib.below_freeze hb2 (p := ⟨w.heap.size, 0, none⟩) (Nat.le_refl _) _⟩

set_option maxRecDepth 100000 in
set_option maxHeartbeats 1000000 in
theorem clone_any (s : ByteArray) (w : World) (hs : s.size ≤ 140737488355328) :
    Calls Tryz.prog 80 #[.string s] w fun e w' => e = .returned (.string s) ∧ Below w.heap.size w w' := by
  go_enter Tryz.func80, Tryz.ntmps80
  go_wp2_with fail
  refine (sliteClone_any s w hs).mono ?_
  rintro e w1 ⟨rfl, hb1⟩
  go_wp2
  go_ret
  exact ⟨rfl, hb1⟩
end Go.Proofs.YtapjbffhihhnbaaGreat

namespace Go.Proofs.YtapjbffhihhnbaaGreat
open Go.RowKit

def isP (s : ByteArray) (z : Int) : Bool := decide (s.size = 128) && (decide (0 ≤ z) && decide (z ≤ 3))
def pickR (s : ByteArray) (z : Int) : ByteArray × Int := if isP s z = true then (s.extract (32 * z.toNat) (32 * z.toNat + 32), 0) else (⟨#[]⟩, 1)
def placeR (s : ByteArray) (z : Int) (c : ByteArray) : ByteArray × Int :=
  if isP s z = true ∧ c.size = 32 then (s.extract 0 (32 * z.toNat) ++ c ++ s.extract (32 * z.toNat + 32) 128, 0) else (⟨#[]⟩, 1)
set_option maxRecDepth 100000 in
theorem isP_t {s : ByteArray} {z : Int} (h : isP s z = true) : s.size = 128 ∧ (z = 0 ∨ z = 1 ∨ z = 2 ∨ z = 3) := by
  simp only [isP, Bool.and_eq_true, decide_eq_true_eq] at h
  exact ⟨h.1, by omega⟩

set_option maxRecDepth 100000 in
set_option maxHeartbeats 1000000 in
theorem pick_any (s : ByteArray) (z : Int) (w : World) :
    Calls Tryz.prog 53 #[.string s, .int .i64 z] w fun e w' => e = .returned (.tuple #[.string (pickR s z).1, .int .i64 (pickR s z).2]) ∧ Below w.heap.size w w' := by
  cases hp : isP s z with
  | false =>
    have HI := Lib.hid (fun w => isPlace_any s z false w hp)
    have HP : Hid (pickR s z = (⟨#[]⟩, 1)) := by show _ = _; unfold pickR; rw [if_neg (by rw [hp]; decide)]
    clear hp
    go_enter Tryz.func53, Tryz.ntmps53
    go_wp2_with fail
    refine (HI.out _).mono ?_
    rintro e w1 ⟨rfl, rfl⟩
    go_wp2
    go_ret2
    rw [HP.out]
    exact ⟨rfl, Below.refl _ _⟩
  | true =>
    have HI := Lib.hid (fun w => isPlace_any s z true w hp)
    have HP : Hid (pickR s z = (s.extract (32 * z.toNat) (32 * z.toNat + 32), 0)) := by show _ = _; unfold pickR; rw [if_pos hp]
    obtain ⟨hs, hz⟩ := isP_t hp
    have hs1 : 128 ≤ s.size := by omega
    have hs2 : s.size ≤ 128 := by omega
    have HX : Hid (∀ a b, (s.extract a b).size ≤ 140737488355328) := fun a b => by rw [ByteArray.size_extract]; omega
    have HCL := Lib.hid (fun a b v => clone_any (s.extract a b) v (HX.out a b))
    clear hp hs
    rcases hz with rfl | rfl | rfl | rfl
    all_goals
      go_enter Tryz.func53, Tryz.ntmps53
      go_wp2_with fail
      refine (HI.out _).mono ?_
      rintro e w1 ⟨rfl, rfl⟩
      go_wp2_with fail
      refine (HCL.out _ _ _).mono ?_
      rintro e w2 ⟨rfl, b2⟩
      have HB := Lib.hid b2
      clear b2
      go_wp2
      go_ret2
      rw [HP.out]
      exact ⟨rfl, HB.out⟩

set_option maxRecDepth 100000 in
theorem Below.dr' {B : Nat} {a b : World} (h : Below B a b) : Below B a b.drew := ⟨h.os, h.tape, h.output, h.size, h.block⟩
set_option maxRecDepth 100000 in
set_option maxHeartbeats 1000000 in
theorem place_any (s : ByteArray) (z : Int) (c : ByteArray) (w : World) :
    Calls Tryz.prog 56 #[.string s, .int .i64 z, .string c] w fun e w' => e = .returned (.tuple #[.string (placeR s z c).1, .int .i64 (placeR s z c).2]) ∧ Below w.heap.size w w' := by
  cases hp : isP s z with
  | false =>
    have HI := Lib.hid (fun w => isPlace_any s z false w hp)
    have HP : Hid (placeR s z c = (⟨#[]⟩, 1)) := by show _ = _; unfold placeR; rw [if_neg (by rw [hp]; simp)]
    clear hp
    go_enter Tryz.func56, Tryz.ntmps56
    go_wp2_with fail
    refine (HI.out _).mono ?_
    rintro e w1 ⟨rfl, rfl⟩
    go_wp2
    go_ret2
    rw [HP.out]
    exact ⟨rfl, Below.refl _ _⟩
  | true =>
    have HI := Lib.hid (fun w => isPlace_any s z true w hp)
    by_cases hc : c.size = 32
    · have HP : Hid (placeR s z c = (s.extract 0 (32 * z.toNat) ++ c ++ s.extract (32 * z.toNat + 32) 128, 0)) := by show _ = _; unfold placeR; rw [if_pos ⟨hp, hc⟩]
      have d1 : ((c.size : Int) != 32) = false := by simp [hc]
      obtain ⟨hs, hz⟩ := isP_t hp
      have HSZ := Lib.hid hs
      have hc1 : c.size ≤ 32 := by omega
      have hs3 : (32 : Int) ≤ (s.size : Int) := by omega
      have hs4 : (64 : Int) ≤ (s.size : Int) := by omega
      have hs5 : (96 : Int) ≤ (s.size : Int) := by omega
      have hs6 : (128 : Int) ≤ (s.size : Int) := by omega
      have hs1 : 128 ≤ s.size := by omega
      have hs2 : s.size ≤ 128 := by omega
      clear hp hs hc
      rcases hz with rfl | rfl | rfl | rfl
      all_goals
        go_enter Tryz.func56, Tryz.ntmps56
        go_wp2_with fail
        refine (HI.out _).mono ?_
        rintro e w1 ⟨rfl, rfl⟩
        go_wp2
        have x0 : IntKind.i64.wrap 0 = 0 := IntWalk.i64_in _ (by omega)
        have x1 : IntKind.i64.wrap 1 = 1 := IntWalk.i64_in _ (by omega)
        have x2 : IntKind.i64.wrap 2 = 2 := IntWalk.i64_in _ (by omega)
        have x3 : IntKind.i64.wrap 3 = 3 := IntWalk.i64_in _ (by omega)
        have x4 : IntKind.i64.wrap 4 = 4 := IntWalk.i64_in _ (by omega)
        have x32 : IntKind.i64.wrap 32 = 32 := IntWalk.i64_in _ (by omega)
        have x64 : IntKind.i64.wrap 64 = 64 := IntWalk.i64_in _ (by omega)
        have x96 : IntKind.i64.wrap 96 = 96 := IntWalk.i64_in _ (by omega)
        have x128 : IntKind.i64.wrap 128 = 128 := IntWalk.i64_in _ (by omega)
        go_region
        all_goals clear x0 x1 x2 x3 x4 x32 x64 x96 x128
        all_goals go_wp2
        all_goals go_ret2
        all_goals rw [HP.out]
        all_goals exact ⟨by simp [HSZ.out], Below.dr' (Below.refl _ _)⟩
    · have HP : Hid (placeR s z c = (⟨#[]⟩, 1)) := by show _ = _; unfold placeR; rw [if_neg (fun h => hc h.2)]
      have d1 : ((c.size : Int) != 32) = true := by simp; omega
      clear hp hc
      go_enter Tryz.func56, Tryz.ntmps56
      go_wp2_with fail
      refine (HI.out _).mono ?_
      rintro e w1 ⟨rfl, rfl⟩
      go_wp2
      go_ret2
      rw [HP.out]
      exact ⟨rfl, Below.refl _ _⟩
end Go.Proofs.YtapjbffhihhnbaaGreat
