/-
  WALKS: copied, pieces and its function, Same. Conditions: at most 1000 elements for copied, 1000000000000000 for Same.
-/
import Derived.Test.YtiknbbkblldjiaaCheck
import Derived.RangeFuncNested
import Derived.RangeFuncBound
import Derived.RangeFuncCalls
import Derived.RangeFuncLeaves
import Derived.Shelf.Abstract
import Derived.Shelf.RegionOpen
import Derived.WalkKit
import Derived.OwnWalkIn
import Derived.TacticsInMore
import Derived.LoopNIn
import Derived.LoopIn
namespace Go.Proofs.Ytiknbbkblldjiaa
open Go.RowKit Go.Shelf
attribute [local go_sem] Oper.semAt_some

set_option maxHeartbeats 1000000 in
theorem same_ints (A A' : Option Addr) (n c c' B B' : Nat) (zs : List Int) (w : World) (hA : IntsAt w B A n zs) (hA' : IntsAt w B' A' n zs) (hn : n ≤ 1000000000000000) :
    Calls Try.prog 12 #[.slice A n c, .slice A' n c'] w fun e w' => e = .returned (.bool true) ∧ Drew w w' := by
  have HA := Lib.hid hA
  have HA' := Lib.hid hA'
  clear hA hA'
  go_enter Try.func12, Try.ntmps12
  go_wp2
  go_loopw [5] (fun i wr => ∃ k : Nat, k ≤ n ∧ i = .int .i64 (k : Int) ∧ Drew w wr) (fun i _ => n - (intOf i).toNat)
  case atStart => exact ⟨0, by omega, rfl, Drew.refl _⟩
  case round =>
    obtain ⟨k, hk, rfl, hd⟩ := hrel
    by_cases hlt : k < n
    · obtain ⟨b, o, rfl, _, h1⟩ := HA.out.at_ hlt
      obtain ⟨b', o', rfl, _, g1⟩ := HA'.out.at_ hlt
      rw [← hd.cells] at h1 g1
      generalize zs.getD k 0 = s at *
      have h0 : (0 : Int) ≤ (k : Int) := by omega
      have hkn : (k : Int) < (n : Int) := by omega
      go_wp2
      go_quiet (fail)
      go_wp2
      go_roundw
      case rel => exact ⟨k + 1, by omega, by go_num, hd.trans ⟨_, rfl⟩⟩
      case measure => simp [intOf]; omega
    · go_wp2
      go_ret
      exact ⟨rfl, hd⟩

theorem splice_all (L zs : List Int) (h : L.length = zs.length) : splice L 0 zs = zs := by
  simp [splice, List.drop_eq_nil_of_le (Nat.le_of_eq h)]

set_option maxHeartbeats 1000000 in
theorem copied_any (A : Option Addr) (n c B : Nat) (zs : List Int) (w : World) (hA : IntsAt w B A n zs) (hB : B ≤ w.heap.size) (hn : n ≤ 1000) :
    Calls Try.prog 25 #[.slice A n c] w (RetRow w zs) := by
  have hl := hA.len
  subst hl
  have hmk := make_ints zs.length (by omega) w
  obtain ⟨W', hcp, hrow, hgr, -⟩ := copy_ints (w.alloc (.cells (ints (List.replicate zs.length 0)).toArray 3)) w.heap.size 0 zs.length zs.length B A zs.length c (List.replicate zs.length 0) zs (IntRow.new w _) (by simp) (hA.below ((Below.refl _ w).alloc (Nat.le_refl _) _) hB)
  have HROW : Hid (IntRow W' w.heap.size zs) := by
    show IntRow _ _ _
    have e : Nat.min zs.length zs.length = zs.length := Nat.min_self _
    rw [e, List.take_length, splice_all _ _ (by simp)] at hrow
    exact hrow
  have HB : Hid (Below w.heap.size w W') := ((Below.refl _ w).alloc (Nat.le_refl _) _).grown hgr (by simp) (fun k e => by cases e; exact Nat.le_refl _)
  have e2 : goInt (Nat.min zs.length zs.length) = .int .i64 (zs.length : Int) := by rw [show Nat.min zs.length zs.length = zs.length from Nat.min_self _]; rfl
  rw [e2] at hcp
  clear hrow hgr hA e2
  generalize ints (List.replicate zs.length 0) = Z at *
  go_enter Try.func25, Try.ntmps25
  go_wp2
  go_ret
  exact ⟨w.heap.size, Nat.le_refl _, rfl, HROW.out, HB.out⟩

set_option maxHeartbeats 1000000 in
theorem pieces_any (A : Option Addr) (n c : Nat) (w : World) :
    Calls Try.prog 24 #[.slice A n c] w fun e w' => e = .returned (.func (.func 36) #[] #[.pointer (some ⟨w.heap.size, 0, none⟩)]) ∧ w' = w.alloc (.cells #[.slice A n c] 22) := by
  go_enter Try.func24, Try.ntmps24
  go_wp2
  go_ret
  exact ⟨rfl, rfl⟩
end Go.Proofs.Ytiknbbkblldjiaa
