/-
  WALKS: countCall and Stop of a slab. Conditions: fewer than 1000000 calls so far.
-/
import Derived.Test.YtpljifeebbeakaaSSlab
import Derived.Deep.QuietTactic
import Derived.BigQuiet
namespace Go.Proofs.Ytpljifeebbeakaa.Sl
open Go.RowKit Go.Maps

/-- one call more is counted. -/
def St.tick (σ : St) : St := { σ with calls := σ.calls + 1 }
/-- is it stopped for the next call? -/
def St.halted (σ : St) : Bool := σ.stops && decide (σ.stopAt ≤ (σ.calls : Int))

theorem SlabAt.ticked {w w' : World} {p pd pm : Nat} {σ : St} (h : SlabAt w p pd pm σ) (ht : Turns [] w w') :
    SlabAt (w'.setCell ⟨p, 2, none⟩ (.int .i64 ((σ.calls : Int) + 1))) p pd pm σ.tick ∧ Turns [p] w (w'.setCell ⟨p, 2, none⟩ (.int .i64 ((σ.calls : Int) + 1))) := by
  have h' := h.keptB ht
  have h2 : Turns [p] w' (w'.setCell ⟨p, 2, none⟩ (.int .i64 ((σ.calls : Int) + 1))) := Turns.setCell w' (by simp) _
  refine ⟨h'.fields h2 ?_ rfl rfl, (ht.mono (by simp)).trans h2⟩
  rw [heap_setCell_same _ _ _ _ h'.hp]
  simp [St.cells, St.tick]

theorem drewN_turns (w : World) (n : Nat) : Turns [] w (w.drewN n) := ⟨rfl, rfl, rfl, Nat.le_refl _, fun _ _ _ => rfl⟩

set_option maxHeartbeats 1000000 in
theorem count_any (p pd pm : Nat) (σ : St) (w : World) (h : SlabAt w p pd pm σ) (hc : σ.calls < 1000000) :
    Calls Try.prog 64 #[.pointer (some ⟨p, 0, none⟩)] w fun e w' => e = .returned (.bool σ.halted) ∧ SlabAt w' p pd pm σ.tick ∧ Turns [p] w w' := by
  have c2 := h.c2
  have c3 := h.c3
  have c4 := h.c4
  have f2 := h.fz 2
  have HT := fun w' (ht : Turns [] w w') => h.ticked ht
  have HT := Lib.hid HT
  clear h
  cases hs : σ.stops with
  | false =>
    rw [hs] at c3
    have HH : Hid (σ.halted = false) := by show _ = _; unfold St.halted; rw [hs]; rfl
    clear hs
    go_enter Try.func64, Try.ntmps64
    go_wp2_with fail
    go_quiet (fail)
    go_wp2
    go_ret
    exact ⟨ret_bool HH.out.symm, HT.out _ (drewN_turns _ _)⟩
  | true =>
    rw [hs] at c3
    have HH : Hid (σ.halted = decide (σ.stopAt ≤ (σ.calls : Int))) := by show _ = _; unfold St.halted; rw [hs]; rfl
    clear hs
    go_enter Try.func64, Try.ntmps64
    go_wp2_with fail
    go_quiet (fail)
    go_wp2
    go_ret
    exact ⟨ret_bool HH.out.symm, HT.out _ (drewN_turns _ _)⟩

/-- where it is stopped from, if it is. -/
def St.stop (σ : St) (n : Int) : St := if 0 ≤ n ∧ n ≤ 1099511627776 then { σ with stops := true, stopAt := (σ.calls : Int) + n } else { σ with stops := false, stopAt := 0 }

theorem SlabAt.stopped {w : World} {p pd pm : Nat} {σ : St} (h : SlabAt w p pd pm σ) (b : Bool) (z : Int) :
    SlabAt ((w.setCell ⟨p, 3, none⟩ (.bool b)).setCell ⟨p, 4, none⟩ (.int .i64 z)) p pd pm { σ with stops := b, stopAt := z } ∧ Turns [p] w ((w.setCell ⟨p, 3, none⟩ (.bool b)).setCell ⟨p, 4, none⟩ (.int .i64 z)) := by
  have h2 : Turns [p] w ((w.setCell ⟨p, 3, none⟩ (.bool b)).setCell ⟨p, 4, none⟩ (.int .i64 z)) := (Turns.setCell w (by simp) _).trans (Turns.setCell _ (by simp) _)
  refine ⟨h.fields h2 ?_ rfl rfl, h2⟩
  rw [heap_setCell_same _ _ _ _ (heap_setCell_same _ _ _ _ h.hp)]
  simp [St.cells]

end Go.Proofs.Ytpljifeebbeakaa.Sl
