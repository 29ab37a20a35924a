/-
  WALKS: countCall and Stop of a slab. Conditions: fewer than 1000000 calls so far.
-/
import Derived.Test.YtclfklpekkkkfaaSlab
import Derived.Deep.QuietTactic
import Derived.BigQuiet
namespace Go.Proofs.Ytclfklpekkkkfaa
open Go.RowKit Go.Maps

/-- one call more is counted. -/
def St.tick (σ : St) : St := { σ with calls := σ.calls + 1 }
/-- is it stopped for the next call? -/
def St.halted (σ : St) : Bool := σ.stops && decide (σ.stopAt ≤ (σ.calls : Int))

theorem SlabAt.ticked {w w' : World} {p pd pm : Nat} {σ : St} (h : SlabAt w p pd pm σ) (ht : Turns [] w w') :
    SlabAt (w'.setCell ⟨p, 2, none⟩ (.int .i64 ((σ.calls : Int) + 1))) p pd pm σ.tick ∧ Turns [p] w (w'.setCell ⟨p, 2, none⟩ (.int .i64 ((σ.calls : Int) + 1))) := by
  have h' := h.keptB ht
  have h2 : Turns [p] w' (w'.setCell ⟨p, 2, none⟩ (.int .i64 ((σ.calls : Int) + 1))) := Turns.setCell w' (by simp) _
  refine ⟨h'.fields h2 ?_ rfl rfl, (ht.mono (by simp)).trans h2⟩
  rw [heap_setCell_same _ _ _ _ h'.hp]
  simp [St.cells, St.tick]

theorem drewN_turns (w : World) (n : Nat) : Turns [] w (w.drewN n) := ⟨rfl, rfl, rfl, Nat.le_refl _, fun _ _ _ => rfl⟩

set_option maxHeartbeats 1000000 in
theorem count_any (p pd pm : Nat) (σ : St) (w : World) (h : SlabAt w p pd pm σ) (hc : σ.calls < 1000000) :
    Calls Try.prog 29 #[.pointer (some ⟨p, 0, none⟩)] w fun e w' => e = .returned (.bool σ.halted) ∧ SlabAt w' p pd pm σ.tick ∧ Turns [p] w w' := by
  have c2 := h.c2
  have c3 := h.c3
  have c4 := h.c4
  have f2 := h.fz 2
  have HT := fun w' (ht : Turns [] w w') => h.ticked ht
  have HT := Lib.hid HT
  clear h
  cases hs : σ.stops with
  | false =>
    rw [hs] at c3
    have HH : Hid (σ.halted = false) := by show _ = _; unfold St.halted; rw [hs]; rfl
    clear hs
    go_enter Try.func29, Try.ntmps29
    go_wp2_with fail
    go_quiet (fail)
    go_wp2
    go_ret
    exact ⟨ret_bool HH.out.symm, HT.out _ (drewN_turns _ _)⟩
  | true =>
    rw [hs] at c3
    have HH : Hid (σ.halted = decide (σ.stopAt ≤ (σ.calls : Int))) := by show _ = _; unfold St.halted; rw [hs]; rfl
    clear hs
    go_enter Try.func29, Try.ntmps29
    go_wp2_with fail
    go_quiet (fail)
    go_wp2
    go_ret
    exact ⟨ret_bool HH.out.symm, HT.out _ (drewN_turns _ _)⟩

/-- where it is stopped from, if it is. -/
def St.stop (σ : St) (n : Int) : St := if 0 ≤ n ∧ n ≤ 1099511627776 then { σ with stops := true, stopAt := (σ.calls : Int) + n } else { σ with stops := false, stopAt := 0 }

theorem SlabAt.stopped {w : World} {p pd pm : Nat} {σ : St} (h : SlabAt w p pd pm σ) (b : Bool) (z : Int) :
    SlabAt ((w.setCell ⟨p, 3, none⟩ (.bool b)).setCell ⟨p, 4, none⟩ (.int .i64 z)) p pd pm { σ with stops := b, stopAt := z } ∧ Turns [p] w ((w.setCell ⟨p, 3, none⟩ (.bool b)).setCell ⟨p, 4, none⟩ (.int .i64 z)) := by
  have h2 : Turns [p] w ((w.setCell ⟨p, 3, none⟩ (.bool b)).setCell ⟨p, 4, none⟩ (.int .i64 z)) := (Turns.setCell w (by simp) _).trans (Turns.setCell _ (by simp) _)
  refine ⟨h.fields h2 ?_ rfl rfl, h2⟩
  rw [heap_setCell_same _ _ _ _ (heap_setCell_same _ _ _ _ h.hp)]
  simp [St.cells]

set_option maxHeartbeats 1000000 in
theorem stop_any (p pd pm : Nat) (σ : St) (n : Int) (w : World) (h : SlabAt w p pd pm σ) (hn : -9223372036854775808 ≤ n ∧ n ≤ 9223372036854775807) (hc : σ.calls < 1000000) :
    Calls Try.prog 19 #[.pointer (some ⟨p, 0, none⟩), .int .i64 n] w fun e w' => e = .returned (.tuple #[]) ∧ SlabAt w' p pd pm (σ.stop n) ∧ Turns [p] w w' := by
  obtain ⟨h1, t1⟩ := h.stopped false 0
  have c2 := h1.c2
  have f3 := h.fz 3
  have f4 : ∀ v, (w.setCell ⟨p, 3, none⟩ v).frozen? ⟨p, 4, none⟩ = false := fun v => by simp [World.frozen?, heap_setCell_same w p 3 v h.hp]
  have g3 := h1.fz 3
  have g4 : ∀ v, (((w.setCell ⟨p, 3, none⟩ (.bool false)).setCell ⟨p, 4, none⟩ (.int .i64 0)).setCell ⟨p, 3, none⟩ v).frozen? ⟨p, 4, none⟩ = false := fun v => by simp [World.frozen?, heap_setCell_same _ p 3 v h1.hp]
  obtain ⟨k3, hk3⟩ : ∃ v, w.cell? ⟨p, 3, none⟩ = some v := ⟨_, h.c3⟩
  obtain ⟨k4, hk4⟩ : ∃ v, w.cell? ⟨p, 4, none⟩ = some v := ⟨_, h.c4⟩
  have k2 := h.c2
  have H := Lib.hid h
  have H1 := Lib.hid h1
  have HT := Lib.hid t1
  clear h h1 t1
  by_cases hb : 0 ≤ n ∧ n ≤ 1099511627776
  · have d1 : decide (0 ≤ n) = true := by simpa using hb.1
    have d2 : decide (n ≤ 1099511627776) = true := by simpa using hb.2
    have HS : Hid (σ.stop n = { σ with stops := true, stopAt := (σ.calls : Int) + n }) := by show _ = _; unfold St.stop; rw [if_pos hb]
    go_enter Try.func19, Try.ntmps19
    go_wp2
    go_end0
    refine ⟨rfl, ?_⟩
    rw [HS.out]
    obtain ⟨h2, t2⟩ := H1.out.stopped true ((σ.calls : Int) + n)
    exact ⟨h2, HT.out.trans t2⟩
  · have HS : Hid (σ.stop n = { σ with stops := false, stopAt := 0 }) := by show _ = _; unfold St.stop; rw [if_neg hb]
    by_cases hb1 : 0 ≤ n
    · have d1 : decide (0 ≤ n) = true := by simpa using hb1
      have d2 : decide (n ≤ 1099511627776) = false := by simp; omega
      clear hb hb1
      go_enter Try.func19, Try.ntmps19
      go_wp2
      go_end0
      refine ⟨rfl, ?_⟩
      rw [HS.out]
      exact ⟨H1.out, HT.out⟩
    · have d1 : decide (0 ≤ n) = false := by simpa using hb1
      clear hb hb1
      go_enter Try.func19, Try.ntmps19
      go_wp2
      go_end0
      refine ⟨rfl, ?_⟩
      rw [HS.out]
      exact ⟨H1.out, HT.out⟩

end Go.Proofs.Ytclfklpekkkkfaa
