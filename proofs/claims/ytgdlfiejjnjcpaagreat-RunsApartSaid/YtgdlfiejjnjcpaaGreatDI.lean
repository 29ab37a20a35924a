/-
  WALKS: Card and SetCard of a deal. Condition: a deal on a calm slab.
-/
import Derived.Test.YtgdlfiejjnjcpaaGreatDG
set_option linter.unusedVariables false
set_option linter.unusedSimpArgs false
set_option maxRecDepth 100000
set_option maxHeartbeats 4000000
namespace Go.Proofs.YtgdlfiejjnjcpaaGreat.Dl
open Go.RowKit
open Sl (Turns SlabAt)
open Lg (Ch chCells chsCells FS LogAt Whole setL setL_len ownB bcell)

/-! ### Changed, Undo and Commit, of views -/
theorem changed_dv (B d q p pd pm k c : Nat) (D V : List ByteArray) (v : Value) (w : World) (h : DV w B d q p pd pm k c D V v) :
    Calls Tryz.prog 11 #[.pointer (some ⟨d, 0, none⟩)] w fun e w' => ∃ g, e = .returned (.slice (some ⟨g, 0, none⟩) (diffL V D).length (diffL V D).length) ∧ w.heap.size ≤ g ∧ Lg.IntRow w' g (diffL V D) ∧ Below w.heap.size w w' := by
  have ho := fun i (_ : i < D.length) (hi : ownB (i : Int) = true) => h.own hi
  have hl := h.len
  obtain ⟨l, h, rfl⟩ := h
  have e := chgs_diff (D := D) (base := D) (now := setL D l) h.inv hl (fun _ _ _ => rfl) (fun _ _ _ => rfl) ho
  refine (changed_any B d q p pd pm k c D l v w h).mono ?_
  rintro e' w' ⟨g, rfl, hg, hr, hb⟩
  rw [e] at hr
  have e2 : (chgs D l).length = (diffL (setL D l) D).length := by rw [← e, Lg.bks_len]
  rw [e2]
  exact ⟨g, rfl, hg, hr, hb⟩
end Go.Proofs.YtgdlfiejjnjcpaaGreat.Dl
