/-
  MEMORY of the law StockOnce: a row of yes and no beside a deal. No condition.
-/
import Derived.Test.YtbkgfkemjhaopaaGreatFF
import Derived.Test.YtbkgfkemjhaopaaGreatFM
set_option linter.unusedVariables false
set_option linter.unusedSimpArgs false
set_option maxRecDepth 100000
namespace Go.Proofs.YtbkgfkemjhaopaaGreat.Dl
open Go.RowKit
open Sl (Turns SlabAt)
open Lg (FS LogAt Whole ownB bcell)
open Kr (row_set)

theorem Tryz.info4 : (Tryz.prog.info? 4).map (fun i => (i.zero, i.size, i.bytes)) = some (some (.bool false), 1, 1) := by kernel_rfl
/-- a row's cells. -/
def bcells (l : List Bool) : Array Value := (l.map Value.bool).toArray
theorem make_bools (n : Nat) (hn : n ≤ 1000) (W : World) : (Instr.makeSlice 32 (.int .i64 (n : Int)) (.int .i64 (n : Int))).run Tryz.prog W = .ok (.slice (some ⟨W.heap.size, 0, none⟩) n n) (W.alloc (.cells (bcells (List.replicate n false)) 4)) := by
  obtain ⟨i0, hi, hz0, hz1, hz2⟩ := info_parts Tryz.info4
  have h := run_make (P := Tryz.prog) W 32 4 i0 (.bool false) Tryz.underlying32 hi hz0 .i64 .i64 (n : Int) (n : Int) (by omega) (by omega) (by rw [hz2]; omega) (by omega)
  have e : madeCells (Value.bool false).cells (n * i0.size) = bcells (List.replicate n false) := by
    rw [hz1, Nat.mul_one]
    apply Array.ext'
    rw [show (madeCells (Value.bool false).cells n).toList = List.replicate n (.bool false) from toList_madeCells_one _ _]
    unfold bcells
    rw [List.toList_toArray, List.map_replicate]
  simpa [e] using h
theorem bcells_set (l : List Bool) (k : Nat) (b : Bool) : (bcells l).setIfInBounds k (.bool b) = bcells (l.set k b) := by
  unfold bcells
  apply Array.ext'
  rw [Array.toList_setIfInBounds, List.toList_toArray, List.toList_toArray, List.map_set]
theorem brow_cell {W : World} {g k : Nat} {l : List Bool} (h : W.heap[g]? = some (.cells (bcells l) 4 (0, 0))) (hk : k < l.length) : W.cell? ⟨g, k, none⟩ = some (.bool (l.getD k false)) := by
  rw [cell_of_row W g k _ 4 (0, 0) h]
  unfold bcells
  simp [List.getD, hk]
theorem brow_fz {W : World} {g k : Nat} {l : List Bool} (h : W.heap[g]? = some (.cells (bcells l) 4 (0, 0))) : W.frozen? ⟨g, k, none⟩ = false := by
  unfold World.frozen?; rw [h]; simp
section
variable {w0 w : World} {B d q p pd pm R r : Nat} {g : Fram} {N : Nat} {D V base now : List ByteArray}
theorem St.hBs (h : St w0 w B d q p pd pm R r g N D V base now) : B ≤ w.heap.size := by
  obtain ⟨v, gb, cb, gn, cn, dv, rd⟩ := h.ex
  exact dv.hB
/-- a cell of the row is stored to. -/
theorem St.poke {j : Nat} {l : List Bool} (h : St w0 w B d q p pd pm R r (g.add j (bcells l) 4) N D V base now) (hj : B ≤ j) (hg : ∀ x ∈ g.bx, x.1 ≠ j) (k : Nat) (b : Bool) :
    St w0 (w.setCell ⟨j, k, none⟩ (.bool b)) B d q p pd pm R r (g.add j (bcells (l.set k b)) 4) N D V base now := by
  have t : Turns [j] w (w.setCell ⟨j, k, none⟩ (.bool b)) := Turns.setCell _ (by simp) _
  have hx := h.box
  obtain ⟨v, gb, cb, gn, cn, dv, rd⟩ := h.ex
  have hB := h.hB
  refine ⟨⟨v, gb, cb, gn, cn, dv.turns t ?_, rd.turns t ?_ ?_ ?_⟩, h.hBR, h.hN, (t.block g.at_ h.lt ?_).trans h.pr, ?_, h.hb.trans (t.below h.hb.size ?_), h.hd, h.hB, h.wn, h.wb⟩
  · intro j' hj'
    obtain rfl := List.mem_singleton.1 hj'
    refine ⟨hj, fun e => ?_⟩
    obtain ⟨cs, ht⟩ := dv.own_tag e
    exact tag_ne hx ht (by decide) rfl
  · intro hm
    exact tag_ne rd.hr hx (by decide) (List.mem_singleton.1 hm)
  · intro hm
    obtain ⟨cs, ht⟩ := own_tag rd.hb (b := gb) rfl
    exact tag_ne ht hx (by decide) (List.mem_singleton.1 hm)
  · intro hm
    obtain ⟨cs, ht⟩ := own_tag rd.hn (b := gn) rfl
    exact tag_ne ht hx (by decide) (List.mem_singleton.1 hm)
  · intro hm
    exact tag_ne h.pr hx (by decide) (List.mem_singleton.1 hm)
  · intro x hm
    rcases List.mem_cons.1 hm with e | e
    · subst e
      refine ⟨?_, (by decide : (4 : Nat) ≠ 92 ∧ (4 : Nat) ≠ 95 ∧ (4 : Nat) ≠ 9)⟩
      rw [← bcells_set]
      exact row_set hx rfl
    · obtain ⟨h1, h2⟩ := h.fx x (List.mem_cons_of_mem _ e)
      refine ⟨(t.block x.1 (Array.getElem?_eq_some_iff.1 h1).1 (by simpa using hg x e)).trans h1, h2⟩
  · intro j' hj'
    obtain rfl := List.mem_singleton.1 hj'
    omega
end
end Go.Proofs.YtbkgfkemjhaopaaGreat.Dl
