/-
  WORDS OF MEMORY for the proofs over layer 8: rows of cells; copy and clear of elements of more than one cell. No condition.
-/
import Derived.Test.YtflijnhgonigjaaPPages
import Derived.Lib.AppendZerosOnto
import Derived.Lib.SliceRun
import Derived.Laws.IdiomCopy
import Derived.Laws.NewBlocks
import Derived.Lib.EndianMore
import Derived.Shelf.Spec.SlicesInsertGrow
namespace Go.Proofs.Ytflijnhgonigjaa
open Go.RowKit

/-- the cells of block g from o on are vs. -/
def CellsAt (w : World) (g o : Nat) (vs : List Value) : Prop := ∀ j u, vs[j]? = some u → w.cell? ⟨g, o + j, none⟩ = some u
theorem CellsAt.nil (w : World) (g o : Nat) : CellsAt w g o [] := fun j u h => by simp at h
theorem CellsAt.lt {w : World} {g o : Nat} {vs : List Value} (h : CellsAt w g o vs) (hn : 0 < vs.length) : g < w.heap.size :=
  World.block_lt_of_cell? w ⟨g, o + 0, none⟩ (h 0 _ (List.getElem?_eq_getElem hn))
theorem CellsAt.drop {w : World} {g o : Nat} {vs : List Value} (h : CellsAt w g o vs) (k : Nat) : CellsAt w g (o + k) (vs.drop k) := fun j u hj => by
  rw [List.getElem?_drop] at hj
  rw [Nat.add_assoc]; exact h (k + j) u hj
theorem CellsAt.take {w : World} {g o : Nat} {vs : List Value} (h : CellsAt w g o vs) (k : Nat) : CellsAt w g o (vs.take k) := fun j u hj => by
  rw [List.getElem?_take] at hj
  split at hj
  · exact h j u hj
  · cases hj
theorem CellsAt.keep {w w' : World} {g o : Nat} {vs : List Value} (h : CellsAt w g o vs) (hk : ∀ j, w'.cell? ⟨g, j, none⟩ = w.cell? ⟨g, j, none⟩) : CellsAt w' g o vs := fun j u hj => (hk _).trans (h j u hj)
theorem CellsAt.some_ {w : World} {g o : Nat} {vs : List Value} (h : CellsAt w g o vs) {j : Nat} (hj : j < vs.length) : (w.cell? ⟨g, o + j, none⟩).isSome = true := by
  rw [h j _ (List.getElem?_eq_getElem hj)]; rfl
/-- cells stored over a part of a row. -/
theorem CellsAt.set {w : World} {g o : Nat} {xs vs : List Value} (h : CellsAt w g 0 xs) (hl : o + vs.length ≤ xs.length) : CellsAt (w.setCells g o vs) g 0 (xs.take o ++ (vs ++ xs.drop (o + vs.length))) := by
  intro j u hj
  rw [Nat.zero_add]
  have ht : (xs.take o).length = o := by rw [List.length_take]; omega
  rcases Nat.lt_or_ge j o with h1 | h1
  · rw [List.getElem?_append_left (by omega), List.getElem?_take, if_pos h1] at hj
    rw [World.cell?_setCells_out _ _ _ _ _ (fun _ _ => Or.inl h1)]
    have := h j u hj
    rwa [Nat.zero_add] at this
  · rw [List.getElem?_append_right (by omega), ht] at hj
    rcases Nat.lt_or_ge (j - o) vs.length with h2 | h2
    · rw [List.getElem?_append_left h2, List.getElem?_eq_getElem h2] at hj
      injection hj with hj
      have := World.cell?_setCells_in g vs o w (fun k hk => by have := h.some_ (j := o + k) (by omega); rwa [Nat.zero_add] at this) (j - o) h2
      rw [show o + (j - o) = j by omega, hj] at this
      exact this
    · rw [List.getElem?_append_right h2, List.getElem?_drop] at hj
      rw [World.cell?_setCells_out _ _ _ _ _ (fun _ _ => Or.inr (by show o + vs.length ≤ j; omega))]
      have := h _ u hj
      rwa [Nat.zero_add, show o + vs.length + (j - o - vs.length) = j by omega] at this
theorem CellsAt.other {w : World} {g b o o' : Nat} {xs vs : List Value} (h : CellsAt w g o' xs) (hne : g ≠ b) : CellsAt (w.setCells b o vs) g o' xs :=
  h.keep fun _ => World.cell?_setCells_out _ _ _ _ _ (fun e _ => absurd e hne)
theorem CellsAt.below {w w' : World} {B g o : Nat} {vs : List Value} (h : CellsAt w g o vs) (hb : Below B w w') (hg : g < B) : CellsAt w' g o vs := h.keep fun j => hb.cell (p := ⟨g, j, none⟩) hg
theorem CellsAt.of_own {w : World} {base e sz n g c : Nat} {xs : List Value} (h : w.ownsRow base e sz (.slice (some ⟨g, 0, none⟩) n c) n xs) : CellsAt w g 0 xs := fun j u hj => by
  have := (h.cells (g := g) rfl) j u hj
  rw [Go.WideShapes.add_plain] at this
  exact this
/-- such a row of an entry's cells reads as the entries. -/
theorem ens_cells {w : World} {g : Nat} {l : List En} (h : CellsAt w g 0 (ensCells l)) (hg : g < w.heap.size) (hf : ∀ e ∈ l, e.fit) : EnsAt w w.heap.size (some ⟨g, 0, none⟩) l.length l :=
  ⟨rfl, hf, fun k hk => by
    obtain ⟨c1, c2⟩ := ensCells_at l k hk
    have h1 := h _ _ c1
    have h2 := h _ _ c2
    exact ⟨g, 0, rfl, hg, h1, h2⟩⟩
theorem EnsAt.cellsAt {w : World} {B b o n : Nat} {l : List En} (h : EnsAt w B (some ⟨b, o, none⟩) n l) : CellsAt w b o (ensCells l) := fun j u hj => by
  have := h.news j u hj
  rw [Go.WideShapes.add_plain] at this
  exact this

section
variable {P : Program}
/-- copy: all is read before anything is written. -/
theorem run_copyN (w : World) (T ty elem : TypeId) (sz b o dLen dCap sb so sLen sCap : Nat) (cs : List Value)
    (hu : P.underlying T = some (.slice elem)) (hs : (P.info? elem).map (·.size) = some sz) (hn : cs.length = Nat.min sLen dLen * sz)
    (hsrc : CellsAt w sb so cs) (hc : ∀ j, j < cs.length → (w.cell? ⟨b, o + j, none⟩).isSome = true) (hf : ∀ j, j < cs.length → w.frozen? ⟨b, o + j, none⟩ = false) (h1 : ∀ v ∈ cs, v.oneCell' = true) :
    (Builtin.copy_ #[T, T] ty #[.slice (some ⟨b, o, none⟩) dLen dCap, .slice (some ⟨sb, so, none⟩) sLen sCap]).run P w = .ok (goInt (Nat.min sLen dLen)) (w.setCells b o cs) := by
  have hl := run_loadCells_list (P := P) w ⟨sb, so, none⟩ cs (fun j v hj => by rw [Go.WideShapes.add_plain]; exact hsrc j v hj)
  have hst := run_storeCells_cells (P := P) b o cs 0 w (by simpa using hc) (by simpa using hf) h1
  cases hq : P.info? elem with
  | none => simp [hq] at hs
  | some i =>
    have hi : i.size = sz := by simpa [hq] using hs
    simp [Builtin.copy_, run_underlying hu, Builtin.lenOf, Builtin.firstCells, sizeOf, typeInfo, hq, hi, ← hn, hl, hst]
theorem zeroCells_len (z : Array Value) (n : Nat) : (Builtin.zeroCells z n).toList.length = n * z.size := by rw [Array.length_toList, size_zeroCells]
/-- clear of a part of a row. -/
theorem run_clearN (w : World) (t e ty : TypeId) (z : Value) (ht : P.underlying t = some (.slice e)) (hv : ∀ w, (zeroValue e).run P w = .ok z w) (h1 : ∀ n, ∀ u ∈ (Builtin.zeroCells z.cells n).toList, u.oneCell' = true) (b o n c : Nat) (hn : 0 < n)
    (hc : ∀ j, j < n * z.cells.size → (w.cell? ⟨b, o + j, none⟩).isSome = true) (hf : ∀ j, j < n * z.cells.size → w.frozen? ⟨b, o + j, none⟩ = false) :
    (Builtin.clear_ #[t] ty #[.slice (some ⟨b, o, none⟩) n c]).run P w = .ok (.tuple #[]) (w.setCells b o (Builtin.zeroCells z.cells n).toList) := by
  have hst := run_storeCells_cells (P := P) b o (Builtin.zeroCells z.cells n).toList 0 w (by rw [zeroCells_len]; simpa using hc) (by rw [zeroCells_len]; simpa using hf) (h1 n)
  simp only [Nat.add_zero] at hst
  obtain ⟨m, rfl⟩ : ∃ m, n = m + 1 := ⟨n - 1, by omega⟩
  simp [Builtin.clear_, run_underlying ht, hv, hst]
end
end Go.Proofs.Ytflijnhgonigjaa
