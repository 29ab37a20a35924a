/-
  WORDS OF MEMORY for the proofs over layer 6: a slice of texts that reads as a list (nil let in), a row of texts known whole, that the library's variable holds an int. No condition.
-/
import Derived.Test.YtcijpefddicmiaaDoorPieces
import Derived.Test.YtcijpefddicmiaaDoorRefRight
import Derived.Laws.OwnMore
import Derived.Laws.Rows
import Derived.Deep.AppendLies
import Derived.Deep.Draws
namespace Go.Proofs.YtcijpefddicmiaaDoor
open Go.RowKit

/-- the slice at A with n elements reads as the texts ls, and lies below block B. -/
def StrsAt (w : World) (B : Nat) (A : Option Addr) (n : Nat) (ls : List (List UInt8)) : Prop :=
  ls.length = n ∧ ∀ k, k < n → ∃ b o, A = some ⟨b, o, none⟩ ∧ b < B ∧ w.cell? ⟨b, o + k, none⟩ = some (.string (bs (ls.getD k [])))

section
variable {w w' : World} {B B' : Nat} {A : Option Addr} {n : Nat} {ls : List (List UInt8)}
theorem StrsAt.len (h : StrsAt w B A n ls) : ls.length = n := h.1
theorem StrsAt.at_ (h : StrsAt w B A n ls) {k : Nat} (hk : k < n) : ∃ b o, A = some ⟨b, o, none⟩ ∧ b < B ∧ w.cell? ⟨b, o + k, none⟩ = some (.string (bs (ls.getD k []))) := h.2 k hk
theorem StrsAt.keep (h : StrsAt w B A n ls) (hk : ∀ p : Addr, p.block < B → w'.cell? p = w.cell? p) : StrsAt w' B A n ls :=
  ⟨h.1, fun k hkn => by
    obtain ⟨b, o, e, hb, hc⟩ := h.2 k hkn
    exact ⟨b, o, e, hb, (hk ⟨b, o + k, none⟩ hb).trans hc⟩⟩
theorem StrsAt.more (h : StrsAt w B A n ls) (hB : B ≤ B') : StrsAt w B' A n ls :=
  ⟨h.1, fun k hkn => by
    obtain ⟨b, o, e, hb, hc⟩ := h.2 k hkn
    exact ⟨b, o, e, Nat.lt_of_lt_of_le hb hB, hc⟩⟩
theorem StrsAt.below (h : StrsAt w B A n ls) (hb : Below B w w') : StrsAt w' B A n ls := h.keep fun _ hp => hb.cell hp
theorem StrsAt.to (h : StrsAt w w.heap.size A n ls) (hb : Below w.heap.size w w') : StrsAt w' w'.heap.size A n ls := (h.below hb).more hb.size
theorem StrsAt.take (h : StrsAt w B A n ls) (k : Nat) (hk : k ≤ n) : StrsAt w B A k (ls.take k) :=
  ⟨by rw [List.length_take, h.1]; omega, fun j hj => by
    obtain ⟨b, o, e, hb, hc⟩ := h.2 j (by omega)
    exact ⟨b, o, e, hb, by rw [hc]; simp [List.getD, List.getElem?_take_of_lt hj]⟩⟩
theorem StrsAt.nil (w : World) (B : Nat) (A : Option Addr) : StrsAt w B A 0 [] := ⟨rfl, fun k hk => by omega⟩
end

def strs (ls : List (List UInt8)) : Array Value := (ls.map fun p => Value.string (bs p)).toArray
/-- block g is a row of the texts ls, known whole. -/
def StrRow (w : World) (g : Nat) (ls : List (List UInt8)) : Prop := w.heap[g]? = some (.cells (strs ls) 9 (0, 0))
section
variable {w w' : World} {g : Nat} {ls : List (List UInt8)}
theorem StrRow.lt (h : StrRow w g ls) : g < w.heap.size := (Array.getElem?_eq_some_iff.1 h).1
theorem StrRow.cell (h : StrRow w g ls) (k : Nat) (hk : k < ls.length) : w.cell? ⟨g, k, none⟩ = some (.string (bs (ls.getD k []))) := by
  rw [cell_of_row w g k _ 9 _ h, strs, List.getElem?_toArray, List.getElem?_map, List.getElem?_eq_getElem hk]
  simp [List.getD, List.getElem?_eq_getElem hk]
theorem StrRow.fz (h : StrRow w g ls) (k : Nat) : w.frozen? ⟨g, k, none⟩ = false := by
  unfold World.frozen?; rw [h]; simp
theorem StrRow.below {C : Nat} (h : StrRow w g ls) (hb : Below C w w') (hg : g < C) : StrRow w' g ls := (hb.block g hg).trans h
theorem StrRow.strsAt (h : StrRow w g ls) : StrsAt w w.heap.size (some ⟨g, 0, none⟩) ls.length ls :=
  ⟨rfl, fun k hk => ⟨g, 0, rfl, h.lt, by rw [Nat.zero_add]; exact h.cell k hk⟩⟩
theorem StrRow.new (w : World) (ls : List (List UInt8)) : StrRow (w.alloc (.cells (strs ls) 9)) w.heap.size ls := by
  show (w.heap.push _)[w.heap.size]? = _
  simp
/-- a store of what lies there leaves the row as it is. -/
theorem StrRow.same (h : StrRow w g ls) (k : Nat) (hk : k < ls.length) : StrRow (w.setCell ⟨g, k, none⟩ (.string (bs (ls.getD k [])))) g ls := by
  show _ = _
  rw [heap_setCell_same w g k _ 9 _ h]
  congr 2
  apply Array.ext_getElem?
  intro j
  rw [Array.getElem?_setIfInBounds]
  split
  · rename_i e
    subst e
    have hsz : k < (strs ls).size := by simpa [strs] using hk
    rw [if_pos hsz]
    simp [strs, hk]
  · rfl
end

/-- internal/bytealg.MaxLen holds an int. -/
def MaxAt (w : World) : Prop := ∃ m, w.cell? ⟨0, 0, none⟩ = some (.int .i64 m)
theorem MaxAt.to {w w' : World} (h : MaxAt w) (hb : Below w.heap.size w w') : MaxAt w' := by
  obtain ⟨m, hm⟩ := h
  exact ⟨m, (hb.cell (World.block_lt_of_cell? w _ hm)).trans hm⟩

/-- the error of an answer that may not be. -/
def errI {α : Type} (o : Option α) : Int := if o.isSome then 0 else 4
end Go.Proofs.YtcijpefddicmiaaDoor
