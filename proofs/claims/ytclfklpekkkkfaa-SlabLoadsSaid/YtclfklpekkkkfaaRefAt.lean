/-
  THE REFERENCE's SLAB IN MEMORY, while it is loaded: a struct of three rows that grow, each in a block of its own. No condition.
-/
import Derived.Test.YtclfklpekkkkfaaScript
import Derived.Deep.AppendLies
namespace Go.Proofs.Ytclfklpekkkkfaa
open Go.RowKit

theorem row_tag {w : World} {base n sz : Nat} {e : TypeId} {v : Value} {xs : List Value} (h : w.ownsRow base e sz v n xs) {b : Nat} (hb : v.ownBlock = some b) : ∃ cs, w.heap[b]? = some (.cells cs e (0, 0)) := by
  rcases h.2 with ⟨rfl, _⟩ | ⟨g, cap, cur, rfl, _, hg, _⟩
  · cases hb
  · cases hb; exact ⟨cur, hg⟩
theorem row_ne {w : World} {base n sz : Nat} {e : TypeId} {v : Value} {xs : List Value} (h : w.ownsRow base e sz v n xs) {r : Nat} {cs : Array Value} {t : TypeId} {fr : Nat × Nat} (hr : w.heap[r]? = some (.cells cs t fr)) (ht : t ≠ e) : v.ownBlock ≠ some r := fun hb => by
  obtain ⟨cs', h'⟩ := row_tag h hb
  rw [hr] at h'
  cases h'
  exact ht rfl
theorem row_apart {w : World} {base base' n n' sz sz' : Nat} {e e' : TypeId} {v v' : Value} {xs xs' : List Value} (h : w.ownsRow base e sz v n xs) (h' : w.ownsRow base' e' sz' v' n' xs') (he : e ≠ e') : v.ownBlock = none ∨ v.ownBlock ≠ v'.ownBlock := by
  cases hb : v.ownBlock with
  | none => exact Or.inl rfl
  | some b =>
    refine Or.inr fun e1 => ?_
    obtain ⟨cs, h1⟩ := row_tag h hb
    obtain ⟨cs', h2⟩ := row_tag h' e1.symm
    rw [h1] at h2
    cases h2
    exact he rfl

theorem grown_setCell (w : World) (b o : Nat) (v : Value) : w.grownBy (w.setCell ⟨b, o, none⟩ v) (some b) := (Turns.setCell (L := [b]) w (p := ⟨b, o, none⟩) (by simp) v).grown1
theorem row_setCell {w : World} {base n sz r o : Nat} {e : TypeId} {v : Value} {xs : List Value} (h : w.ownsRow base e sz v n xs) (hne : v.ownBlock ≠ some r) (u : Value) : (w.setCell ⟨r, o, none⟩ u).ownsRow base e sz v n xs := h.kept (grown_setCell w r o u) (Or.inr hne)

structure RefAt (w : World) (r : Nat) (F N L : Value) (kF kN kL : Nat) (ls : List ByteArray) : Prop where
  hr : w.heap[r]? = some (.cells #[F, N, L, .int .i64 0, .int .i64 (-1)] 35 (0, 0))
  hF : ∃ xs, w.ownsRow r 9 1 F kF xs
  hN : w.ownsRow r 9 1 N kN (ls.map Value.string)
  hL : ∃ zs, w.ownsRow r 4 1 L kL zs
  ne : F.ownBlock = none ∨ F.ownBlock ≠ N.ownBlock

namespace RefAt
variable {w w' : World} {r : Nat} {F N L : Value} {kF kN kL : Nat} {ls : List ByteArray}

theorem lt (h : RefAt w r F N L kF kN kL ls) : r < w.heap.size := (Array.getElem?_eq_some_iff.1 h.hr).1
theorem c (h : RefAt w r F N L kF kN kL ls) (k : Nat) : w.cell? ⟨r, k, none⟩ = #[F, N, L, .int .i64 0, .int .i64 (-1)][k]? := by simp [World.cell?, h.hr]
theorem fz (h : RefAt w r F N L kF kN kL ls) (k : Nat) : w.frozen? ⟨r, k, none⟩ = false := by simp [World.frozen?, h.hr]
theorem keptB (h : RefAt w r F N L kF kN kL ls) (t : Turns [] w w') : RefAt w' r F N L kF kN kL ls := by
  have g : w.grownBy w' none := ⟨t.os, t.tape, t.output, t.size, fun k hk _ => t.block k hk (by simp)⟩
  have o : ∀ v : Value, v.ownBlock = none ∨ v.ownBlock ≠ none := fun v => by cases v.ownBlock <;> simp
  obtain ⟨xs, hF⟩ := h.hF
  obtain ⟨zs, hL⟩ := h.hL
  exact ⟨(t.block r h.lt (by simp)).trans h.hr, ⟨xs, hF.kept g (o F)⟩, h.hN.kept g (o N), ⟨zs, hL.kept g (o L)⟩, h.ne⟩

theorem firm (h : RefAt w r F N L kF kN kL ls) {g cap n : Nat} {xs : List Value} (hg : w.grownBy w' F.ownBlock) (ho : w'.ownsRow r 9 1 (.slice (some ⟨g, 0, none⟩) n cap) n xs) (hat : F.ownBlock = some g ∨ g = w.heap.size) :
    RefAt (w'.setCell ⟨r, 0, none⟩ (.slice (some ⟨g, 0, none⟩) n cap)) r (.slice (some ⟨g, 0, none⟩) n cap) N L n kN kL ls := by
  obtain ⟨xs0, hF⟩ := h.hF
  obtain ⟨zs, hL⟩ := h.hL
  have hr' := (hg.block r h.lt (row_ne hF h.hr (by decide)).symm).trans h.hr
  have hN' := h.hN.kept hg (by
    rcases h.ne with h1 | h1
    · cases hN : N.ownBlock with
      | none => exact Or.inl rfl
      | some b => right; rw [h1]; simp
    · exact Or.inr h1.symm)
  have hL' := hL.kept hg (row_apart hL hF (by decide))
  refine ⟨?_, ⟨xs, row_setCell ho (row_ne ho hr' (by decide)) _⟩, row_setCell hN' (row_ne hN' hr' (by decide)) _, ⟨zs, row_setCell hL' (row_ne hL' hr' (by decide)) _⟩, ?_⟩
  · rw [heap_setCell_same _ _ _ _ hr']; simp
  · right
    show some g ≠ N.ownBlock
    intro e
    rcases hat with h1 | h1
    · rcases h.ne with h2 | h2
      · rw [h1] at h2; cases h2
      · exact h2 (h1.trans e)
    · have := (h.hN.lt g e.symm).2
      omega

theorem now (h : RefAt w r F N L kF kN kL ls) {g cap n : Nat} {ls' : List ByteArray} (hg : w.grownBy w' N.ownBlock) (ho : w'.ownsRow r 9 1 (.slice (some ⟨g, 0, none⟩) n cap) n (ls'.map Value.string)) (hat : N.ownBlock = some g ∨ g = w.heap.size) :
    RefAt (w'.setCell ⟨r, 1, none⟩ (.slice (some ⟨g, 0, none⟩) n cap)) r F (.slice (some ⟨g, 0, none⟩) n cap) L kF n kL ls' := by
  obtain ⟨xs0, hF⟩ := h.hF
  obtain ⟨zs, hL⟩ := h.hL
  have hr' := (hg.block r h.lt (row_ne h.hN h.hr (by decide)).symm).trans h.hr
  have hF' := hF.kept hg h.ne
  have hL' := hL.kept hg (row_apart hL h.hN (by decide))
  refine ⟨?_, ⟨xs0, row_setCell hF' (row_ne hF' hr' (by decide)) _⟩, row_setCell ho (row_ne ho hr' (by decide)) _, ⟨zs, row_setCell hL' (row_ne hL' hr' (by decide)) _⟩, ?_⟩
  · rw [heap_setCell_same _ _ _ _ hr']; simp
  · cases hb : F.ownBlock with
    | none => exact Or.inl rfl
    | some b =>
      right
      show some b ≠ some g
      intro e
      cases e
      rcases hat with h1 | h1
      · rcases h.ne with h2 | h2
        · rw [hb] at h2; cases h2
        · exact h2 (hb.trans h1.symm)
      · have := (hF.lt _ hb).2
        omega

theorem low (h : RefAt w r F N L kF kN kL ls) {g cap n : Nat} {zs' : List Value} (hg : w.grownBy w' L.ownBlock) (ho : w'.ownsRow r 4 1 (.slice (some ⟨g, 0, none⟩) n cap) n zs') :
    RefAt (w'.setCell ⟨r, 2, none⟩ (.slice (some ⟨g, 0, none⟩) n cap)) r F N (.slice (some ⟨g, 0, none⟩) n cap) kF kN n ls := by
  obtain ⟨xs0, hF⟩ := h.hF
  obtain ⟨zs, hL⟩ := h.hL
  have hr' := (hg.block r h.lt (row_ne hL h.hr (by decide)).symm).trans h.hr
  have hF' := hF.kept hg (row_apart hF hL (by decide))
  have hN' := h.hN.kept hg (row_apart h.hN hL (by decide))
  refine ⟨?_, ⟨xs0, row_setCell hF' (row_ne hF' hr' (by decide)) _⟩, row_setCell hN' (row_ne hN' hr' (by decide)) _, ⟨zs', row_setCell ho (row_ne ho hr' (by decide)) _⟩, h.ne⟩
  rw [heap_setCell_same _ _ _ _ hr']; simp
end RefAt
end Go.Proofs.Ytclfklpekkkkfaa
