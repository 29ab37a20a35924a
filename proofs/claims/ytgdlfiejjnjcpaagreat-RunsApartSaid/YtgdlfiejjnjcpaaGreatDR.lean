/-
  THE REFERENCE's DEAL IN MEMORY: a struct of two rows of texts; WALKS of Begin, there, Read, Write, SetCrown, Undo. Condition: texts that fit.
-/
import Derived.Test.YtgdlfiejjnjcpaaGreatDG
set_option linter.unusedVariables false
set_option linter.unusedSimpArgs false
set_option maxRecDepth 100000
set_option maxHeartbeats 4000000
namespace Go.Proofs.YtgdlfiejjnjcpaaGreat.Dl
open Go.RowKit
open Sl (Turns SlabAt)
open Lg (Ch chCells chsCells FS LogAt Whole setL setL_len ownB bcell SsAt strs strs_len strs_get ownS_set copyS_law)
open Kr (crv rightK blockK okK kf kb kc writeK KBox cells3 put3 put3_box put3_below row_set)

theorem own_tag {w : World} {base n sz : Nat} {e : TypeId} {v : Value} {xs : List Value} (h : w.ownsRow base e sz v n xs) {b : Nat} (hb : v.ownBlock = some b) : ∃ cs, w.heap[b]? = some (.cells cs e (0, 0)) := by
  rcases h.2 with ⟨rfl, _⟩ | ⟨g, cap, cur, rfl, _, hg, _⟩
  · cases hb
  · cases hb; exact ⟨cur, hg⟩
theorem own_turns {w w' : World} {base n sz : Nat} {e : TypeId} {v : Value} {xs : List Value} {L : List Nat} (h : w.ownsRow base e sz v n xs) (ht : Turns L w w') (hL : ∀ j, j ∈ L → v.ownBlock ≠ some j) : w'.ownsRow base e sz v n xs := by
  refine ⟨h.1, ?_⟩
  rcases h.2 with h0 | ⟨g, cap, cur, rfl, hb, hg, r⟩
  · exact .inl h0
  · refine .inr ⟨g, cap, cur, rfl, hb, ?_, r⟩
    exact (ht.block g (Array.getElem?_eq_some_iff.1 hg).1 (fun hm => hL g hm rfl)).trans hg
theorem tag_ne {w : World} {a b : Nat} {cs cs' : Array Value} {e e' : TypeId} (h : w.heap[a]? = some (.cells cs e (0, 0))) (h' : w.heap[b]? = some (.cells cs' e' (0, 0))) (he : e ≠ e') : a ≠ b := fun hab => by
  subst hab
  rw [h] at h'
  cases h'
  exact he rfl

section
variable {w w' : World} {R r gb cb gn cn N : Nat} {base now : List ByteArray}
end

/-! ### Begin -/
/-! ### there, Read -/
/-! ### Write -/
theorem whole_is {s : ByteArray} (h : s.size ≤ 128) : Sl.wholeS s = Sl.padS s 128 := by
  unfold Sl.wholeS
  have e : s.extract 0 (min s.size 128) = s := by
    rw [show min s.size 128 = s.size by omega]
    exact ByteArray.extract_zero_size
  rw [e]
end Go.Proofs.YtgdlfiejjnjcpaaGreat.Dl
