import Derived.Test.YtppbonjhckakiaaGreatDG
/-
  THE REFERENCE's DEAL IN MEMORY: a struct of two rows of texts; WALKS of Begin, there, Read, Write, SetCrown, Undo. Condition: texts that fit.
-/
set_option linter.unusedVariables false
set_option linter.unusedSimpArgs false
set_option maxRecDepth 100000
set_option maxHeartbeats 4000000
namespace Go.Proofs.YtppbonjhckakiaaGreat.Dl
open Go.RowKit
open Sl (Turns SlabAt)
open Lg (Ch chCells chsCells FS LogAt Whole setL setL_len ownB bcell SsAt strs strs_len strs_get ownS_set copyS_law)
open Kr (crv rightK blockK okK kf kb kc writeK KBox cells3 put3 put3_box put3_below row_set)

theorem own_tag {w : World} {base n sz : Nat} {e : TypeId} {v : Value} {xs : List Value} (h : w.ownsRow base e sz v n xs) {b : Nat} (hb : v.ownBlock = some b) : ∃ cs, w.heap[b]? = some (.cells cs e (0, 0)) := by
  rcases h.2 with ⟨rfl, _⟩ | ⟨g, cap, cur, rfl, _, hg, _⟩
  · cases hb
  · cases hb; exact ⟨cur, hg⟩
theorem own_turns {w w' : World} {base n sz : Nat} {e : TypeId} {v : Value} {xs : List Value} {L : List Nat} (h : w.ownsRow base e sz v n xs) (ht : Turns L w w') (hL : ∀ j, j ∈ L → v.ownBlock ≠ some j) : w'.ownsRow base e sz v n xs := by
  refine ⟨h.1, ?_⟩
  rcases h.2 with h0 | ⟨g, cap, cur, rfl, hb, hg, r⟩
  · exact .inl h0
  · refine .inr ⟨g, cap, cur, rfl, hb, ?_, r⟩
    exact (ht.block g (Array.getElem?_eq_some_iff.1 hg).1 (fun hm => hL g hm rfl)).trans hg
theorem tag_ne {w : World} {a b : Nat} {cs cs' : Array Value} {e e' : TypeId} (h : w.heap[a]? = some (.cells cs e (0, 0))) (h' : w.heap[b]? = some (.cells cs' e' (0, 0))) (he : e ≠ e') : a ≠ b := fun hab => by
  subst hab
  rw [h] at h'
  cases h'
  exact he rfl

section
variable {w w' : World} {R r gb cb gn cn N : Nat} {base now : List ByteArray}
end

/-! ### Begin -/
/-! ### there, Read -/
/-! ### Write -/
theorem whole_is {s : ByteArray} (h : s.size ≤ 128) : Sl.wholeS s = Sl.padS s 128 := by
  unfold Sl.wholeS
  have e : s.extract 0 (min s.size 128) = s := by
    rw [show min s.size 128 = s.size by omega]
    exact ByteArray.extract_zero_size
  rw [e]
end Go.Proofs.YtppbonjhckakiaaGreat.Dl

/-
  WALKS: Card and SetCard of a deal. Condition: a deal on a calm slab.
-/
set_option linter.unusedVariables false
set_option linter.unusedSimpArgs false
set_option maxRecDepth 100000
set_option maxHeartbeats 4000000
namespace Go.Proofs.YtppbonjhckakiaaGreat.Dl
open Go.RowKit
open Sl (Turns SlabAt)
open Lg (Ch chCells chsCells FS LogAt Whole setL setL_len ownB bcell)

/-! ### Changed, Undo and Commit, of views -/
theorem changed_dv (B d q p pd pm k c : Nat) (D V : List ByteArray) (v : Value) (w : World) (h : DV w B d q p pd pm k c D V v) :
    Calls Tryz.prog 11 #[.pointer (some ⟨d, 0, none⟩)] w fun e w' => ∃ g, e = .returned (.slice (some ⟨g, 0, none⟩) (diffL V D).length (diffL V D).length) ∧ w.heap.size ≤ g ∧ Lg.IntRow w' g (diffL V D) ∧ Below w.heap.size w w' := by
  have ho := fun i (_ : i < D.length) (hi : ownB (i : Int) = true) => h.own hi
  have hl := h.len
  obtain ⟨l, h, rfl⟩ := h
  have e := chgs_diff (D := D) (base := D) (now := setL D l) h.inv hl (fun _ _ _ => rfl) (fun _ _ _ => rfl) ho
  refine (changed_any B d q p pd pm k c D l v w h).mono ?_
  rintro e' w' ⟨g, rfl, hg, hr, hb⟩
  rw [e] at hr
  have e2 : (chgs D l).length = (diffL (setL D l) D).length := by rw [← e, Lg.bks_len]
  rw [e2]
  exact ⟨g, rfl, hg, hr, hb⟩
end Go.Proofs.YtppbonjhckakiaaGreat.Dl

/-
  WALKS of the reference's deal: SetCrown, Crown, Changed, Undo, Commit. Condition: 64 to 1000 blocks of 128 bytes.
-/
set_option linter.unusedVariables false
set_option linter.unusedSimpArgs false
set_option maxRecDepth 100000
set_option maxHeartbeats 4000000
namespace Go.Proofs.YtppbonjhckakiaaGreat.Dl
open Go.RowKit
open Sl (Turns SlabAt)
open Lg (Ch chCells chsCells FS LogAt Whole setL setL_len ownB bcell SsAt strs strs_len strs_get ownS_set copyS_law ints pushI_law)
open Kr (crv rightK blockK okK kf kb kc writeK KBox cells3 put3 put3_box put3_below row_set)

/-! ### Changed -/
def diffP (now base : List ByteArray) (k : Nat) : List Int := ((List.range k).filter fun i => decide (now.getD i ⟨#[]⟩ ≠ base.getD i ⟨#[]⟩)).map fun i : Nat => (i : Int)
theorem diffP_ne {now base : List ByteArray} {k : Nat} (h : ¬ now.getD k ⟨#[]⟩ = base.getD k ⟨#[]⟩) : diffP now base (k + 1) = diffP now base k ++ [(k : Int)] := by
  unfold diffP
  rw [List.range_succ, List.filter_append, List.map_append, List.filter_cons_of_pos (by simpa using h)]
  rfl
theorem diffP_eq {now base : List ByteArray} {k : Nat} (h : now.getD k ⟨#[]⟩ = base.getD k ⟨#[]⟩) : diffP now base (k + 1) = diffP now base k := by
  unfold diffP
  rw [List.range_succ, List.filter_append, List.map_append, List.filter_cons_of_neg (by simpa using h)]
  simp
theorem diffP_len (now base : List ByteArray) (k : Nat) : (diffP now base k).length ≤ k := by
  unfold diffP
  rw [List.length_map]
  exact Nat.le_trans (List.length_filter_le _ _) (by rw [List.length_range]; exact Nat.le_refl _)
/-! ### Undo, Commit -/
end Go.Proofs.YtppbonjhckakiaaGreat.Dl
