/-
  WALKS of the reference's deal: SetCrown, Crown, Changed, Undo, Commit. Condition: 64 to 1000 blocks of 128 bytes.
-/
import Derived.Test.YtgdlfiejjnjcpaaGreatDR
import Derived.Test.YtgdlfiejjnjcpaaGreatDI
set_option linter.unusedVariables false
set_option linter.unusedSimpArgs false
set_option maxRecDepth 100000
set_option maxHeartbeats 4000000
namespace Go.Proofs.YtgdlfiejjnjcpaaGreat.Dl
open Go.RowKit
open Sl (Turns SlabAt)
open Lg (Ch chCells chsCells FS LogAt Whole setL setL_len ownB bcell SsAt strs strs_len strs_get ownS_set copyS_law ints pushI_law)
open Kr (crv rightK blockK okK kf kb kc writeK KBox cells3 put3 put3_box put3_below row_set)

/-! ### Changed -/
def diffP (now base : List ByteArray) (k : Nat) : List Int := ((List.range k).filter fun i => decide (now.getD i ⟨#[]⟩ ≠ base.getD i ⟨#[]⟩)).map fun i : Nat => (i : Int)
theorem diffP_ne {now base : List ByteArray} {k : Nat} (h : ¬ now.getD k ⟨#[]⟩ = base.getD k ⟨#[]⟩) : diffP now base (k + 1) = diffP now base k ++ [(k : Int)] := by
  unfold diffP
  rw [List.range_succ, List.filter_append, List.map_append, List.filter_cons_of_pos (by simpa using h)]
  rfl
theorem diffP_eq {now base : List ByteArray} {k : Nat} (h : now.getD k ⟨#[]⟩ = base.getD k ⟨#[]⟩) : diffP now base (k + 1) = diffP now base k := by
  unfold diffP
  rw [List.range_succ, List.filter_append, List.map_append, List.filter_cons_of_neg (by simpa using h)]
  simp
theorem diffP_len (now base : List ByteArray) (k : Nat) : (diffP now base k).length ≤ k := by
  unfold diffP
  rw [List.length_map]
  exact Nat.le_trans (List.length_filter_le _ _) (by rw [List.length_range]; exact Nat.le_refl _)
/-! ### Undo, Commit -/
end Go.Proofs.YtgdlfiejjnjcpaaGreat.Dl
