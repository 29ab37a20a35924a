/-
  WALKS: the reference's Same, of spans and of ints: where both lists are the same. Conditions: as many elements as an int64 counts.
-/
import Derived.Test.YtmimfnbcffcdfaaSSmall
import Derived.Deep.QuietTactic
import Derived.BigQuiet
namespace Go.Proofs.Ytmimfnbcffcdfaa
open Go.RowKit
theorem Drew.trans {a b c : World} (h : Drew a b) (k : Drew b c) : Drew a c := by
  obtain ⟨n, rfl⟩ := h
  obtain ⟨m, rfl⟩ := k
  exact ⟨n + m, World.drewN_drewN _ _ _⟩
theorem Drew.cells {a b : World} (h : Drew a b) (p : Addr) : b.cell? p = a.cell? p := by
  obtain ⟨n, rfl⟩ := h
  rfl

end Go.Proofs.Ytmimfnbcffcdfaa
