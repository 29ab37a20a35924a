/-
  WALK: texts says true of two slices that read as the same strings. Conditions: at most 1000 strings.
-/
import Derived.Test.YtpljifeebbeakaaSImage
namespace Go.Proofs.Ytpljifeebbeakaa.Sl
open Go.RowKit Go.Maps

/-- the slice at A with n elements reads as the strings ss. -/
def StrsAt (w : World) (A : Option Addr) (n : Nat) (ss : List ByteArray) : Prop :=
  ∀ k, k < n → ∃ b o, A = some ⟨b, o, none⟩ ∧ w.cell? ⟨b, o + k, none⟩ = some (.string (ss.getD k ⟨#[]⟩))
theorem StrsAt.keep {w w' : World} {A : Option Addr} {n : Nat} {ss : List ByteArray} {L : List Nat} (h : StrsAt w A n ss) (ht : Turns L w w') (hA : ∀ a, A = some a → a.block ∉ L) : StrsAt w' A n ss := fun k hk => by
  obtain ⟨b, o, e, hc⟩ := h k hk
  exact ⟨b, o, e, ht.cell hc (hA ⟨b, o, none⟩ e)⟩
theorem RowAt.strs {w : World} {g : Nat} {ss : List ByteArray} (h : RowAt w g ss) : StrsAt w (some ⟨g, 0, none⟩) ss.length ss := fun k hk => ⟨g, 0, rfl, by rw [Nat.zero_add]; exact h.cell hk⟩

theorem beq_same (s : ByteArray) : (s == s) = true := by
  cases s with | mk d =>
  show ByteArray.beq _ _ = true
  unfold ByteArray.beq
  simp
theorem bne_same (s : ByteArray) : (s != s) = false := by rw [bne, beq_same]; rfl

end Go.Proofs.Ytpljifeebbeakaa.Sl
