/-
  WALK: texts says true of two slices that read as the same strings. Conditions: at most 1000 strings.
-/
import Derived.Test.YtclfklpekkkkfaaImage
namespace Go.Proofs.Ytclfklpekkkkfaa
open Go.RowKit Go.Maps

/-- the slice at A with n elements reads as the strings ss. -/
def StrsAt (w : World) (A : Option Addr) (n : Nat) (ss : List ByteArray) : Prop :=
  ∀ k, k < n → ∃ b o, A = some ⟨b, o, none⟩ ∧ w.cell? ⟨b, o + k, none⟩ = some (.string (ss.getD k ⟨#[]⟩))
theorem StrsAt.keep {w w' : World} {A : Option Addr} {n : Nat} {ss : List ByteArray} {L : List Nat} (h : StrsAt w A n ss) (ht : Turns L w w') (hA : ∀ a, A = some a → a.block ∉ L) : StrsAt w' A n ss := fun k hk => by
  obtain ⟨b, o, e, hc⟩ := h k hk
  exact ⟨b, o, e, ht.cell hc (hA ⟨b, o, none⟩ e)⟩
theorem RowAt.strs {w : World} {g : Nat} {ss : List ByteArray} (h : RowAt w g ss) : StrsAt w (some ⟨g, 0, none⟩) ss.length ss := fun k hk => ⟨g, 0, rfl, by rw [Nat.zero_add]; exact h.cell hk⟩

theorem beq_same (s : ByteArray) : (s == s) = true := by
  cases s with | mk d =>
  show ByteArray.beq _ _ = true
  unfold ByteArray.beq
  simp
theorem bne_same (s : ByteArray) : (s != s) = false := by rw [bne, beq_same]; rfl

set_option maxHeartbeats 1000000 in
theorem texts_same (A A' : Option Addr) (n c c' : Nat) (ss : List ByteArray) (w : World) (hn : n ≤ 1000) (h : StrsAt w A n ss) (h' : StrsAt w A' n ss) :
    Calls Try.prog 13 #[.slice A n c, .slice A' n c'] w fun e w' => e = .returned (.bool true) ∧ Turns [] w w' := by
  have H := Lib.hid h
  have H' := Lib.hid h'
  clear h h'
  go_enter Try.func13, Try.ntmps13
  go_wp2
  go_loopw [5] (fun i wr => ∃ k : Nat, k ≤ n ∧ i = .int .i64 k ∧ Turns [] w wr) (fun i _ => n - (intOf i).toNat)
  case atStart => exact ⟨0, Nat.zero_le _, rfl, Turns.refl _ _⟩
  case round =>
    obtain ⟨k, hk, rfl, ht⟩ := hrel
    by_cases hlt : k < n
    · obtain ⟨b, o, rfl, hc⟩ := H.out.keep ht (by simp) k hlt
      obtain ⟨b', o', rfl, hc'⟩ := H'.out.keep ht (by simp) k hlt
      have HT := Lib.hid ht
      clear ht
      generalize ss.getD k ⟨#[]⟩ = R at *
      have hne := bne_same R
      have heq := beq_same R
      go_wp2_with fail
      go_quiet (fail)
      go_wp2
      go_roundw
      case rel => exact ⟨k + 1, by omega, by go_num, HT.out.trans (drewN_turns _ _)⟩
      case measure => simp [intOf]; omega
    · have HT := Lib.hid ht
      clear ht
      go_wp2
      go_ret
      exact ⟨rfl, HT.out⟩
end Go.Proofs.Ytclfklpekkkkfaa
