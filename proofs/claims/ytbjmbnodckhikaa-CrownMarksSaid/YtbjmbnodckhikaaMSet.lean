/-
  WALKS: strings.Clone, Set. Conditions: strings of at most 1000000000000 bytes, integers of an int64.
-/
import Derived.Test.YtbjmbnodckhikaaMCount
import Derived.Test.YtbjmbnodckhikaaPad
import Derived.Lib.Walk
import Derived.Lib.BufferWrite
import Derived.Lib.Bytealg
import Derived.Lib.UnsafeStr
import Derived.Laws.MakeOwn
import Derived.Laws.IdiomStrings
import Derived.RegionTactic
import Derived.Deep.RegionWith
namespace Go.Proofs.Ytbjmbnodckhikaa
open Go.RowKit

/-- '[]byte(s)', for the walk to take: a new row of the bytes of s. -/
theorem bytes_new (m : ByteArray) (w : World) : ∃ W1 cap, (convert 9 53 (.string m)).run Try.prog w = .ok (.slice (some ⟨w.heap.size, 0, none⟩) m.size cap) W1 ∧ Below w.heap.size w W1 ∧
    (∀ j, j < m.size → W1.cell? ⟨w.heap.size, j, none⟩ = some (.int .u8 ((byteN m j).toNat : Int))) ∧ (∀ j, j < m.size → W1.frozen? ⟨w.heap.size, j, none⟩ = false) := by
  refine ⟨_, _, run_bytes_of_string w 9 53 5 m Try.underlying9 Try.underlying53 Try.underlying5, ?_, ?_, ?_⟩
  · exact ((Below.refl _ _).drew).alloc (Nat.le_refl _) _
  · intro j hj
    have h1 := World.cell?_alloc_mark w.drew (bytesRow m (grownCap w m.size 0 5)) 5 ((bytesRow m (grownCap w m.size 0 5)).size, (bytesRow m (grownCap w m.size 0 5)).size + 1) j
    have h2 := bytesRow_at m (grownCap w m.size 0 5) j (by simpa using hj)
    have h3 : byteN m j = m.data[j] := by rw [byte_at m j hj]; rfl
    rw [h3, ← h2]
    exact h1
  · intro j hj
    have h1 := World.frozen?_alloc_mark w.drew (bytesRow m (grownCap w m.size 0 5)) 5 (bytesRow m (grownCap w m.size 0 5)).size ((bytesRow m (grownCap w m.size 0 5)).size + 1) j
    have h2 : (bytesRow m (grownCap w m.size 0 5)).size = m.size + (grownCap w m.size 0 5 - m.size) := by simp [bytesRow]
    have h3 : (decide ((bytesRow m (grownCap w m.size 0 5)).size ≤ j) && decide (j < (bytesRow m (grownCap w m.size 0 5)).size + 1)) = false := by
      rw [Bool.and_eq_false_iff]; left; simp; omega
    rw [h3] at h1
    exact h1
theorem conv_back {W : World} {g cap : Nat} (R : ByteArray) (hc : ∀ j, j < R.size → W.cell? ⟨g, j, none⟩ = some (.int .u8 ((byteN R j).toNat : Int))) :
    (convert 53 9 (.slice (some ⟨g, 0, none⟩) R.size cap)).run Try.prog W = .ok (.string R) W := by
  have h := run_convert_bytes_back (P := Try.prog) W 53 9 5 ⟨g, 0, none⟩ cap R.data.toList Try.underlying53 Try.underlying5 Try.underlying9 (fun j hj => by
    rw [Go.WideShapes.add_plain, Nat.zero_add, hc j (by simpa using hj)]
    unfold byteN
    rw [List.getD, List.getElem?_eq_getElem hj]; rfl)
  rw [← Lib.size_eq] at h
  rw [h]

theorem set_cells {W : World} {g : Nat} (m : ByteArray) (k : Nat) (yes : Bool) (v : Int) (h : k / 8 < m.size) (hc : ∀ j, j < m.size → W.cell? ⟨g, j, none⟩ = some (.int .u8 ((byteN m j).toNat : Int)))
    (hv : v = ((setByte (byteN m (k / 8)) (k % 8) yes).toNat : Int)) : ∀ j, j < (setN m k yes).size → (W.setCell ⟨g, k / 8, none⟩ (.int .u8 v)).cell? ⟨g, j, none⟩ = some (.int .u8 ((byteN (setN m k yes) j).toNat : Int)) := by
  intro j hj
  rw [size_setN] at hj
  rw [byte_setN m k j yes h]
  by_cases e : j = k / 8
  · rw [if_pos e, e, hv]
    have := hc (k / 8) h
    go_simp
  · rw [if_neg e]
    have := hc j hj
    go_simp

end Go.Proofs.Ytbjmbnodckhikaa
