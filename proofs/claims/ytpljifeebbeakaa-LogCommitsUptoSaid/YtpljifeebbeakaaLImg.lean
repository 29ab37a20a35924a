/-
  IMAGES that a law fills: the first of some texts, and empty ones. No condition.
-/
import Derived.Test.YtpljifeebbeakaaLLives
namespace Go.Proofs.Ytpljifeebbeakaa
open Go.RowKit
open Sl (St SlabAt Turns RowAt)

/-- the first k of some texts, N in all. -/
def mixB (ss : List ByteArray) (N k : Nat) : List ByteArray := ss.take k ++ List.replicate (N - k) ⟨#[]⟩
theorem mixB_0 (ss : List ByteArray) (N : Nat) : mixB ss N 0 = List.replicate N ⟨#[]⟩ := by simp [mixB]
theorem mixB_len {ss : List ByteArray} {N k : Nat} (h : k ≤ ss.length) (h2 : k ≤ N) : (mixB ss N k).length = N := by simp [mixB]; omega
theorem mixB_set {ss : List ByteArray} {N k : Nat} (h : k < ss.length) (h2 : k < N) : (mixB ss N k).set k (ss.getD k ⟨#[]⟩) = mixB ss N (k + 1) := by
  apply List.ext_getElem?
  intro j
  unfold mixB
  rw [List.getElem?_set]
  by_cases e : k = j
  · subst e
    rw [if_pos rfl, if_pos (by simp; omega), List.getElem?_append_left (by simp; omega), List.getElem?_take_of_lt (by omega)]
    simp [List.getD, h]
  · rw [if_neg e]
    by_cases hj : j < k
    · rw [List.getElem?_append_left (by simp; omega), List.getElem?_append_left (by simp; omega), List.getElem?_take_of_lt hj, List.getElem?_take_of_lt (by omega)]
    · rw [List.getElem?_append_right (by simp; omega), List.getElem?_append_right (by simp; omega)]
      simp only [List.getElem?_replicate, List.length_take]
      have : (j - min k ss.length < N - k) ↔ (j - min (k + 1) ss.length < N - (k + 1)) := by omega
      simp only [this]
theorem mixB_mem {ss : List ByteArray} {N k : Nat} {M : Nat} (h : ∀ s ∈ ss, s.size ≤ M) : ∀ s ∈ mixB ss N k, s.size ≤ M := by
  intro s hs
  rcases List.mem_append.1 hs with h1 | h1
  · exact h s (List.mem_of_mem_take h1)
  · rw [List.eq_of_mem_replicate h1]; exact Nat.zero_le _
theorem whole_size (s : ByteArray) : (Sl.wholeS s).size = 128 := size_padS _ _ (by rw [ByteArray.size_extract]; omega)
theorem load_len {D : List ByteArray} (h : D.length ≤ 1000) : (Sl.loadS D).length = D.length := by simp [Sl.loadS]; omega
theorem load_whole (D : List ByteArray) : Whole (Sl.loadS D) := by
  intro s hs
  obtain ⟨t, _, rfl⟩ := List.mem_map.1 hs
  exact whole_size t
theorem whole_whole {s : ByteArray} (h : s.size = 128) : Sl.wholeS s = s := by
  unfold Sl.wholeS
  have e : s.extract 0 (min s.size 128) = s := by
    rw [h]
    apply ByteArray.ext
    rw [ByteArray.data_extract]
    have : s.data.size = 128 := h
    rw [show min 128 128 = s.data.size by omega]
    simp
  rw [e]; exact padS_full h
theorem load_same {D : List ByteArray} (hw : Whole D) (h : D.length ≤ 1000) : Sl.loadS D = D := by
  unfold Sl.loadS
  rw [List.take_of_length_le h]
  refine (List.map_congr_left fun s hs => whole_whole (hw s hs)).trans (List.map_id _)
theorem rowB (w : World) (D : List ByteArray) (M : Array Value) (hM : M = (D.map Value.string).toArray) : RowAt (w.alloc (.cells M 9)) w.heap.size D := by
  unfold RowAt; rw [hM]; exact heap_alloc_new w _
theorem load_calm (A : Option Addr) (n c : Nat) (ss : List ByteArray) (w : World) (hA : Sl.StrsAt w A n ss) (hn : ss.length = n) (hnc : n ≤ c) (hsz : ∀ s, s ∈ ss → s.size ≤ 9223372036854775807) :
    Calls Try.prog 23 #[.slice A n c] w fun e w' => ∃ p pd pm, e = .returned (.pointer (some ⟨p, 0, none⟩)) ∧ SlabAt w' p pd pm (FS (Sl.loadS ss) 0) ∧ w.heap.size ≤ p ∧ w.heap.size ≤ pd ∧ w.heap.size ≤ pm ∧ Below w.heap.size w w' :=
  (Sl.load_any A n c ss w hA hn hnc hsz).mono fun _ _ ⟨h1, h2, h3⟩ => ⟨_, _, _, h1, h2, by omega, by omega, by omega, h3⟩
/-- an image of a slab without loose blocks. -/
theorem image_calm (p pd pm : Nat) (D : List ByteArray) (c : Nat) (w : World) (h : SlabAt w p pd pm (FS D c)) :
    Calls Try.prog 11 #[.pointer (some ⟨p, 0, none⟩)] w fun e w' => e = .returned (.slice (some ⟨w.heap.size, 0, none⟩) D.length D.length) ∧ RowAt w' w.heap.size D ∧ Below w.heap.size w w' := by
  have h1 := Sl.image_any p pd pm (FS D c) w h
  rw [img_FS] at h1
  exact h1
theorem calls_calm (p pd pm : Nat) (D : List ByteArray) (c : Nat) (w : World) (h : SlabAt w p pd pm (FS D c)) :
    Calls Try.prog 13 #[.pointer (some ⟨p, 0, none⟩)] w fun e w' => e = .returned (.int .i64 c) ∧ w = w' := Sl.calls_any p pd pm (FS D c) w h
end Go.Proofs.Ytpljifeebbeakaa
