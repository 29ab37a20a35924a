/-
  A SLAB IN MEMORY: what its blocks hold, its map, its fields; what keeps it so; the short methods. No condition.
-/
import Derived.Test.YtpljifeebbeakaaSTurns
namespace Go.Proofs.Ytpljifeebbeakaa.Sl
open Go.RowKit Go.Maps

/-- what a slab is: the durable contents, the pending ones, the counted calls, whether and where it stops. -/
structure St where
  dur : List ByteArray
  loose : Int → Option ByteArray
  calls : Nat
  stops : Bool
  stopAt : Int

/-- the cells of a slab's struct. -/
def St.cells (σ : St) (pd pm : Nat) : Array Value :=
  #[.slice (some ⟨pd, 0, none⟩) σ.dur.length σ.dur.length, .map (some pm), .int .i64 σ.calls, .bool σ.stops, .int .i64 σ.stopAt]

structure SlabAt (w : World) (p pd pm : Nat) (σ : St) : Prop where
  hp : w.heap[p]? = some (.cells (σ.cells pd pm) 64 (0, 0))
  hd : w.heap[pd]? = some (.cells (σ.dur.map Value.string).toArray 9 (0, 0))
  hm : ∃ D, w.ownsMap Try.prog 3 pendElem pm 1000 D ∧ ∀ i, lk D i = σ.loose i
  ok : ∀ i, σ.loose i ≠ none → 0 ≤ i ∧ i < σ.dur.length
  len : σ.dur.length ≤ 1000
  ne : p ≠ pd

theorem heap_setCell_same (w : World) (b o : Nat) (v : Value) {cs : Array Value} {t : TypeId} {fr : Nat × Nat} (h : w.heap[b]? = some (.cells cs t fr)) :
    (w.setCell ⟨b, o, none⟩ v).heap[b]? = some (.cells (cs.setIfInBounds o v) t fr) := by
  simp only [World.setCell, Array.getElem?_modify, h]
  simp

namespace SlabAt
variable {w w' : World} {p pd pm : Nat} {σ σ' : St}

theorem c (h : SlabAt w p pd pm σ) (k : Nat) : w.cell? ⟨p, k, none⟩ = (σ.cells pd pm)[k]? := by
  simp [World.cell?, h.hp]
theorem c0 (h : SlabAt w p pd pm σ) : w.cell? ⟨p, 0, none⟩ = some (.slice (some ⟨pd, 0, none⟩) σ.dur.length σ.dur.length) := h.c 0
theorem c1 (h : SlabAt w p pd pm σ) : w.cell? ⟨p, 1, none⟩ = some (.map (some pm)) := h.c 1
theorem c2 (h : SlabAt w p pd pm σ) : w.cell? ⟨p, 2, none⟩ = some (.int .i64 σ.calls) := h.c 2
theorem c3 (h : SlabAt w p pd pm σ) : w.cell? ⟨p, 3, none⟩ = some (.bool σ.stops) := h.c 3
theorem c4 (h : SlabAt w p pd pm σ) : w.cell? ⟨p, 4, none⟩ = some (.int .i64 σ.stopAt) := h.c 4
theorem fz (h : SlabAt w p pd pm σ) (k : Nat) : w.frozen? ⟨p, k, none⟩ = false := by simp [World.frozen?, h.hp]
theorem fzd (h : SlabAt w p pd pm σ) (k : Nat) : w.frozen? ⟨pd, k, none⟩ = false := by simp [World.frozen?, h.hd]
theorem d (h : SlabAt w p pd pm σ) {k : Nat} (hk : k < σ.dur.length) : w.cell? ⟨pd, k, none⟩ = some (.string (σ.dur.getD k ⟨#[]⟩)) := by
  simp [World.cell?, h.hd, List.getD, hk]
theorem lt_p (h : SlabAt w p pd pm σ) : p < w.heap.size := (Array.getElem?_eq_some_iff.1 h.hp).1
theorem lt_d (h : SlabAt w p pd pm σ) : pd < w.heap.size := (Array.getElem?_eq_some_iff.1 h.hd).1
theorem lt_m (h : SlabAt w p pd pm σ) : pm < w.heap.size := by obtain ⟨D, hD, _⟩ := h.hm; exact hD.lt
theorem ne_mp (h : SlabAt w p pd pm σ) : pm ≠ p := fun e => by
  obtain ⟨D, ⟨es, cl, hb, _⟩, _⟩ := h.hm
  rw [e, h.hp] at hb; cases hb
theorem ne_md (h : SlabAt w p pd pm σ) : pm ≠ pd := fun e => by
  obtain ⟨D, ⟨es, cl, hb, _⟩, _⟩ := h.hm
  rw [e, h.hd] at hb; cases hb

/-- other blocks have turned. -/
theorem kept (h : SlabAt w p pd pm σ) {L : List Nat} (ht : Turns L w w') (h1 : p ∉ L) (h2 : pd ∉ L) (h3 : pm ∉ L) : SlabAt w' p pd pm σ := by
  refine ⟨(ht.block p h.lt_p h1).trans h.hp, (ht.block pd h.lt_d h2).trans h.hd, ?_, h.ok, h.len, h.ne⟩
  have hl := h.lt_m
  obtain ⟨D, ⟨es, cl, hb, r⟩, hl2⟩ := h.hm
  exact ⟨D, ⟨es, cl, (ht.block pm hl h3).trans hb, r⟩, hl2⟩
theorem keptB (h : SlabAt w p pd pm σ) (ht : Turns [] w w') : SlabAt w' p pd pm σ := h.kept ht (by simp) (by simp) (by simp)

/-- fields of the struct have turned. -/
theorem fields (h : SlabAt w p pd pm σ) (ht : Turns [p] w w') (hp : w'.heap[p]? = some (.cells (σ'.cells pd pm) 64 (0, 0))) (e1 : σ'.dur = σ.dur) (e2 : σ'.loose = σ.loose) : SlabAt w' p pd pm σ' := by
  have hnm := h.ne_mp
  have hnd := h.ne
  refine ⟨hp, ?_, ?_, ?_, by rw [e1]; exact h.len, h.ne⟩
  · rw [e1]; exact (ht.block pd h.lt_d (by simp; exact fun e => hnd e.symm)).trans h.hd
  · have hl := h.lt_m
    obtain ⟨D, ⟨es, cl, hb, r⟩, hl2⟩ := h.hm
    refine ⟨D, ⟨es, cl, (ht.block pm hl (by simp; exact hnm)).trans hb, r⟩, fun i => by rw [e2]; exact hl2 i⟩
  · rw [e1, e2]; exact h.ok
end SlabAt

set_option maxHeartbeats 1000000 in
theorem size_any (p pd pm : Nat) (σ : St) (w : World) (h : SlabAt w p pd pm σ) :
    Calls Try.prog 27 #[.pointer (some ⟨p, 0, none⟩)] w fun e w' => e = .returned (.int .i64 σ.dur.length) ∧ w = w' := by
  have c0 := h.c0
  have hl := h.len
  have H := Lib.hid h
  clear h
  go_enter Try.func27, Try.ntmps27
  go_wp2
  go_ret
  exact ⟨rfl, rfl⟩

set_option maxHeartbeats 1000000 in
theorem size_nil (w : World) : Calls Try.prog 27 #[.pointer none] w fun e w' => e = .returned (.int .i64 0) ∧ w = w' := by
  go_enter Try.func27, Try.ntmps27
  go_wp2
  go_ret
  exact ⟨rfl, rfl⟩

set_option maxHeartbeats 1000000 in
theorem calls_any (p pd pm : Nat) (σ : St) (w : World) (h : SlabAt w p pd pm σ) :
    Calls Try.prog 13 #[.pointer (some ⟨p, 0, none⟩)] w fun e w' => e = .returned (.int .i64 σ.calls) ∧ w = w' := by
  have c2 := h.c2
  have H := Lib.hid h
  clear h
  go_enter Try.func13, Try.ntmps13
  go_wp2
  go_ret
  exact ⟨rfl, rfl⟩

set_option maxHeartbeats 1000000 in
theorem calls_nil (w : World) : Calls Try.prog 13 #[.pointer none] w fun e w' => e = .returned (.int .i64 0) ∧ w = w' := by
  go_enter Try.func13, Try.ntmps13
  go_wp2
  go_ret
  exact ⟨rfl, rfl⟩

/-- is there such a block? -/
def St.has (σ : St) (i : Int) : Bool := decide (0 ≤ i) && decide (i < (σ.dur.length : Int))

theorem ret_bool {a b : Bool} (h : a = b) : (Ending.returned (.bool a)) = .returned (.bool b) := by rw [h]

set_option maxHeartbeats 1000000 in
theorem has_any (p pd pm : Nat) (σ : St) (i : Int) (w : World) (h : SlabAt w p pd pm σ) :
    Calls Try.prog 40 #[.pointer (some ⟨p, 0, none⟩), .int .i64 i] w fun e w' => e = .returned (.bool (σ.has i)) ∧ w = w' := by
  by_cases hi : 0 ≤ i
  · have hi' : decide (0 ≤ i) = true := by simpa using hi
    have HS : Hid (σ.has i = decide (i < (σ.dur.length : Int))) := by show _ = _; unfold St.has; rw [hi']; rfl
    clear hi
    go_enter Try.func40, Try.ntmps40
    go_wp2_with (go_at_call 27; refine (size_any p pd pm σ w h).mono ?_; rintro e w' ⟨rfl, rfl⟩)
    go_ret
    exact ⟨ret_bool HS.out.symm, rfl⟩
  · have hi' : decide (0 ≤ i) = false := by simpa using hi
    have HS : Hid (σ.has i = false) := by show _ = _; unfold St.has; rw [hi']; rfl
    clear hi
    go_enter Try.func40, Try.ntmps40
    go_wp2
    go_ret
    exact ⟨ret_bool HS.out.symm, rfl⟩

set_option maxHeartbeats 1000000 in
theorem has_nil (i : Int) (w : World) : Calls Try.prog 40 #[.pointer none, .int .i64 i] w fun e w' => e = .returned (.bool false) ∧ w = w' := by
  by_cases hi : 0 ≤ i
  · have hi' : decide (0 ≤ i) = true := by simpa using hi
    have hi2 : decide (i < 0) = false := by simpa using hi
    clear hi
    go_enter Try.func40, Try.ntmps40
    go_wp2_with (go_at_call 27; refine (size_nil w).mono ?_; rintro e w' ⟨rfl, rfl⟩)
    go_ret
    exact ⟨rfl, rfl⟩
  · have hi' : decide (0 ≤ i) = false := by simpa using hi
    clear hi
    go_enter Try.func40, Try.ntmps40
    go_wp2
    go_ret
    exact ⟨rfl, rfl⟩
end Go.Proofs.Ytpljifeebbeakaa.Sl
