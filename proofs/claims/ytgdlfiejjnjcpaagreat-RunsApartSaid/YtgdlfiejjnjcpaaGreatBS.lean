/-
  WORDS OF MEMORY for the proofs over layer 2: which blocks may have turned between two worlds; the elements of the map of loose blocks; a slab in memory. No condition.
  A SLAB IN MEMORY: what its blocks hold, its map, its fields; what keeps it so; the short methods. No condition.
  WALKS: countCall and Stop of a slab. Conditions: fewer than 1000000 calls so far.
  WALKS: Pad, and the reference's Zeros and Whole. Conditions: strings of at most 9223372036854775807 bytes; Zeros of at most 1000.
  WALKS: Write and Read of a slab. Conditions: strings of at most 9223372036854775807 bytes; fewer than 1000000 calls so far.
  WALKS: Read and Image of a slab. No condition.
  WALKS: Image of a slab, and texts, which compares two rows of strings. No condition.
  WALK: texts says true of two slices that read as the same strings. Conditions: at most 1000 strings.
  WALKS: Load and New. Conditions: strings of at most 9223372036854775807 bytes.
  WALK: New. Conditions: none but that n is an int.
  WALK: Loose, where no block is loose: a slice of no numbers. Condition: no block is loose.
  WALK: Flush. Conditions: fewer than 1000000 calls so far.
-/
import Derived.Test.YtgdlfiejjnjcpaaGreatRows
import Derived.WalkKit
import Derived.WalkSpells
import Derived.WalkLawsBesides
import Derived.Lib.Hide
import Derived.Lib.Walk
import Derived.Maps.RangeWalk
import Derived.Laws.MakeOwn
import Derived.Sort.KeysCollected
import Derived.Deep.QuietTactic
import Derived.BigQuiet
import Derived.Lib.BufferWrite
import Derived.Laws.IdiomStrings
import Derived.Maps.OwnSet
import Derived.Carry
import Derived.RegionTactic
import Derived.Deep.RegionWith
import Derived.ChangeAlike
namespace Go.Proofs.YtgdlfiejjnjcpaaGreat.Sl
open Go.RowKit Go.Maps

/-- Of the blocks that were there only those of L have turned. -/
structure Turns (L : List Nat) (w w' : World) : Prop where
  os : w'.os = w.os
  tape : w'.tape = w.tape
  output : w'.output = w.output
  size : w.heap.size ≤ w'.heap.size
  block : ∀ k, k < w.heap.size → k ∉ L → w'.heap[k]? = w.heap[k]?

theorem Turns.refl (L : List Nat) (w : World) : Turns L w w := ⟨rfl, rfl, rfl, Nat.le_refl _, fun _ _ _ => rfl⟩
theorem Turns.trans {L : List Nat} {a b c : World} (h : Turns L a b) (k : Turns L b c) : Turns L a c :=
  ⟨k.os.trans h.os, k.tape.trans h.tape, k.output.trans h.output, Nat.le_trans h.size k.size, fun i hi hn => (k.block i (Nat.lt_of_lt_of_le hi h.size) hn).trans (h.block i hi hn)⟩
/-- the second step may have turned blocks that the first made. -/
theorem Turns.transNew {L L' : List Nat} {a b c : World} (h : Turns L a b) (k : Turns L' b c) (hL : ∀ j, j ∈ L' → j ∈ L ∨ a.heap.size ≤ j) : Turns L a c :=
  ⟨k.os.trans h.os, k.tape.trans h.tape, k.output.trans h.output, Nat.le_trans h.size k.size, fun i hi hn => (k.block i (Nat.lt_of_lt_of_le hi h.size) (fun hm => by
    rcases hL i hm with h1 | h1
    · exact hn h1
    · omega)).trans (h.block i hi hn)⟩
theorem Turns.mono {L L' : List Nat} {a b : World} (h : Turns L a b) (hL : ∀ j, j ∈ L → j ∈ L') : Turns L' a b :=
  ⟨h.os, h.tape, h.output, h.size, fun i hi hn => h.block i hi (fun hm => hn (hL i hm))⟩
theorem Turns.of_below {w w' : World} (L : List Nat) (h : Below w.heap.size w w') : Turns L w w' := ⟨h.os, h.tape, h.output, h.size, fun k hk _ => h.block k hk⟩
theorem Turns.below {L : List Nat} {w w' : World} {B : Nat} (h : Turns L w w') (hB : B ≤ w.heap.size) (hL : ∀ j, j ∈ L → B ≤ j) : Below B w w' :=
  ⟨h.os, h.tape, h.output, h.size, fun k hk => h.block k (by omega) (fun hm => by have := hL k hm; omega)⟩
theorem Turns.of_grown {w w' : World} {row : Option Nat} {L : List Nat} (h : w.grownBy w' row) (hr : ∀ j, row = some j → j ∈ L) : Turns L w w' :=
  ⟨h.os, h.tape, h.output, h.size, fun k hk hn => h.block k hk (fun e => hn (hr k e.symm))⟩
theorem Turns.alloc (L : List Nat) (w : World) (o : Obj) : Turns L w (w.alloc o) := Turns.of_grown (World.grownBy_alloc w o none) (by simp)
theorem Turns.setCell {L : List Nat} (w : World) {p : Addr} (hp : p.block ∈ L) (u : Value) : Turns L w (w.setCell p u) :=
  ⟨rfl, rfl, rfl, by simp [World.setCell], fun k _ hn => Below.heap_setCell _ _ _ _ (fun e => hn (e ▸ hp))⟩
theorem Turns.cell {L : List Nat} {w w' : World} (h : Turns L w w') {a : Addr} {v : Value} (hc : w.cell? a = some v) (hn : a.block ∉ L) : w'.cell? a = some v :=
  (World.cell?_of_block (h.block a.block (World.block_lt_of_cell? w a hc) hn)).trans hc

/-! ### the elements of the map: a struct of one string -/
def pendElem : Value → Option (DataW Unit × List MemPlace)
  | .agg cs => match cs.toList with
    | [.string s] => some (.lit (.string s.data.toList), [])
    | _ => none
  | _ => none
theorem pendElem_mk (s : ByteArray) : pendElem (.agg #[.string s]) = some (.lit (.string s.data.toList), []) := rfl
theorem pendElem_inv {v : Value} {z : DataW Unit × List MemPlace} (h : pendElem v = some z) : ∃ s : ByteArray, v = .agg #[.string s] ∧ z = (.lit (.string s.data.toList), []) := by
  unfold pendElem at h
  split at h
  · rename_i cs
    split at h
    · rename_i s hs
      cases h
      refine ⟨s, ?_, rfl⟩
      congr 1
      apply Array.ext'
      simpa using hs
    · cases h
  · cases h

/-- what the map holds at a key: bytes, or nothing. -/
def strAt : DataW Unit → ByteArray
  | .lit (.string l) => ⟨l.toArray⟩
  | _ => ⟨#[]⟩
def lk (D : DataW Unit) (i : Int) : Option ByteArray := if Maps.has D (.int .i64 i) = true then some (strAt (D.atKey (.int .i64 i) .nil)) else none

theorem strAt_mk (s : ByteArray) : strAt (.lit (.string s.data.toList)) = s := rfl
theorem lk_has {D : DataW Unit} {i : Int} : (lk D i).isSome = Maps.has D (.int .i64 i) := by unfold lk; split <;> simp_all
theorem lk_empty (i : Int) : lk (.map []) i = none := rfl
theorem isKey_int (i : Int) : WideAt.IsKeyLit (.int .i64 i) := trivial
theorem lk_put {D : DataW Unit} (hD : IsMap D) (i j : Int) (s : ByteArray) : lk (D.put (.int .i64 i) (.lit (.string s.data.toList))) j = if j = i then some s else lk D j := by
  by_cases h : j = i
  · subst h
    rw [if_pos rfl]
    unfold lk
    rw [has_put_same hD (isKey_int _), if_pos rfl, atKey_put_same hD (isKey_int _)]
    rfl
  · rw [if_neg h]
    have hne : (Lit.int .i64 j) ≠ (Lit.int .i64 i) := fun e => h (by cases e; rfl)
    unfold lk
    rw [has_put_other hne, atKey_put_other hne]
theorem lk_at {D : DataW Unit} {i : Int} {s : ByteArray} (h : ∀ zd, D.atKey (.int .i64 i) zd = .lit (.string s.data.toList)) : lk D i = some s := by
  unfold lk
  rw [has_true_of_atKey h, if_pos rfl, h]; rfl

theorem law3 : Keyed Tryz.prog 3 := int_keyed Tryz.underlying3
theorem zero60 (w : World) : (zeroValue 165).run Tryz.prog w = .ok (.agg #[.string ⟨#[]⟩]) w := by kernel_rfl

theorem key_i64 {i : Int} (hi : -9223372036854775808 ≤ i ∧ i ≤ 9223372036854775807) : keyOf Tryz.prog 3 (.int .i64 i) = some (.int .i64 i) := keyOf_int_mk Tryz.underlying3 (WalkArith.wf_i64 hi)

/-- what a look-up reads: nothing there: no bytes. -/
theorem look_pend {w : World} {b n : Nat} {D : DataW Unit} {i : Int} {v : Value} {ps : List MemPlace} (_h : w.ownsMap Tryz.prog 3 pendElem b n D) (hv : pendElem v = some (D.atKey (.int .i64 i) (.lit (.string [])), ps)) :
    v = .agg #[.string ((lk D i).getD ⟨#[]⟩)] := by
  obtain ⟨s, rfl, hs⟩ := pendElem_inv hv
  have hs1 : D.atKey (.int .i64 i) (.lit (.string [])) = .lit (.string s.data.toList) := congrArg Prod.fst hs
  congr 2
  cases hh : Maps.has D (.int .i64 i)
  · have := atKey_of_not_has hh (.lit (.string []) : DataW Unit)
    rw [this] at hs1
    have e : s = ⟨#[]⟩ := by
      apply ByteArray.ext
      apply Array.ext'
      simp at hs1
      simp [← hs1]
    unfold lk
    rw [hh, e]; rfl
  · unfold lk
    rw [hh, if_pos rfl]
    have e : D.atKey (.int .i64 i) .nil = .lit (.string s.data.toList) := by
      obtain ⟨es, rfl⟩ := _h.isMap
      unfold Maps.has at hh
      obtain ⟨p, hp1, hp2⟩ := List.any_eq_true.1 hh
      have hex : ∃ q, es.find? (fun p => p.1.sameKey (.int .i64 i)) = some q := by
        cases hf : es.find? (fun p => p.1.sameKey (.int .i64 i)) with
        | none => rw [List.find?_eq_none] at hf; exact absurd hp2 (hf p hp1)
        | some q => exact ⟨q, rfl⟩
      obtain ⟨q, hq⟩ := hex
      rw [← hs1]
      simp only [DataW.atKey, hq]
    rw [e]
    rfl

theorem nodup_le : ∀ (n : Nat) (l : List Nat), l.Nodup → (∀ x, x ∈ l → x < n) → l.length ≤ n
  | 0, l, _, h => by
    cases l with
    | nil => simp
    | cons a r => exact absurd (h a (by simp)) (by omega)
  | n + 1, l, hn, h => by
    have ih := nodup_le n (l.erase n) (hn.erase n) (fun x hx => by
      have h1 := (hn.mem_erase_iff).1 hx
      have h2 := h x h1.2
      have h3 := h1.1
      omega)
    by_cases hm : n ∈ l
    · rw [List.length_erase_of_mem hm] at ih; omega
    · rw [List.erase_of_not_mem hm] at ih; omega

/-- the keys of a map that is in order: as many as there are blocks, at most. -/
theorem own_tight {w : World} {b n len : Nat} {D : DataW Unit} (h : w.ownsMap Tryz.prog 3 pendElem b n D) (hk : ∀ i, lk D i ≠ none → 0 ≤ i ∧ i < (len : Int)) (hl : len ≤ 1000) : w.ownsMap Tryz.prog 3 pendElem b 1000 D := by
  obtain ⟨es', hD, hp, _⟩ := h.entries law3
  obtain ⟨es'', hD', hko⟩ := h.keysOf
  obtain rfl : es' = es'' := by rw [hD] at hD'; simpa using hD'
  obtain ⟨es, clock, hb, F, hs, hDD⟩ := h
  refine ⟨es, clock, hb, F, ?_, hDD⟩
  have e1 : es.size = es'.length := by
    rw [hDD] at hD
    injection hD with hD
    rw [← hD, length_sorted]
    simp
  rw [e1]
  have hint : ∀ p, p ∈ es' → ∃ x : Int, p.1 = .int .i64 x ∧ 0 ≤ x ∧ x < (len : Int) := fun p hpm => by
    obtain ⟨v, hv⟩ := hko p hpm
    obtain ⟨x, _, hx, _⟩ := Maps.keyOf_int_inv Tryz.underlying3 hv
    refine ⟨x, hx, hk x ?_⟩
    have : Maps.has D (.int .i64 x) = true := by
      rw [hD]
      exact List.any_eq_true.2 ⟨p, hpm, by rw [hx]; exact WideAt.sameKey_self (isKey_int x)⟩
    unfold lk
    rw [this]; simp
  have hle := nodup_le len (es'.map fun p => (match p.1 with | .int _ x => x.toNat | _ => 0)) (by
    refine List.pairwise_map.2 (hp.imp_of_mem fun {p q} hp' hq' hne e => hne ?_)
    obtain ⟨x, hx, h0, _⟩ := hint p hp'
    obtain ⟨y, hy, h1, _⟩ := hint q hq'
    rw [hx, hy] at e ⊢
    simp only at e
    congr 1
    omega) (fun x hx => by
    obtain ⟨p, hpm, rfl⟩ := List.mem_map.1 hx
    obtain ⟨x, hx, h0, h1⟩ := hint p hpm
    rw [hx]
    simp only
    omega)
  rw [List.length_map] at hle
  omega

end Go.Proofs.YtgdlfiejjnjcpaaGreat.Sl

namespace Go.Proofs.YtgdlfiejjnjcpaaGreat.Sl
open Go.RowKit Go.Maps

/-- what a slab is: the durable contents, the pending ones, the counted calls, whether and where it stops. -/
structure St where
  dur : List ByteArray
  loose : Int → Option ByteArray
  calls : Nat
  stops : Bool
  stopAt : Int

/-- the cells of a slab's struct. -/
def St.cells (σ : St) (pd pm : Nat) : Array Value :=
  #[.slice (some ⟨pd, 0, none⟩) σ.dur.length σ.dur.length, .map (some pm), .int .i64 σ.calls, .bool σ.stops, .int .i64 σ.stopAt]

structure SlabAt (w : World) (p pd pm : Nat) (σ : St) : Prop where
  hp : w.heap[p]? = some (.cells (σ.cells pd pm) 136 (0, 0))
  hd : w.heap[pd]? = some (.cells (σ.dur.map Value.string).toArray 9 (0, 0))
  hm : ∃ D, w.ownsMap Tryz.prog 3 pendElem pm 1000 D ∧ ∀ i, lk D i = σ.loose i
  ok : ∀ i, σ.loose i ≠ none → 0 ≤ i ∧ i < σ.dur.length
  len : σ.dur.length ≤ 1000
  ne : p ≠ pd

theorem heap_setCell_same (w : World) (b o : Nat) (v : Value) {cs : Array Value} {t : TypeId} {fr : Nat × Nat} (h : w.heap[b]? = some (.cells cs t fr)) :
    (w.setCell ⟨b, o, none⟩ v).heap[b]? = some (.cells (cs.setIfInBounds o v) t fr) := by
  simp only [World.setCell, Array.getElem?_modify, h]
  simp

namespace SlabAt
variable {w w' : World} {p pd pm : Nat} {σ σ' : St}

theorem c (h : SlabAt w p pd pm σ) (k : Nat) : w.cell? ⟨p, k, none⟩ = (σ.cells pd pm)[k]? := by
  simp [World.cell?, h.hp]
theorem c0 (h : SlabAt w p pd pm σ) : w.cell? ⟨p, 0, none⟩ = some (.slice (some ⟨pd, 0, none⟩) σ.dur.length σ.dur.length) := h.c 0
theorem c1 (h : SlabAt w p pd pm σ) : w.cell? ⟨p, 1, none⟩ = some (.map (some pm)) := h.c 1
theorem c2 (h : SlabAt w p pd pm σ) : w.cell? ⟨p, 2, none⟩ = some (.int .i64 σ.calls) := h.c 2
theorem c3 (h : SlabAt w p pd pm σ) : w.cell? ⟨p, 3, none⟩ = some (.bool σ.stops) := h.c 3
theorem c4 (h : SlabAt w p pd pm σ) : w.cell? ⟨p, 4, none⟩ = some (.int .i64 σ.stopAt) := h.c 4
theorem fz (h : SlabAt w p pd pm σ) (k : Nat) : w.frozen? ⟨p, k, none⟩ = false := by simp [World.frozen?, h.hp]
theorem fzd (h : SlabAt w p pd pm σ) (k : Nat) : w.frozen? ⟨pd, k, none⟩ = false := by simp [World.frozen?, h.hd]
theorem d (h : SlabAt w p pd pm σ) {k : Nat} (hk : k < σ.dur.length) : w.cell? ⟨pd, k, none⟩ = some (.string (σ.dur.getD k ⟨#[]⟩)) := by
  simp [World.cell?, h.hd, List.getD, hk]
theorem lt_p (h : SlabAt w p pd pm σ) : p < w.heap.size := (Array.getElem?_eq_some_iff.1 h.hp).1
theorem lt_d (h : SlabAt w p pd pm σ) : pd < w.heap.size := (Array.getElem?_eq_some_iff.1 h.hd).1
theorem lt_m (h : SlabAt w p pd pm σ) : pm < w.heap.size := by obtain ⟨D, hD, _⟩ := h.hm; exact hD.lt
theorem ne_mp (h : SlabAt w p pd pm σ) : pm ≠ p := fun e => by
  obtain ⟨D, ⟨es, cl, hb, _⟩, _⟩ := h.hm
  rw [e, h.hp] at hb; cases hb
theorem ne_md (h : SlabAt w p pd pm σ) : pm ≠ pd := fun e => by
  obtain ⟨D, ⟨es, cl, hb, _⟩, _⟩ := h.hm
  rw [e, h.hd] at hb; cases hb

/-- other blocks have turned. -/
theorem kept (h : SlabAt w p pd pm σ) {L : List Nat} (ht : Turns L w w') (h1 : p ∉ L) (h2 : pd ∉ L) (h3 : pm ∉ L) : SlabAt w' p pd pm σ := by
  refine ⟨(ht.block p h.lt_p h1).trans h.hp, (ht.block pd h.lt_d h2).trans h.hd, ?_, h.ok, h.len, h.ne⟩
  have hl := h.lt_m
  obtain ⟨D, ⟨es, cl, hb, r⟩, hl2⟩ := h.hm
  exact ⟨D, ⟨es, cl, (ht.block pm hl h3).trans hb, r⟩, hl2⟩
theorem keptB (h : SlabAt w p pd pm σ) (ht : Turns [] w w') : SlabAt w' p pd pm σ := h.kept ht (by simp) (by simp) (by simp)

/-- fields of the struct have turned. -/
theorem fields (h : SlabAt w p pd pm σ) (ht : Turns [p] w w') (hp : w'.heap[p]? = some (.cells (σ'.cells pd pm) 136 (0, 0))) (e1 : σ'.dur = σ.dur) (e2 : σ'.loose = σ.loose) : SlabAt w' p pd pm σ' := by
  have hnm := h.ne_mp
  have hnd := h.ne
  refine ⟨hp, ?_, ?_, ?_, by rw [e1]; exact h.len, h.ne⟩
  · rw [e1]; exact (ht.block pd h.lt_d (by simp; exact fun e => hnd e.symm)).trans h.hd
  · have hl := h.lt_m
    obtain ⟨D, ⟨es, cl, hb, r⟩, hl2⟩ := h.hm
    refine ⟨D, ⟨es, cl, (ht.block pm hl (by simp; exact hnm)).trans hb, r⟩, fun i => by rw [e2]; exact hl2 i⟩
  · rw [e1, e2]; exact h.ok
end SlabAt

set_option maxHeartbeats 1000000 in
theorem size_any (p pd pm : Nat) (σ : St) (w : World) (h : SlabAt w p pd pm σ) :
    Calls Tryz.prog 54 #[.pointer (some ⟨p, 0, none⟩)] w fun e w' => e = .returned (.int .i64 σ.dur.length) ∧ w = w' := by
  have c0 := h.c0
  have hl := h.len
  have H := Lib.hid h
  clear h
  go_enter Tryz.func54, Tryz.ntmps54
  go_wp2
  go_ret
  exact ⟨rfl, rfl⟩

set_option maxHeartbeats 1000000 in
theorem size_nil (w : World) : Calls Tryz.prog 54 #[.pointer none] w fun e w' => e = .returned (.int .i64 0) ∧ w = w' := by
  go_enter Tryz.func54, Tryz.ntmps54
  go_wp2
  go_ret
  exact ⟨rfl, rfl⟩

/-- is there such a block? -/
def St.has (σ : St) (i : Int) : Bool := decide (0 ≤ i) && decide (i < (σ.dur.length : Int))

theorem ret_bool {a b : Bool} (h : a = b) : (Ending.returned (.bool a)) = .returned (.bool b) := by rw [h]

set_option maxHeartbeats 1000000 in
theorem has_any (p pd pm : Nat) (σ : St) (i : Int) (w : World) (h : SlabAt w p pd pm σ) :
    Calls Tryz.prog 128 #[.pointer (some ⟨p, 0, none⟩), .int .i64 i] w fun e w' => e = .returned (.bool (σ.has i)) ∧ w = w' := by
  by_cases hi : 0 ≤ i
  · have hi' : decide (0 ≤ i) = true := by simpa using hi
    have HS : Hid (σ.has i = decide (i < (σ.dur.length : Int))) := by show _ = _; unfold St.has; rw [hi']; rfl
    clear hi
    go_enter Tryz.func128, Tryz.ntmps128
    go_wp2_with (go_at_call 54; refine (size_any p pd pm σ w h).mono ?_; rintro e w' ⟨rfl, rfl⟩)
    go_ret
    exact ⟨ret_bool HS.out.symm, rfl⟩
  · have hi' : decide (0 ≤ i) = false := by simpa using hi
    have HS : Hid (σ.has i = false) := by show _ = _; unfold St.has; rw [hi']; rfl
    clear hi
    go_enter Tryz.func128, Tryz.ntmps128
    go_wp2
    go_ret
    exact ⟨ret_bool HS.out.symm, rfl⟩

set_option maxHeartbeats 1000000 in
theorem has_nil (i : Int) (w : World) : Calls Tryz.prog 128 #[.pointer none, .int .i64 i] w fun e w' => e = .returned (.bool false) ∧ w = w' := by
  by_cases hi : 0 ≤ i
  · have hi' : decide (0 ≤ i) = true := by simpa using hi
    have hi2 : decide (i < 0) = false := by simpa using hi
    clear hi
    go_enter Tryz.func128, Tryz.ntmps128
    go_wp2_with (go_at_call 54; refine (size_nil w).mono ?_; rintro e w' ⟨rfl, rfl⟩)
    go_ret
    exact ⟨rfl, rfl⟩
  · have hi' : decide (0 ≤ i) = false := by simpa using hi
    clear hi
    go_enter Tryz.func128, Tryz.ntmps128
    go_wp2
    go_ret
    exact ⟨rfl, rfl⟩
end Go.Proofs.YtgdlfiejjnjcpaaGreat.Sl

namespace Go.Proofs.YtgdlfiejjnjcpaaGreat.Sl
open Go.RowKit Go.Maps

/-- one call more is counted. -/
def St.tick (σ : St) : St := { σ with calls := σ.calls + 1 }
/-- is it stopped for the next call? -/
def St.halted (σ : St) : Bool := σ.stops && decide (σ.stopAt ≤ (σ.calls : Int))

theorem SlabAt.ticked {w w' : World} {p pd pm : Nat} {σ : St} (h : SlabAt w p pd pm σ) (ht : Turns [] w w') :
    SlabAt (w'.setCell ⟨p, 2, none⟩ (.int .i64 ((σ.calls : Int) + 1))) p pd pm σ.tick ∧ Turns [p] w (w'.setCell ⟨p, 2, none⟩ (.int .i64 ((σ.calls : Int) + 1))) := by
  have h' := h.keptB ht
  have h2 : Turns [p] w' (w'.setCell ⟨p, 2, none⟩ (.int .i64 ((σ.calls : Int) + 1))) := Turns.setCell w' (by simp) _
  refine ⟨h'.fields h2 ?_ rfl rfl, (ht.mono (by simp)).trans h2⟩
  rw [heap_setCell_same _ _ _ _ h'.hp]
  simp [St.cells, St.tick]

theorem drewN_turns (w : World) (n : Nat) : Turns [] w (w.drewN n) := ⟨rfl, rfl, rfl, Nat.le_refl _, fun _ _ _ => rfl⟩

set_option maxHeartbeats 1000000 in
theorem count_any (p pd pm : Nat) (σ : St) (w : World) (h : SlabAt w p pd pm σ) (hc : σ.calls < 1000000) :
    Calls Tryz.prog 143 #[.pointer (some ⟨p, 0, none⟩)] w fun e w' => e = .returned (.bool σ.halted) ∧ SlabAt w' p pd pm σ.tick ∧ Turns [p] w w' := by
  have c2 := h.c2
  have c3 := h.c3
  have c4 := h.c4
  have f2 := h.fz 2
  have HT := fun w' (ht : Turns [] w w') => h.ticked ht
  have HT := Lib.hid HT
  clear h
  cases hs : σ.stops with
  | false =>
    rw [hs] at c3
    have HH : Hid (σ.halted = false) := by show _ = _; unfold St.halted; rw [hs]; rfl
    clear hs
    go_enter Tryz.func143, Tryz.ntmps143
    go_wp2_with fail
    go_quiet (fail)
    go_wp2
    go_ret
    exact ⟨ret_bool HH.out.symm, HT.out _ (drewN_turns _ _)⟩
  | true =>
    rw [hs] at c3
    have HH : Hid (σ.halted = decide (σ.stopAt ≤ (σ.calls : Int))) := by show _ = _; unfold St.halted; rw [hs]; rfl
    clear hs
    go_enter Tryz.func143, Tryz.ntmps143
    go_wp2_with fail
    go_quiet (fail)
    go_wp2
    go_ret
    exact ⟨ret_bool HH.out.symm, HT.out _ (drewN_turns _ _)⟩

/-- where it is stopped from, if it is. -/
def St.stop (σ : St) (n : Int) : St := if 0 ≤ n ∧ n ≤ 1099511627776 then { σ with stops := true, stopAt := (σ.calls : Int) + n } else { σ with stops := false, stopAt := 0 }

theorem SlabAt.stopped {w : World} {p pd pm : Nat} {σ : St} (h : SlabAt w p pd pm σ) (b : Bool) (z : Int) :
    SlabAt ((w.setCell ⟨p, 3, none⟩ (.bool b)).setCell ⟨p, 4, none⟩ (.int .i64 z)) p pd pm { σ with stops := b, stopAt := z } ∧ Turns [p] w ((w.setCell ⟨p, 3, none⟩ (.bool b)).setCell ⟨p, 4, none⟩ (.int .i64 z)) := by
  have h2 : Turns [p] w ((w.setCell ⟨p, 3, none⟩ (.bool b)).setCell ⟨p, 4, none⟩ (.int .i64 z)) := (Turns.setCell w (by simp) _).trans (Turns.setCell _ (by simp) _)
  refine ⟨h.fields h2 ?_ rfl rfl, h2⟩
  rw [heap_setCell_same _ _ _ _ (heap_setCell_same _ _ _ _ h.hp)]
  simp [St.cells]

end Go.Proofs.YtgdlfiejjnjcpaaGreat.Sl

namespace Go.Proofs.YtgdlfiejjnjcpaaGreat.Sl
open Go.RowKit

theorem info5 : (Tryz.prog.info? 5).map (fun i => (i.zero, i.size, i.bytes)) = some (some (.int .u8 0), 1, 1) := by kernel_rfl
theorem info5size : (Tryz.prog.info? 5).map (·.size) = some 1 := by kernel_rfl

/-- s, and behind it so many bytes 0 that there are n. -/
def padS (s : ByteArray) (n : Nat) : ByteArray := ⟨(s.data.toList ++ List.replicate (n - s.size) 0).toArray⟩
def padR (s : ByteArray) (n : Int) : ByteArray × Int :=
  if 0 ≤ n ∧ n ≤ 1000 then (if (s.size : Int) ≤ n then (padS s n.toNat, 0) else (⟨#[]⟩, 3)) else (⟨#[]⟩, 1)
theorem padR_arg {s : ByteArray} {n : Int} (h : ¬ (0 ≤ n ∧ n ≤ 1000)) : padR s n = (⟨#[]⟩, 1) := by unfold padR; rw [if_neg h]
theorem padR_range {s : ByteArray} {n : Int} (h : 0 ≤ n ∧ n ≤ 1000) (h2 : ¬ (s.size : Int) ≤ n) : padR s n = (⟨#[]⟩, 3) := by unfold padR; rw [if_pos h, if_neg h2]
theorem padR_ok {s : ByteArray} {n : Int} (h : 0 ≤ n ∧ n ≤ 1000) (h2 : (s.size : Int) ≤ n) : padR s n = (padS s n.toNat, 0) := by unfold padR; rw [if_pos h, if_pos h2]

/-- 'make([]byte, n)', for the walk to take. -/
theorem make_bytes (n : Nat) (hn : n ≤ 140737488355328) : ∃ M : Array Value, M.toList = List.replicate n (.int .u8 0) ∧ M.size = n ∧
    ∀ W : World, (Instr.makeSlice 112 (.int .i64 (n : Int)) (.int .i64 (n : Int))).run Tryz.prog W = .ok (.slice (some ⟨W.heap.size, 0, none⟩) n n) (W.alloc (.cells M 5)) := by
  obtain ⟨i0, hi, hz0, hz1, hz2⟩ := info_parts info5
  refine ⟨madeCells (Value.int .u8 0).cells (n * i0.size), ?_, ?_, fun W => ?_⟩
  · rw [hz1, Nat.mul_one]; exact toList_madeCells_one _ _
  · rw [size_madeCells, hz1, Nat.mul_one]
  · have h := run_make (P := Tryz.prog) W 112 5 i0 (.int .u8 0) Tryz.underlying112 hi hz0 .i64 .i64 (n : Int) (n : Int) (by omega) (by omega) (by rw [hz2]; omega) (by omega)
    simpa using h

theorem conv_cells {W : World} {g cap : Nat} (l : List UInt8) (Y : Array Value) (fr : Nat × Nat) (hg : W.heap[g]? = some (.cells Y 5 fr)) (hY : Y.toList = Lib.byteCells l) :
    (convert 112 9 (.slice (some ⟨g, 0, none⟩) l.length cap)).run Tryz.prog W = .ok (.string ⟨l.toArray⟩) W := by
  refine run_convert_bytes_back W 112 9 5 ⟨g, 0, none⟩ cap l Tryz.underlying112 Tryz.underlying5 Tryz.underlying9 (fun j hj => ?_)
  rw [Go.WideShapes.add_plain, cell_of_row W g (0 + j) Y 5 fr hg, Nat.zero_add, ← Array.getElem?_toList, hY]
  simp [Lib.byteCells, hj]

set_option maxRecDepth 100000 in
set_option maxHeartbeats 1000000 in
theorem zeros_any (n : Nat) (w : World) (hn : n ≤ 1000) :
    Calls Tryz.prog 92 #[.int .i64 n] w fun e w' => e = .returned (.string ⟨(List.replicate n (0 : UInt8)).toArray⟩) ∧ Below w.heap.size w w' := by
  obtain ⟨M, hM, hMs, hmk⟩ := make_bytes n (by omega)
  have hcv := conv_cells (W := w.alloc (.cells M 5)) (g := w.heap.size) (cap := n) (List.replicate n (0 : UInt8)) M (0, 0) (heap_alloc_new w _) (by rw [hM]; simp [Lib.byteCells])
  rw [List.length_replicate] at hcv
  have HM := Lib.hid hM
  clear hM
  generalize hR : (⟨(List.replicate n (0 : UInt8)).toArray⟩ : ByteArray) = R at *
  clear hR
  go_enter Tryz.func92, Tryz.ntmps92
  go_wp2
  go_ret
  exact ⟨rfl, (Below.refl _ _).alloc (Nat.le_refl _) _⟩

set_option maxRecDepth 100000 in
set_option maxHeartbeats 1000000 in
theorem pad_any (s : ByteArray) (n : Int) (w : World) (_hs : s.size ≤ 9223372036854775807) (hn : -9223372036854775808 ≤ n ∧ n ≤ 9223372036854775807) :
    Calls Tryz.prog 52 #[.string s, .int .i64 n] w fun e w' => e = .returned (.tuple #[.string (padR s n).1, .int .i64 (padR s n).2]) ∧ Below w.heap.size w w' := by
  by_cases h : 0 ≤ n ∧ n ≤ 1000
  · by_cases h2 : (s.size : Int) ≤ n
    · have HP := Lib.hid (padR_ok h h2)
      obtain ⟨m, rfl⟩ := Int.eq_ofNat_of_zero_le h.1
      obtain ⟨M, hM, hMs, hmk⟩ := make_bytes m (by omega)
      have hcp := Lib.run_copy_row_string (P := Tryz.prog) (w.alloc (.cells M 5)) 112 9 3 5 w.heap.size 0 m m s M 5 Tryz.underlying112 info5size (heap_alloc_new w _) (by omega) (by omega)
      obtain ⟨Y, hY⟩ : ∃ Y, Y = (M.toList.take 0 ++ Lib.byteCells s.data.toList ++ M.toList.drop (0 + s.size)).toArray := ⟨_, rfl⟩
      rw [← hY] at hcp
      have hl : (s.data.toList ++ List.replicate (m - s.size) (0 : UInt8)).length = m := by
        rw [List.length_append, List.length_replicate, ← Lib.size_eq]; omega
      have hYl : Y.toList = Lib.byteCells (s.data.toList ++ List.replicate (m - s.size) (0 : UInt8)) := by
        rw [hY, List.toList_toArray, List.take_zero, List.nil_append, hM, Nat.zero_add, List.drop_replicate]
        simp [Lib.byteCells]
      have hgY : ((w.alloc (.cells M 5)).setRow w.heap.size Y).heap[w.heap.size]? = some (.cells Y 5 (0, 0)) := setRow_heap _ _ M _ 5 (0, 0) (heap_alloc_new w _)
      have hcv := conv_cells (cap := m) _ Y (0, 0) hgY hYl
      rw [hl] at hcv
      have hb2 : Below w.heap.size w ((w.alloc (.cells M 5)).setRow w.heap.size Y) :=
        ((Below.refl _ w).alloc (Nat.le_refl _) (.cells M 5)).trans ⟨rfl, rfl, rfl, by simp, fun k hk => setRow_other _ _ _ _ (by omega)⟩
      have e1 : (⟨(s.data.toList ++ List.replicate (m - s.size) (0 : UInt8)).toArray⟩ : ByteArray) = padS s m := rfl
      rw [e1] at hcv
      rw [Int.toNat_natCast] at HP
      generalize padS s m = R at *
      clear hM hY hYl hgY hl e1
      go_enter Tryz.func52, Tryz.ntmps52
      go_wp2
      go_ret2
      exact ⟨by rw [HP.out]; rfl, hb2⟩
    · have HP := Lib.hid (padR_range h h2)
      have d1 : decide (n < 0) = false := by simp; omega
      have d2 : decide (1000 < n) = false := by simp; omega
      have d3 : decide (n < (s.size : Int)) = true := by simp; omega
      go_enter Tryz.func52, Tryz.ntmps52
      go_wp2
      go_ret2
      exact ⟨by rw [HP.out]; rfl, Below.refl _ _⟩
  · have HP := Lib.hid (padR_arg (s := s) h)
    have d : n < 0 ∨ 1000 < n := by omega
    rcases d with d | d
    · have d1 : decide (n < 0) = true := by simpa using d
      clear h
      go_enter Tryz.func52, Tryz.ntmps52
      go_wp2
      go_ret2
      exact ⟨by rw [HP.out]; rfl, Below.refl _ _⟩
    · have d1 : decide (n < 0) = false := by simp; omega
      have d2 : decide (1000 < n) = true := by simpa using d
      clear h
      go_enter Tryz.func52, Tryz.ntmps52
      go_wp2
      go_ret2
      exact ⟨by rw [HP.out]; rfl, Below.refl _ _⟩

theorem pad_add (s : ByteArray) (m : Nat) : s ++ (⟨(List.replicate (m - s.size) (0 : UInt8)).toArray⟩ : ByteArray) = padS s m := by
  apply ByteArray.ext
  apply Array.ext'
  simp [padS]


/-- a block: the first 128 bytes, and bytes 0 behind them. -/
def wholeS (s : ByteArray) : ByteArray := padS (s.extract 0 (min s.size 128)) 128

set_option maxRecDepth 100000 in
set_option maxHeartbeats 1000000 in
theorem whole_any (s : ByteArray) (w : World) (hs : s.size ≤ 9223372036854775807) :
    Calls Tryz.prog 59 #[.string s] w fun e w' => e = .returned (.string (wholeS s)) ∧ Below w.heap.size w w' := by
  obtain ⟨m, hm⟩ : ∃ m : Nat, m = min s.size 128 := ⟨_, rfl⟩
  have hsz : (s.extract 0 m).size = m := by rw [ByteArray.size_extract]; omega
  have HW : Hid (wholeS s = s.extract 0 m ++ (⟨(List.replicate (128 - m) (0 : UInt8)).toArray⟩ : ByteArray)) := by
    show _ = _
    unfold wholeS
    rw [← hm, ← pad_add, hsz]
  have HR : Hid ((⟨(List.replicate (128 - m) (0 : UInt8)).toArray⟩ : ByteArray).size ≤ 1000) := by
    show (List.replicate (128 - m) (0 : UInt8)).toArray.size ≤ 1000
    simp; omega
  have hm1 : m ≤ 128 := by omega
  have hm2 : m ≤ s.size := by omega
  have hmt : (min (s.size : Int) 128).toNat = m := by omega
  have hmm : (128 - ((min m s.size : Nat) : Int)) = ((128 - m : Nat) : Int) := by omega
  have HM := Lib.hid hmt
  have HMM := Lib.hid hmm
  have HS2 := Lib.hid hsz
  clear hm hmt hmm hsz
  go_enter Tryz.func59, Tryz.ntmps59
  go_wp2_with fail
  simp only [HM.out, HMM.out]
  refine (zeros_any (128 - m) w (by omega)).mono ?_
  rintro e w1 ⟨rfl, hb1⟩
  generalize (⟨(List.replicate (128 - m) (0 : UInt8)).toArray⟩ : ByteArray) = Z at *
  have hZ := HR.out
  have hS2 : (s.extract 0 m).size ≤ 128 := by rw [HS2.out]; omega
  generalize s.extract 0 m = S at *
  go_wp2
  go_ret
  exact ⟨by rw [HW.out]; rfl, hb1⟩
end Go.Proofs.YtgdlfiejjnjcpaaGreat.Sl

namespace Go.Proofs.YtgdlfiejjnjcpaaGreat.Sl
open Go.RowKit Go.Maps

/-- does a Write of these bytes to this block say no (ErrArg)? -/
def St.fits (σ : St) (i : Int) (s : ByteArray) : Bool := decide (s.size ≤ 128) && σ.has i
/-- a block is loose. -/
def St.put (σ : St) (i : Int) (s : ByteArray) : St := { σ with loose := fun j => if j = i then some s else σ.loose j }
def St.write (σ : St) (i : Int) (s : ByteArray) : St := if σ.halted = true then σ.tick else (if σ.fits i s = true then σ.tick.put i (padS s 128) else σ.tick)
def St.writeE (σ : St) (i : Int) (s : ByteArray) : Int := if σ.halted = true then 14 else (if σ.fits i s = true then 0 else 1)

theorem St.tick_has (σ : St) (i : Int) : σ.tick.has i = σ.has i := rfl

theorem SlabAt.stored {w w' : World} {p pd pm : Nat} {σ : St} {n : Nat} (h : SlabAt w p pd pm σ) {D : DataW Unit} {i : Int} {s : ByteArray} (hL : ∀ j, lk D j = σ.loose j) (hM : IsMap D) (hD : w'.ownsMap Tryz.prog 3 pendElem pm n (D.put (.int .i64 i) (.lit (.string s.data.toList)))) 
    (ht : w.mapTurned w' pm) (hi : σ.has i = true) : SlabAt w' p pd pm (σ.put i s) ∧ Turns [pm] w w' := by
  have hg := ht.grown
  have ht' : Turns [pm] w w' := Turns.of_grown hg (by intro j e; cases e; simp)
  have h1 := h.ne_mp
  have h2 := h.ne_md
  have hput : ∀ j, lk (D.put (.int .i64 i) (.lit (.string s.data.toList))) j = (σ.put i s).loose j := fun j => by rw [lk_put hM]; simp only [St.put, hL]
  have hok : ∀ j, (σ.put i s).loose j ≠ none → 0 ≤ j ∧ j < (σ.dur.length : Int) := by
    intro j hj
    by_cases e : j = i
    · subst e
      unfold St.has at hi
      simp at hi
      exact hi
    · simp only [St.put, if_neg e] at hj
      exact h.ok j hj
  exact ⟨⟨(ht'.block p h.lt_p (by simp; exact fun e => h1 e.symm)).trans h.hp, (ht'.block pd h.lt_d (by simp; exact fun e => h2 e.symm)).trans h.hd, ⟨_, own_tight hD (fun j hj => hok j (by rw [← hput]; exact hj)) h.len, hput⟩, hok, h.len, h.ne⟩, ht'⟩

set_option maxHeartbeats 1000000 in
theorem write_any (p pd pm : Nat) (σ : St) (i : Int) (s : ByteArray) (w : World) (h : SlabAt w p pd pm σ) (hc : σ.calls < 1000000) (hi : -9223372036854775808 ≤ i ∧ i ≤ 9223372036854775807) (hs : s.size ≤ 9223372036854775807) :
    Calls Tryz.prog 123 #[.pointer (some ⟨p, 0, none⟩), .int .i64 i, .string s] w fun e w' => e = .returned (.int .i64 (σ.writeE i s)) ∧ SlabAt w' p pd pm (σ.write i s) ∧ Turns [p, pd, pm] w w' := by
  have HC := Lib.hid (count_any p pd pm σ w h hc)
  clear h
  cases hh : σ.halted with
  | true =>
    have H1 : Hid (σ.writeE i s = 14) := by show _ = _; unfold St.writeE; rw [if_pos hh]
    have H2 : Hid (σ.write i s = σ.tick) := by show _ = _; unfold St.write; rw [if_pos hh]
    have HH := Lib.hid hh
    clear hh
    go_enter Tryz.func123, Tryz.ntmps123
    go_wp2_with (go_at_call 143; refine HC.out.mono ?_; rintro e w1 ⟨rfl, h1, t1⟩; rw [HH.out])
    go_ret
    exact ⟨by rw [H1.out]; rfl, by rw [H2.out]; exact h1, t1.mono (by simp)⟩
  | false =>
    by_cases hz : s.size ≤ 128
    · have HP : Hid (padR s 128 = (padS s 128, 0)) := padR_ok (by omega) (by omega)
      cases hb : σ.has i with
      | true =>
        have hf : σ.fits i s = true := by unfold St.fits; rw [hb]; simpa using hz
        have H1 : Hid (σ.writeE i s = 0) := by show _ = _; unfold St.writeE; rw [hh, hf]; rfl
        have H2 : Hid (σ.write i s = σ.tick.put i (padS s 128)) := by show _ = _; unfold St.write; rw [hh, hf]; rfl
        have HH := Lib.hid hh
        have HB := Lib.hid hb
        clear hh hb hf
        go_enter Tryz.func123, Tryz.ntmps123
        go_wp2_with fail
        refine HC.out.mono ?_
        rintro e w1 ⟨rfl, h1, t1⟩
        rw [HH.out]
        go_wp2_with fail
        refine (pad_any s 128 w1 hs (by omega)).mono ?_
        rintro e w2 ⟨rfl, b2⟩
        rw [HP.out]
        have t2 : Turns [] w1 w2 := Turns.of_below _ b2
        have h2 := h1.keptB t2
        have c1 := h2.c1
        generalize padS s 128 = S at *
        have H2' := Lib.hid h2
        obtain ⟨D, hD0, hL⟩ := h2.hm
        have HL := Lib.hid hL
        have HD := Lib.hid hD0
        clear h2 hL h1 hD0
        have hkey := key_i64 hi
        go_wp2_with (first
          | (go_at_call 128; refine (has_any p pd pm σ.tick i w2 H2'.out).mono ?_; rintro e w3 ⟨rfl, rfl⟩; rw [St.tick_has, HB.out])
          | (at_mapUpdate; refine wpList_mapUpdate_in _ rfl _ _ _ 134 rfl 3 165 law3 Tryz.underlying134 _ pm 1000 D rfl HD.out (by unfold maxLen; omega) _ _ _ rfl rfl hkey _ [] (pendElem_mk S) ?_; intro w4 hown4 hturn4)
          | go_in)
        go_ret
        obtain ⟨h4, t4⟩ := H2'.out.stored HL.out HD.out.isMap hown4 hturn4 (by rw [St.tick_has]; exact HB.out)
        exact ⟨by rw [H1.out]; rfl, by rw [H2.out]; exact h4, ((t1.mono (by simp)).trans (t2.mono (by simp))).trans (t4.mono (by simp))⟩
      | false =>
        have hf : σ.fits i s = false := by unfold St.fits; rw [hb]; simp
        have H1 : Hid (σ.writeE i s = 1) := by show _ = _; unfold St.writeE; rw [hh, hf]; rfl
        have H2 : Hid (σ.write i s = σ.tick) := by show _ = _; unfold St.write; rw [hh, hf]; rfl
        have HH := Lib.hid hh
        have HB := Lib.hid hb
        clear hh hb hf
        go_enter Tryz.func123, Tryz.ntmps123
        go_wp2_with fail
        refine HC.out.mono ?_
        rintro e w1 ⟨rfl, h1, t1⟩
        rw [HH.out]
        go_wp2_with fail
        refine (pad_any s 128 w1 hs (by omega)).mono ?_
        rintro e w2 ⟨rfl, b2⟩
        rw [HP.out]
        have t2 : Turns [] w1 w2 := Turns.of_below _ b2
        have h2 := h1.keptB t2
        generalize padS s 128 = S at *
        have H2' := Lib.hid h2
        clear h2 h1
        go_wp2_with (go_at_call 128; refine (has_any p pd pm σ.tick i w2 H2'.out).mono ?_; rintro e w3 ⟨rfl, rfl⟩; rw [St.tick_has, HB.out])
        go_ret
        exact ⟨by rw [H1.out]; rfl, by rw [H2.out]; exact H2'.out, (t1.mono (by simp)).trans (t2.mono (by simp))⟩
    · have HP : Hid (padR s 128 = (⟨#[]⟩, 3)) := padR_range (by omega) (by omega)
      have hf : σ.fits i s = false := by unfold St.fits; simp [hz]
      have H1 : Hid (σ.writeE i s = 1) := by show _ = _; unfold St.writeE; rw [hh, hf]; rfl
      have H2 : Hid (σ.write i s = σ.tick) := by show _ = _; unfold St.write; rw [hh, hf]; rfl
      have HH := Lib.hid hh
      clear hh hf
      go_enter Tryz.func123, Tryz.ntmps123
      go_wp2_with fail
      refine HC.out.mono ?_
      rintro e w1 ⟨rfl, h1, t1⟩
      rw [HH.out]
      go_wp2_with fail
      refine (pad_any s 128 w1 hs (by omega)).mono ?_
      rintro e w2 ⟨rfl, b2⟩
      rw [HP.out]
      have t2 : Turns [] w1 w2 := Turns.of_below _ b2
      have h2 := Lib.hid (h1.keptB t2)
      clear h1
      go_wp2
      go_ret
      exact ⟨by rw [H1.out]; rfl, by rw [H2.out]; exact h2.out, (t1.mono (by simp)).trans (t2.mono (by simp))⟩

set_option maxHeartbeats 1000000 in
theorem write_nil (i : Int) (s : ByteArray) (w : World) : Calls Tryz.prog 123 #[.pointer none, .int .i64 i, .string s] w fun e w' => e = .returned (.int .i64 1) ∧ w = w' := by
  go_enter Tryz.func123, Tryz.ntmps123
  go_wp2
  go_ret
  exact ⟨rfl, rfl⟩
end Go.Proofs.YtgdlfiejjnjcpaaGreat.Sl

namespace Go.Proofs.YtgdlfiejjnjcpaaGreat.Sl
open Go.RowKit Go.Maps

section
variable (w : World) {ops : Array Oper} {rest : List Oper} {o : Oper} {a : Act} {Q : Exit → Act → World → Prop}

theorem wpList_lookup_pend_ok (hg : o.guard = none) (m x : Operand) (hop : o.op = Op.lookup 134 m x true) (b n : Nat) (D : DataW Unit)
    (hm : a.eval m = .map (some b)) (hown : w.ownsMap Tryz.prog 3 pendElem b n D) (i : Int) (hx : a.eval x = .int .i64 i) (hi : -9223372036854775808 ≤ i ∧ i ≤ 9223372036854775807) (r : Option ByteArray) (hr : lk D i = r)
    (hK : wpList Tryz.prog ops Q rest (a.put o.dst (.tuple #[.agg #[.string (r.getD ⟨#[]⟩)], .bool r.isSome])) w) : wpList Tryz.prog ops Q (o :: rest) a w :=
  wpList_lookup_own_ok w hg m x 134 hop 3 165 law3 Tryz.underlying134 pendElem (zero60 w) (.lit (.string [])) [] rfl b n D hm hown _ _ hx (key_i64 hi) (fun v ps hv => by
    rw [look_pend hown hv, ← lk_has, hr]
    exact hK)

theorem wpList_lookup_pend (hg : o.guard = none) (m x : Operand) (hop : o.op = Op.lookup 134 m x false) (b n : Nat) (D : DataW Unit)
    (hm : a.eval m = .map (some b)) (hown : w.ownsMap Tryz.prog 3 pendElem b n D) (i : Int) (hx : a.eval x = .int .i64 i) (hi : -9223372036854775808 ≤ i ∧ i ≤ 9223372036854775807) (r : Option ByteArray) (hr : lk D i = r)
    (hK : wpList Tryz.prog ops Q rest (a.put o.dst (.agg #[.string (r.getD ⟨#[]⟩)])) w) : wpList Tryz.prog ops Q (o :: rest) a w := by
  refine wpList_plain hg fun K' hK' => ?_
  obtain ⟨v, ps, hrun, hv⟩ := hown.lookup law3 Tryz.underlying134 (zero60 w) (show pendElem _ = some (.lit (.string []), []) from rfl) (key_i64 hi)
  rw [look_pend hown hv, hr] at hrun
  unfold Oper.wp
  simp [execOp, hop, hm, hx, hrun, Result.andThen]
  exact hK' _ _ hK
end

/-- a block as it reads. -/
def St.at (σ : St) (k : Nat) : ByteArray := (σ.loose k).getD (σ.dur.getD k ⟨#[]⟩)
def St.read (σ : St) (i : Int) : ByteArray := if σ.has i = true then σ.at i.toNat else ⟨#[]⟩

theorem has_nat {σ : St} {i : Int} (h : σ.has i = true) : ∃ k : Nat, i = k ∧ k < σ.dur.length := by
  unfold St.has at h
  simp at h
  exact ⟨i.toNat, by omega, by omega⟩

set_option maxHeartbeats 1000000 in
theorem read_any (p pd pm : Nat) (σ : St) (i : Int) (w : World) (h : SlabAt w p pd pm σ) :
    Calls Tryz.prog 94 #[.pointer (some ⟨p, 0, none⟩), .int .i64 i] w fun e w' => e = .returned (.string (σ.read i)) ∧ Below w.heap.size w w' := by
  have HA := Lib.hid (has_any p pd pm σ i w h)
  cases hb : σ.has i with
  | false =>
    have HR : Hid (σ.read i = ⟨#[]⟩) := by show _ = _; unfold St.read; rw [hb]; rfl
    have HB := Lib.hid hb
    clear hb h
    go_enter Tryz.func94, Tryz.ntmps94
    go_wp2_with (go_at_call 128; refine HA.out.mono ?_; rintro e w3 ⟨rfl, rfl⟩; rw [HB.out])
    go_ret
    exact ⟨by rw [HR.out]; rfl, Below.refl _ _⟩
  | true =>
    obtain ⟨k, rfl, hk⟩ := has_nat hb
    have hkl := h.len
    have hR : σ.read (k : Int) = (σ.loose k).getD (σ.dur.getD k ⟨#[]⟩) := by unfold St.read; rw [hb, if_pos rfl]; simp [St.at]
    have HB := Lib.hid hb
    have c0 := h.c0
    have c1 := h.c1
    have hd := h.d hk
    obtain ⟨D, hD, hL⟩ := h.hm
    have HD := Lib.hid hD
    have hl := hL k
    cases hs : σ.loose k with
    | none =>
      rw [hs] at hR hl
      have HR := Lib.hid hR
      have HLK := Lib.hid hl
      rw [Option.getD_none] at HR
      have hda : (w.alloc (.cells #[.string ⟨#[]⟩] 165)).cell? ⟨pd, k, none⟩ = some (.string (σ.dur.getD k ⟨#[]⟩)) := (World.cell?_alloc_lt w _ _ h.lt_d).trans hd
      have c0a : (w.alloc (.cells #[.string ⟨#[]⟩] 165)).cell? ⟨p, 0, none⟩ = _ := (World.cell?_alloc_lt w _ _ h.lt_p).trans c0
      generalize σ.dur.getD k ⟨#[]⟩ = R at *
      clear hb h hD hL hl hR hs
      go_enter Tryz.func94, Tryz.ntmps94
      go_wp2_with (first
        | (go_at_call 128; refine HA.out.mono ?_; rintro e w3 ⟨rfl, rfl⟩; rw [HB.out])
        | (at_lookup; refine wpList_lookup_pend_ok _ rfl _ _ rfl pm 1000 D rfl HD.out _ rfl (by omega) none HLK.out ?_)
        | go_in)
      go_ret
      exact ⟨by rw [HR.out]; rfl, (Below.refl _ _).alloc (Nat.le_refl _) _⟩
    | some s =>
      rw [hs] at hR hl
      have HR := Lib.hid hR
      have HLK := Lib.hid hl
      rw [Option.getD_some] at HR
      clear hb h hD hL hl hR hs
      go_enter Tryz.func94, Tryz.ntmps94
      go_wp2_with (first
        | (go_at_call 128; refine HA.out.mono ?_; rintro e w3 ⟨rfl, rfl⟩; rw [HB.out])
        | (at_lookup; refine wpList_lookup_pend_ok _ rfl _ _ rfl pm 1000 D rfl HD.out _ rfl (by omega) (some s) HLK.out ?_)
        | go_in)
      go_ret
      exact ⟨by rw [HR.out]; rfl, (Below.refl _ _).alloc (Nat.le_refl _) _⟩

set_option maxHeartbeats 1000000 in
theorem read_nil (i : Int) (w : World) : Calls Tryz.prog 94 #[.pointer none, .int .i64 i] w fun e w' => e = .returned (.string ⟨#[]⟩) ∧ w = w' := by
  go_enter Tryz.func94, Tryz.ntmps94
  go_wp2_with (go_at_call 128; refine (has_nil i w).mono ?_; rintro e w3 ⟨rfl, rfl⟩)
  go_ret
  exact ⟨rfl, rfl⟩
end Go.Proofs.YtgdlfiejjnjcpaaGreat.Sl

namespace Go.Proofs.YtgdlfiejjnjcpaaGreat.Sl
open Go.RowKit Go.Maps

/-! ### a row that is filled from its first place on -/
def fill {α : Type} (l : List α) (z : α) (k : Nat) : List α := l.take k ++ List.replicate (l.length - k) z
theorem fill_len {α : Type} (l : List α) (z : α) {k : Nat} (hk : k ≤ l.length) : (fill l z k).length = l.length := by simp [fill]; omega
theorem fill_zero {α : Type} (l : List α) (z : α) : fill l z 0 = List.replicate l.length z := by simp [fill]
theorem fill_full {α : Type} (l : List α) (z : α) : fill l z l.length = l := by simp [fill]
theorem fill_set {α : Type} (l : List α) (z : α) {k : Nat} (hk : k < l.length) {v : α} (hv : l[k]? = some v) : (fill l z k).set k v = fill l z (k + 1) := by
  apply List.ext_getElem?
  intro j
  have hlen : (l.take k).length = k := by simp; omega
  rw [List.getElem?_set]
  by_cases e : k = j
  · subst e
    rw [if_pos rfl, if_pos (by rw [fill_len _ _ (by omega)]; exact hk), fill, List.getElem?_append_left (by simp; omega), List.getElem?_take_of_lt (by omega), hv]
  · rw [if_neg e]
    unfold fill
    rcases Nat.lt_or_ge j k with h | h
    · rw [List.getElem?_append_left (by omega), List.getElem?_append_left (by simp; omega), List.getElem?_take_of_lt h, List.getElem?_take_of_lt (by omega)]
    · rw [List.getElem?_append_right (by omega), List.getElem?_append_right (by simp; omega), hlen]
      simp only [List.getElem?_replicate, List.length_take]
      have : min (k + 1) l.length = k + 1 := by omega
      rw [this]
      by_cases h3 : j < l.length
      · rw [if_pos (by omega), if_pos (by omega)]
      · rw [if_neg (by omega), if_neg (by omega)]

/-- block g of w is a row of just these strings. -/
def RowAt (w : World) (g : Nat) (ss : List ByteArray) : Prop := w.heap[g]? = some (.cells (ss.map Value.string).toArray 9 (0, 0))
theorem RowAt.lt {w : World} {g : Nat} {ss : List ByteArray} (h : RowAt w g ss) : g < w.heap.size := (Array.getElem?_eq_some_iff.1 h).1
theorem RowAt.below {w w' : World} {g B : Nat} {ss : List ByteArray} (h : RowAt w g ss) (hb : Below B w w') (hg : g < B) : RowAt w' g ss := (hb.block g hg).trans h
theorem RowAt.turns {w w' : World} {g : Nat} {L : List Nat} {ss : List ByteArray} (h : RowAt w g ss) (hb : Turns L w w') (hg : g ∉ L) : RowAt w' g ss := (hb.block g h.lt hg).trans h
theorem RowAt.cell {w : World} {g : Nat} {ss : List ByteArray} (h : RowAt w g ss) {k : Nat} (hk : k < ss.length) : w.cell? ⟨g, k, none⟩ = some (.string (ss.getD k ⟨#[]⟩)) := by
  unfold RowAt at h
  simp [World.cell?, h, List.getD, hk]
theorem RowAt.fz {w : World} {g : Nat} {ss : List ByteArray} (h : RowAt w g ss) (k : Nat) : w.frozen? ⟨g, k, none⟩ = false := by
  unfold RowAt at h
  simp [World.frozen?, h]
theorem RowAt.set {w : World} {g : Nat} {ss : List ByteArray} (h : RowAt w g ss) (k : Nat) (s : ByteArray) : RowAt (w.setCell ⟨g, k, none⟩ (.string s)) g (ss.set k s) := by
  unfold RowAt at *
  rw [heap_setCell_same _ _ _ _ h]
  congr 2
  simp [List.map_set]

theorem info9 : (Tryz.prog.info? 9).map (fun i => (i.zero, i.size, i.bytes)) = some (some (.string ⟨#[]⟩), 1, 16) := by kernel_rfl

/-- 'make([]string, n)', for the walk to take. -/
theorem make_strs (n : Nat) (hn : n ≤ 1000) : ∃ M : Array Value, M = ((List.replicate n (⟨#[]⟩ : ByteArray)).map Value.string).toArray ∧
    ∀ W : World, (Instr.makeSlice 50 (.int .i64 (n : Int)) (.int .i64 (n : Int))).run Tryz.prog W = .ok (.slice (some ⟨W.heap.size, 0, none⟩) n n) (W.alloc (.cells M 9)) := by
  obtain ⟨i0, hi, hz0, hz1, hz2⟩ := info_parts info9
  refine ⟨madeCells (Value.string ⟨#[]⟩).cells (n * i0.size), ?_, fun W => ?_⟩
  · apply Array.ext'
    rw [hz1, Nat.mul_one]
    rw [List.map_replicate]
    exact toList_madeCells_one _ _
  · have h := run_make (P := Tryz.prog) W 50 9 i0 (.string ⟨#[]⟩) Tryz.underlying50 hi hz0 .i64 .i64 (n : Int) (n : Int) (by omega) (by omega) (by rw [hz2]; omega) (by omega)
    simpa using h

def St.img (σ : St) : List ByteArray := (List.range σ.dur.length).map σ.at
theorem St.img_len (σ : St) : σ.img.length = σ.dur.length := by simp [St.img]
theorem St.img_at (σ : St) {k : Nat} (hk : k < σ.dur.length) : σ.img[k]? = some (σ.at k) := by simp [St.img, hk]
theorem St.read_at (σ : St) {k : Nat} (hk : k < σ.dur.length) : σ.read (k : Int) = σ.at k := by
  unfold St.read
  rw [if_pos (by unfold St.has; simp [hk])]
  simp

end Go.Proofs.YtgdlfiejjnjcpaaGreat.Sl

namespace Go.Proofs.YtgdlfiejjnjcpaaGreat.Sl
open Go.RowKit Go.Maps

/-- the slice at A with n elements reads as the strings ss. -/
def StrsAt (w : World) (A : Option Addr) (n : Nat) (ss : List ByteArray) : Prop :=
  ∀ k, k < n → ∃ b o, A = some ⟨b, o, none⟩ ∧ w.cell? ⟨b, o + k, none⟩ = some (.string (ss.getD k ⟨#[]⟩))
theorem StrsAt.keep {w w' : World} {A : Option Addr} {n : Nat} {ss : List ByteArray} {L : List Nat} (h : StrsAt w A n ss) (ht : Turns L w w') (hA : ∀ a, A = some a → a.block ∉ L) : StrsAt w' A n ss := fun k hk => by
  obtain ⟨b, o, e, hc⟩ := h k hk
  exact ⟨b, o, e, ht.cell hc (hA ⟨b, o, none⟩ e)⟩
theorem RowAt.strs {w : World} {g : Nat} {ss : List ByteArray} (h : RowAt w g ss) : StrsAt w (some ⟨g, 0, none⟩) ss.length ss := fun k hk => ⟨g, 0, rfl, by rw [Nat.zero_add]; exact h.cell hk⟩

theorem beq_same (s : ByteArray) : (s == s) = true := by
  cases s with | mk d =>
  show ByteArray.beq _ _ = true
  unfold ByteArray.beq
  simp
theorem bne_same (s : ByteArray) : (s != s) = false := by rw [bne, beq_same]; rfl

end Go.Proofs.YtgdlfiejjnjcpaaGreat.Sl

namespace Go.Proofs.YtgdlfiejjnjcpaaGreat.Sl
open Go.RowKit Go.Maps

theorem SlabAt.setDur {w : World} {p pd pm : Nat} {σ : St} (h : SlabAt w p pd pm σ) (k : Nat) (s : ByteArray) :
    SlabAt (w.setCell ⟨pd, k, none⟩ (.string s)) p pd pm { σ with dur := σ.dur.set k s } ∧ Turns [pd] w (w.setCell ⟨pd, k, none⟩ (.string s)) := by
  have t : Turns [pd] w (w.setCell ⟨pd, k, none⟩ (.string s)) := Turns.setCell w (by simp) _
  have h1 := h.ne
  have h2 := h.ne_md
  have hl := h.lt_m
  refine ⟨⟨?_, RowAt.set (ss := σ.dur) h.hd k s, ?_, ?_, ?_, h.ne⟩, t⟩
  · have := (t.block p h.lt_p (by simp; exact h1)).trans h.hp
    simpa [St.cells] using this
  · obtain ⟨D, ⟨es, cl, hb, r⟩, hl2⟩ := h.hm
    exact ⟨D, ⟨es, cl, (t.block pm hl (by simp; exact h2)).trans hb, r⟩, hl2⟩
  · intro i hi
    have := h.ok i hi
    simpa using this
  · simpa using h.len

/-- what a slab is that was loaded. -/
def St.fresh (l : List ByteArray) : St := ⟨l, fun _ => none, 0, false, 0⟩
def loadS (ss : List ByteArray) : List ByteArray := (ss.take 1000).map wholeS

theorem SlabAt.made (w : World) (l : List ByteArray) (hl : l.length ≤ 1000) (M : Array Value) (hM : M = (l.map Value.string).toArray) :
    SlabAt (((w.alloc (.cells M 9)).alloc (.map #[] 0)).alloc (.cells #[.slice (some ⟨w.heap.size, 0, none⟩) l.length l.length, .map (some (w.heap.size + 1)), .int .i64 0, .bool false, .int .i64 0] 136)) (w.heap.size + 1 + 1) w.heap.size (w.heap.size + 1) (St.fresh l) := by
  refine ⟨?_, ?_, ⟨.map [], ?_, fun i => lk_empty i⟩, ?_, hl, by omega⟩
  · have e := heap_alloc_new ((w.alloc (.cells M 9)).alloc (.map #[] 0)) (.cells #[.slice (some ⟨w.heap.size, 0, none⟩) l.length l.length, .map (some (w.heap.size + 1)), .int .i64 0, .bool false, .int .i64 0] 136)
    have e2 : ((w.alloc (.cells M 9)).alloc (.map #[] 0)).heap.size = w.heap.size + 1 + 1 := by simp
    rw [e2] at e
    exact e
  · have t : Turns [] (w.alloc (.cells M 9)) (((w.alloc (.cells M 9)).alloc (.map #[] 0)).alloc (.cells #[.slice (some ⟨w.heap.size, 0, none⟩) l.length l.length, .map (some (w.heap.size + 1)), .int .i64 0, .bool false, .int .i64 0] 136)) := (Turns.alloc _ _ _).trans (Turns.alloc _ _ _)
    rw [t.block w.heap.size (by simp) (by simp), heap_alloc_new, hM]
    rfl
  · have := World.ownsMap_made (w.alloc (.cells M 9)) Tryz.prog 3 pendElem
    have e : (w.alloc (.cells M 9)).heap.size = w.heap.size + 1 := by simp
    rw [e] at this
    exact (this.mono (by omega)).alloc _
  · intro i hi; exact absurd rfl hi

set_option maxHeartbeats 4000000 in
theorem load_any (A : Option Addr) (n c : Nat) (ss : List ByteArray) (w : World) (hA : StrsAt w A n ss) (hn : ss.length = n) (hnc : n ≤ c) (hsz : ∀ s, s ∈ ss → s.size ≤ 9223372036854775807) :
    Calls Tryz.prog 56 #[.slice A n c] w fun e w' => e = .returned (.pointer (some ⟨w.heap.size + 1 + 1, 0, none⟩)) ∧ SlabAt w' (w.heap.size + 1 + 1) w.heap.size (w.heap.size + 1) (St.fresh (loadS ss)) ∧ Below w.heap.size w w' := by
  obtain ⟨m, hm⟩ : ∃ m : Nat, m = min n 1000 := ⟨_, rfl⟩
  have hm1 : m ≤ 1000 := by omega
  have hm2 : m ≤ n := by omega
  have hmt : (min (n : Int) 1000).toNat = m := by omega
  have hmt' : (min (n : Int) 1000) = m := by omega
  obtain ⟨L, hL⟩ : ∃ L, L = loadS ss := ⟨_, rfl⟩
  have hLl : L.length = m := by rw [hL]; simp [loadS]; omega
  obtain ⟨M, hM, hmk⟩ := make_strs m hm1
  have hmm := @run_makeMap Tryz.prog
  have HM := Lib.hid hM
  have HL := Lib.hid hL
  have HLl := Lib.hid hLl
  have HA := Lib.hid hA
  have Hsz := Lib.hid hsz
  have HN := Lib.hid hn
  have HMM := Lib.hid hm
  have HMT := Lib.hid hmt
  clear hM hL hLl hA hsz hn hm hmt
  go_enter Tryz.func56, Tryz.ntmps56
  go_wp2
  go_loopw [19] (fun i wr => ∃ k : Nat, k ≤ m ∧ i = .int .i64 k ∧ SlabAt wr (w.heap.size + 1 + 1) w.heap.size (w.heap.size + 1) (St.fresh (fill L ⟨#[]⟩ k)) ∧ Below w.heap.size w wr) (fun i _ => m - (intOf i).toNat)
  case atStart =>
    refine ⟨0, Nat.zero_le _, rfl, ?_, ?_⟩
    · rw [fill_zero, HLl.out]
      have := SlabAt.made w (List.replicate m ⟨#[]⟩) (by simp; exact hm1) M HM.out
      simpa using this
    · exact (((Below.refl _ _).alloc (Nat.le_refl _) _).alloc (by simp) _).alloc (by simp; omega) _
  case round =>
    obtain ⟨k, hk, rfl, hs, hb⟩ := hrel
    by_cases hlt : k < m
    · obtain ⟨b, o, rfl, hc0⟩ := HA.out k (by omega)
      have hck : wr.cell? ⟨b, o + k, none⟩ = some (.string (ss.getD k ⟨#[]⟩)) := (hb.cell (World.block_lt_of_cell? w _ hc0)).trans hc0
      have hkm : ss.getD k ⟨#[]⟩ ∈ ss := by
        have : k < ss.length := by rw [HN.out]; omega
        simp only [List.getD, List.getElem?_eq_getElem this, Option.getD_some]
        exact List.getElem_mem this
      have hsk := Hsz.out _ hkm
      have HLk : Hid (L[k]? = some (wholeS (ss.getD k ⟨#[]⟩))) := by
        show _ = _
        have : k < ss.length := by rw [HN.out]; omega
        rw [HL.out]
        simp only [loadS, List.getElem?_map, List.getElem?_take_of_lt (show k < 1000 by omega), List.getElem?_eq_getElem this, Option.map_some, List.getD, Option.getD_some]
      have hlen : (St.fresh (fill L ⟨#[]⟩ k)).dur.length = m := by show (fill L _ k).length = m; rw [fill_len _ _ (by rw [HLl.out]; exact hk), HLl.out]
      have c0 := hs.c0
      have fd := hs.fzd k
      obtain ⟨v0, hv0⟩ : ∃ v, wr.cell? ⟨w.heap.size, k, none⟩ = some v := ⟨_, hs.d (by rw [hlen]; exact hlt)⟩
      rw [hlen] at c0
      have Hs := Lib.hid hs
      have HB := Lib.hid hb
      clear hs hb hkm hc0
      generalize ss.getD k ⟨#[]⟩ = S at *
      have HPR : Hid (padR (S.extract 0 (min (S.size : Int) 128).toNat) 128 = (wholeS S, 0)) := by
        show _ = _
        rw [padR_ok (by omega) (by rw [ByteArray.size_extract]; omega)]
        unfold wholeS
        rw [show (min (S.size : Int) 128).toNat = min S.size 128 by omega]
        rfl
      have HSX : Hid ((S.extract 0 (min (S.size : Int) 128).toNat).size ≤ 9223372036854775807) := by show _ ≤ _; rw [ByteArray.size_extract]; omega
      have HlP := Lib.hid Hs.out.lt_p
      have HlD := Lib.hid Hs.out.lt_d
      go_wp2_with fail
      go_region_with ((go_at_call 52; refine (pad_any _ 128 _ HSX.out (by omega)).mono ?_; rintro e w2 ⟨rfl, b2⟩; rw [HPR.out]; have c02 := (b2.cell (p := ⟨w.heap.size + 1 + 1, 0, none⟩) HlP.out).trans c0; have hv02 := (b2.cell (p := ⟨w.heap.size, k, none⟩) HlD.out).trans hv0; have fd2 := (b2.frozen (p := ⟨w.heap.size, k, none⟩) HlD.out).trans fd))
      all_goals
        have HB2 := Lib.hid b2
        clear b2 c02 hv02 fd2 hv0 c0 fd hck
        go_wp2
        go_roundw
        case rel =>
          have hb2 : Below wr.heap.size wr w2 := ⟨HB2.out.os, HB2.out.tape, HB2.out.output, HB2.out.size, fun i hi => HB2.out.block i hi⟩
          obtain ⟨h3, t3⟩ := (Hs.out.keptB (Turns.of_below _ hb2)).setDur k (wholeS S)
          refine ⟨k + 1, by omega, by go_num, ?_, (HB.out.trans (hb2.mono HB.out.size)).setCell (Nat.le_refl _) _⟩
          rw [← fill_set _ _ (by rw [HLl.out]; exact hlt) HLk.out]
          exact h3
        case measure => simp [intOf]; omega
    · have HK : Hid (k = m) := by show k = m; omega
      have Hs := Lib.hid hs
      clear hs
      go_wp2
      go_ret
      refine ⟨rfl, ?_, hb⟩
      have := Hs.out
      rw [HK.out, ← HLl.out, fill_full, HL.out] at this
      exact this
end Go.Proofs.YtgdlfiejjnjcpaaGreat.Sl

namespace Go.Proofs.YtgdlfiejjnjcpaaGreat.Sl
open Go.RowKit Go.Maps

/-- a slab that was just made: of so many blocks, as New makes it. -/
def St.new (n : Int) : St := St.fresh (List.replicate (min (max n 0) 1000).toNat (wholeS ⟨#[]⟩))

theorem loadS_rep {m : Nat} (hm : m ≤ 1000) : loadS (List.replicate m ⟨#[]⟩) = List.replicate m (wholeS ⟨#[]⟩) := by
  unfold loadS
  rw [List.take_replicate, List.map_replicate, Nat.min_eq_right hm]

set_option maxHeartbeats 1000000 in
theorem new_any (n : Int) (w : World) :
    Calls Tryz.prog 24 #[.int .i64 n] w fun e w' => ∃ p pd pm, e = .returned (.pointer (some ⟨p, 0, none⟩)) ∧ SlabAt w' p pd pm (St.new n) ∧ w.heap.size ≤ p ∧ w.heap.size ≤ pd ∧ w.heap.size ≤ pm ∧ Below w.heap.size w w' := by
  obtain ⟨m, hm⟩ : ∃ m : Nat, m = (min (max n 0) 1000).toNat := ⟨_, rfl⟩
  have hm1 : m ≤ 1000 := by omega
  have hmt : min (max n 0) 1000 = (m : Int) := by omega
  obtain ⟨M, hM, hmk⟩ := make_strs m hm1
  have hrow : RowAt (w.alloc (.cells M 9)) w.heap.size (List.replicate m ⟨#[]⟩) := by
    unfold RowAt; rw [hM]; exact heap_alloc_new w _
  have HL := Lib.hid (load_any (some ⟨w.heap.size, 0, none⟩) m m (List.replicate m ⟨#[]⟩) (w.alloc (.cells M 9)) (by have := hrow.strs; simpa using this) (by simp) (Nat.le_refl _) (by intro s hs; rw [(List.mem_replicate.1 hs).2]; decide))
  have HS : Hid (St.new n = St.fresh (loadS (List.replicate m ⟨#[]⟩))) := by show _ = _; unfold St.new; rw [loadS_rep hm1, hm]
  clear hM hrow hm
  go_enter Tryz.func24, Tryz.ntmps24
  go_wp2_with (go_at_call 56; refine HL.out.mono ?_; rintro e w1 ⟨rfl, h1, b1⟩)
  go_ret
  rw [HS.out]
  have e : (w.alloc (.cells M 9)).heap.size = w.heap.size + 1 := by simp
  rw [e] at h1 b1
  exact ⟨_, _, _, by simp, h1, by omega, by omega, by omega, ((Below.refl _ w).alloc (Nat.le_refl _) (.cells M 9)).trans (b1.mono (by omega))⟩
end Go.Proofs.YtgdlfiejjnjcpaaGreat.Sl

namespace Go.Proofs.YtgdlfiejjnjcpaaGreat.Sl
open Go.RowKit Go.Maps Go.Sort

theorem sameKey_int (x y : Int) : (Lit.int .i64 y).sameKey (.int .i64 x) = decide (y = x) := by
  by_cases h : y = x
  · subst h; simp [WideAt.sameKey_self (isKey_int y)]
  · rw [Maps.sameKey_ne (fun e => h (by cases e; rfl))]; simp [h]
theorem info3 : (Tryz.prog.info? 3).map (fun i => (i.zero, i.size, i.bytes)) = some (some (.int .i64 0), 1, 8) := by kernel_rfl

theorem invK3 (key : Value) (kl : Lit) (hk : keyOf Tryz.prog 3 key = some kl) : ∃ x, key = Value.int .i64 x := by
  obtain ⟨x, rfl, _⟩ := Maps.keyOf_int_inv Tryz.underlying3 hk; exact ⟨x, rfl⟩
theorem invVp (v : Value) (y : DataW Unit × List MemPlace) (hv : pendElem v = some y) : ∃ s : ByteArray, v = Value.agg #[.string s] := by
  obtain ⟨s, rfl, _⟩ := pendElem_inv hv; exact ⟨s, rfl⟩


theorem own_slice0 {w : World} {base : Nat} {v : Value} {xs : List Value} {e : TypeId} {sz : Nat} (h : w.ownsRow base e sz v 0 xs) : ∃ A c, v = .slice A 0 c := by
  rcases h.2 with ⟨rfl, _⟩ | ⟨g, cap, cur, rfl, _⟩
  · exact ⟨_, _, rfl⟩
  · exact ⟨_, _, rfl⟩
end Go.Proofs.YtgdlfiejjnjcpaaGreat.Sl

namespace Go.Proofs.YtgdlfiejjnjcpaaGreat.Sl
open Go.RowKit Go.Maps Go.Sort
open Go.ChangeMaps (setBlock)

theorem drew_turns (L : List Nat) (w : World) : Turns L w w.drew := ⟨rfl, rfl, rfl, Nat.le_refl _, fun _ _ _ => rfl⟩
theorem Turns.grown1 {j : Nat} {w w' : World} (h : Turns [j] w w') : w.grownBy w' (some j) := ⟨h.os, h.tape, h.output, h.size, fun k hk hne => h.block k hk (by simp; exact fun e => hne (by rw [e]))⟩

/-- 'clear(m)', for the walk to take. -/
theorem own_cleared {w : World} {b n : Nat} {D : DataW Unit} (h : w.ownsMap Tryz.prog 3 pendElem b n D) :
    ∃ w', (∀ ty, (Builtin.clear_ #[134] ty #[.map (some b)]).run Tryz.prog w = .ok (.tuple #[]) w') ∧ w'.ownsMap Tryz.prog 3 pendElem b n (.map []) ∧ w.mapTurned w' b := by
  obtain ⟨es, clock, hb, F, hs, rfl⟩ := h
  refine ⟨setBlock w b (.map #[] clock), fun ty => ?_, ⟨#[], clock, Go.ChangeMaps.heap_setBlock_same hb _, ⟨by simp, MapKept.stamped_empty clock, by simp⟩, by simp, rfl⟩, ⟨es, clock, #[], clock, hb, rfl⟩⟩
  simp [Builtin.clear_, run_underlying Tryz.underlying134, MapKept.run_getObj_map hb, MapKept.run_setObj_map _ hb, Result.andThen, setBlock]

/-- no block is loose any more. -/
def St.firm (σ : St) : St := { σ with loose := fun _ => none }
theorem SlabAt.cleared {w w' : World} {p pd pm n : Nat} {σ : St} (h : SlabAt w p pd pm σ) (hD : w'.ownsMap Tryz.prog 3 pendElem pm n (.map [])) (hn : n ≤ 1000) (ht : w.mapTurned w' pm) : SlabAt w' p pd pm σ.firm ∧ Turns [pm] w w' := by
  have ht' : Turns [pm] w w' := Turns.of_grown ht.grown (by intro j e; cases e; simp)
  have h1 := h.ne_mp
  have h2 := h.ne_md
  exact ⟨⟨(ht'.block p h.lt_p (by simp; exact fun e => h1 e.symm)).trans h.hp, (ht'.block pd h.lt_d (by simp; exact fun e => h2 e.symm)).trans h.hd, ⟨_, hD.mono hn, fun i => lk_empty i⟩, fun i hi => absurd rfl hi, h.len, h.ne⟩, ht'⟩

/-- the durable contents while a flush is under way. -/
def flushed (σ : St) (left : Lit → Bool) : List ByteArray := (List.range σ.dur.length).map fun j : Nat => if left (.int .i64 j) = true then σ.dur.getD j ⟨#[]⟩ else σ.at j
theorem flushed_len (σ : St) (left : Lit → Bool) : (flushed σ left).length = σ.dur.length := by simp [flushed]
theorem flushed_start {σ : St} {D : DataW Unit} (hL : ∀ i, lk D i = σ.loose i) : flushed σ (Maps.has D) = σ.dur := by
  apply List.ext_getElem (by simp [flushed])
  intro j h1 h2
  simp only [flushed, List.getElem_map, List.getElem_range, List.getD, List.getElem?_eq_getElem h2, Option.getD_some]
  split
  · rfl
  · rename_i hh
    have : σ.loose j = none := by
      rw [← hL j]
      unfold lk
      rw [if_neg hh]
    unfold St.at
    rw [this]
    simp [List.getD, h2]
theorem flushed_end {σ : St} {left : Lit → Bool} (hl : ∀ kl, left kl = false) : flushed σ left = σ.img := by
  unfold flushed St.img
  apply List.map_congr_left
  intro j _
  rw [hl]; simp
theorem flushed_step {σ : St} {left : Lit → Bool} {k : Nat} {s : ByteArray} (hs : σ.loose k = some s) : (flushed σ left).set k s = flushed σ (fun z => left z && !z.sameKey (.int .i64 k)) := by
  apply List.ext_getElem (by simp [flushed])
  intro j h1 h2
  simp only [List.length_set, flushed_len] at h1
  rw [List.getElem_set]
  simp only [flushed, List.getElem_map, List.getElem_range, sameKey_int]
  by_cases e : k = j
  · subst e
    simp [St.at, hs]
  · rw [if_neg e]
    have : ¬ ((j : Int) = (k : Int)) := by omega
    simp [this]

def St.flush (σ : St) : St := if σ.halted = true then σ.tick else { σ.tick with dur := σ.img }.firm
def St.flushE (σ : St) : Int := if σ.halted = true then 14 else 0

set_option maxRecDepth 100000 in
set_option maxHeartbeats 1000000 in
theorem flush_any (p pd pm : Nat) (σ : St) (w : World) (h : SlabAt w p pd pm σ) (hc : σ.calls < 1000000) :
    Calls Tryz.prog 121 #[.pointer (some ⟨p, 0, none⟩)] w fun e w' => e = .returned (.int .i64 σ.flushE) ∧ SlabAt w' p pd pm σ.flush ∧ Turns [p, pd, pm] w w' := by
  have HC := Lib.hid (count_any p pd pm σ w h hc)
  have hps := h.lt_p
  have hds := h.lt_d
  have hms := h.lt_m
  clear h
  cases hh : σ.halted with
  | true =>
    have H1 : Hid (σ.flushE = 14) := by show _ = _; unfold St.flushE; rw [if_pos hh]
    have H2 : Hid (σ.flush = σ.tick) := by show _ = _; unfold St.flush; rw [if_pos hh]
    have HH := Lib.hid hh
    clear hh
    go_enter Tryz.func121, Tryz.ntmps121
    go_wp2_with (go_at_call 143; refine HC.out.mono ?_; rintro e w1 ⟨rfl, h1, t1⟩; rw [HH.out])
    go_ret
    exact ⟨by rw [H1.out]; rfl, by rw [H2.out]; exact h1, t1.mono (by simp)⟩
  | false =>
    have H1 : Hid (σ.flushE = 0) := by show _ = _; unfold St.flushE; rw [hh]; rfl
    have H2 : Hid (σ.flush = { σ.tick with dur := σ.img }.firm) := by show _ = _; unfold St.flush; rw [hh]; rfl
    have HH := Lib.hid hh
    clear hh
    go_enter Tryz.func121, Tryz.ntmps121
    go_wp2_with fail
    refine HC.out.mono ?_
    rintro e w1 ⟨rfl, h1, t1⟩
    rw [HH.out]
    obtain ⟨τ, hτ⟩ : ∃ τ, τ = σ.tick := ⟨_, rfl⟩
    have HI : Hid (σ.img = τ.img) := by rw [hτ]; rfl
    rw [← hτ] at h1
    have Hτ := Lib.hid hτ
    have c1 := h1.c1
    obtain ⟨D, hown, hL⟩ := h1.hm
    have HL := Lib.hid hL
    have HS := Lib.hid h1
    have HT1 := Lib.hid t1
    have hps1 : p < w1.heap.size := h1.lt_p
    have hds1 : pd < w1.heap.size := h1.lt_d
    have hms1 : pm < w1.heap.size := h1.lt_m
    clear h1 hL hτ t1
    go_wp2_with (first
      | (at_range; refine wpList_range_own _ rfl _ 134 rfl 3 165 law3 Tryz.underlying134 _ pm 1000 D rfl hown ?_; intro w0 hrg0 hg0 hs0)
      | go_in)
    go_frame
    go_loopw [3] (fun _ wr => ∃ (left : Lit → Bool) (cnt : Nat), wr.ranges Tryz.prog 3 pendElem pm w1.heap.size 1000 D left cnt ∧ SlabAt wr p pd pm { τ with dur := flushed τ left } ∧ Turns [p, pd, pm] w1 wr)
      (fun _ wr => wr.rangeLeft pm w1.heap.size)
    case atStart =>
      have t0 : Turns [] w1 w0 := Turns.of_grown hg0 (by simp)
      refine ⟨_, _, hrg0, ?_, t0.mono (by simp)⟩
      rw [flushed_start HL.out]
      exact HS.out.keptB t0
    case round =>
      obtain ⟨left, cnt, hrg, hs, ht⟩ := hrel
      go_wp2_with (first
        | (at_next; refine wpList_next_ranges _ rfl _ rfl 3 law3 pendElem (Value.int .i64) (fun s : ByteArray => Value.agg #[.string s]) invK3 invVp pm w1.heap.size 1000 _ _ _ rfl hrg ?_ ?_)
        | go_in)
      · intro hc0 hl0
        have cr1 := hs.c1
        have Hs := Lib.hid hs
        have HT := Lib.hid ht
        obtain ⟨w4, hrun4, hown4, hturn4⟩ := own_cleared hrg.owns
        clear hs ht
        go_wp2
        go_ret
        obtain ⟨h4, t4⟩ := Hs.out.cleared hown4 (Nat.le_refl _) hturn4
        rw [flushed_end hl0] at h4
        refine ⟨by rw [H1.out]; rfl, ?_, ((HT1.out.mono (by simp)).trans HT.out).trans (t4.mono (by simp))⟩
        rw [H2.out, HI.out, ← Hτ.out]
        exact h4
      · intro x c kl yd yp w2 cnt2 hkey hlk hv hat hrg2 hlt hg2 hs2 hen
        obtain ⟨x', ex, rfl, _⟩ := Maps.keyOf_int_inv Tryz.underlying3 hkey
        obtain rfl : x = x' := by cases ex; rfl
        obtain ⟨s', es', ey⟩ := pendElem_inv hv
        obtain rfl : c = s' := by cases es'; rfl
        have ey1 : yd = .lit (.string c.data.toList) := congrArg Prod.fst ey
        have hlx : τ.loose x = some c := by rw [← HL.out x]; exact lk_at (fun zd => (hat zd).trans ey1)
        obtain ⟨hx0, hx1⟩ := HS.out.ok x (by rw [hlx]; simp)
        obtain ⟨k, rfl⟩ := Int.eq_ofNat_of_zero_le hx0
        have hk : k < τ.dur.length := by omega
        have hkl : τ.dur.length ≤ 1000 := HS.out.len
        have t2 : Turns [w1.heap.size] wr w2 := Turns.of_grown hg2 (by intro j e; cases e; simp)
        have h2 := hs.kept t2 (by simp; omega) (by simp; omega) (by simp; omega)
        have h3 := h2.keptB (Turns.alloc _ w2 (.cells #[.string c] 165))
        have c03 := h3.c0
        have hl3 : ({ τ with dur := flushed τ left } : St).dur.length = τ.dur.length := flushed_len τ left
        rw [hl3] at c03
        have fd3 := h3.fzd k
        obtain ⟨v3, hv3⟩ : ∃ v, (w2.alloc (.cells #[.string c] 165)).cell? ⟨pd, k, none⟩ = some v := ⟨_, h3.d (by rw [hl3]; exact hk)⟩
        obtain ⟨h4, t4⟩ := h3.setDur k c
        have e4 : ({ ({ τ with dur := flushed τ left } : St) with dur := ({ τ with dur := flushed τ left } : St).dur.set k c } : St) = { τ with dur := flushed τ (fun z => left z && !z.sameKey (.int .i64 k)) } := by
          show ({ τ with dur := (flushed τ left).set k c } : St) = _
          rw [flushed_step hlx]
        rw [e4] at h4
        have hrg3 := hrg2.alloc (.cells #[.string c] 165)
        have H4 := Lib.hid h4
        have T4 := Lib.hid t4
        have T2 := Lib.hid t2
        have HT := Lib.hid ht
        have HRG := Lib.hid hrg
        have HRG3 := Lib.hid hrg3
        have hm := h3.ne_md
        have HWS := Lib.hid (show w1.heap.size < wr.heap.size from hrg.lt)
        clear h4 t4 t2 ht hrg hrg2 hrg3 h3 h2 hs hg2 hs2 e4 hl3 hlx ey ey1 es' hv hat hlk hown hrg0 hg0 hs0 hkey ex
        go_wp2_with fail
        go_region
        have hrg4 := Lib.hid (HRG3.out.kept (T4.out.trans (drew_turns _ _)).grown1 (fun e => hm (by cases e; rfl)) (by intro e; have : w1.heap.size = pd := by cases e; rfl
                                                                                                                       omega))
        go_wp2
        go_roundw
        case rel =>
          have tA : Turns [p, pd, pm] w2 (w2.alloc (.cells #[.string c] 165)) := Turns.alloc _ _ _
          refine ⟨_, _, hrg4.out, H4.out.keptB (drew_turns _ _), ?_⟩
          exact (((HT.out.transNew T2.out (by intro j hj; simp at hj; omega)).trans tA).trans (T4.out.mono (by simp))).trans (drew_turns _ _)
        case measure => rw [hrg4.out.left_eq, HRG.out.left_eq]; exact hlt

set_option maxHeartbeats 1000000 in
theorem flush_nil (w : World) : Calls Tryz.prog 121 #[.pointer none] w fun e w' => e = .returned (.int .i64 1) ∧ w = w' := by
  go_enter Tryz.func121, Tryz.ntmps121
  go_wp2
  go_ret
  exact ⟨rfl, rfl⟩
end Go.Proofs.YtgdlfiejjnjcpaaGreat.Sl
