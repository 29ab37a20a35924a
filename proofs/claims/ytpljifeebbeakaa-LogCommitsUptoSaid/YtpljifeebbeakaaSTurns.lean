/-
  WORDS OF MEMORY for the proofs over layer 2: which blocks may have turned between two worlds; the elements of the map of loose blocks; a slab in memory. No condition.
-/
import Derived.Test.YtpljifeebbeakaaRows
import Derived.WalkKit
import Derived.WalkSpells
import Derived.WalkLawsBesides
import Derived.Lib.Hide
import Derived.Lib.Walk
import Derived.Maps.RangeWalk
import Derived.Laws.MakeOwn
import Derived.Sort.KeysCollected
namespace Go.Proofs.Ytpljifeebbeakaa.Sl
open Go.RowKit Go.Maps

/-- Of the blocks that were there only those of L have turned. -/
structure Turns (L : List Nat) (w w' : World) : Prop where
  os : w'.os = w.os
  tape : w'.tape = w.tape
  output : w'.output = w.output
  size : w.heap.size ≤ w'.heap.size
  block : ∀ k, k < w.heap.size → k ∉ L → w'.heap[k]? = w.heap[k]?

theorem Turns.refl (L : List Nat) (w : World) : Turns L w w := ⟨rfl, rfl, rfl, Nat.le_refl _, fun _ _ _ => rfl⟩
theorem Turns.trans {L : List Nat} {a b c : World} (h : Turns L a b) (k : Turns L b c) : Turns L a c :=
  ⟨k.os.trans h.os, k.tape.trans h.tape, k.output.trans h.output, Nat.le_trans h.size k.size, fun i hi hn => (k.block i (Nat.lt_of_lt_of_le hi h.size) hn).trans (h.block i hi hn)⟩
/-- the second step may have turned blocks that the first made. -/
theorem Turns.transNew {L L' : List Nat} {a b c : World} (h : Turns L a b) (k : Turns L' b c) (hL : ∀ j, j ∈ L' → j ∈ L ∨ a.heap.size ≤ j) : Turns L a c :=
  ⟨k.os.trans h.os, k.tape.trans h.tape, k.output.trans h.output, Nat.le_trans h.size k.size, fun i hi hn => (k.block i (Nat.lt_of_lt_of_le hi h.size) (fun hm => by
    rcases hL i hm with h1 | h1
    · exact hn h1
    · omega)).trans (h.block i hi hn)⟩
theorem Turns.mono {L L' : List Nat} {a b : World} (h : Turns L a b) (hL : ∀ j, j ∈ L → j ∈ L') : Turns L' a b :=
  ⟨h.os, h.tape, h.output, h.size, fun i hi hn => h.block i hi (fun hm => hn (hL i hm))⟩
theorem Turns.of_below {w w' : World} (L : List Nat) (h : Below w.heap.size w w') : Turns L w w' := ⟨h.os, h.tape, h.output, h.size, fun k hk _ => h.block k hk⟩
theorem Turns.below {L : List Nat} {w w' : World} {B : Nat} (h : Turns L w w') (hB : B ≤ w.heap.size) (hL : ∀ j, j ∈ L → B ≤ j) : Below B w w' :=
  ⟨h.os, h.tape, h.output, h.size, fun k hk => h.block k (by omega) (fun hm => by have := hL k hm; omega)⟩
theorem Turns.of_grown {w w' : World} {row : Option Nat} {L : List Nat} (h : w.grownBy w' row) (hr : ∀ j, row = some j → j ∈ L) : Turns L w w' :=
  ⟨h.os, h.tape, h.output, h.size, fun k hk hn => h.block k hk (fun e => hn (hr k e.symm))⟩
theorem Turns.alloc (L : List Nat) (w : World) (o : Obj) : Turns L w (w.alloc o) := Turns.of_grown (World.grownBy_alloc w o none) (by simp)
theorem Turns.setCell {L : List Nat} (w : World) {p : Addr} (hp : p.block ∈ L) (u : Value) : Turns L w (w.setCell p u) :=
  ⟨rfl, rfl, rfl, by simp [World.setCell], fun k _ hn => Below.heap_setCell _ _ _ _ (fun e => hn (e ▸ hp))⟩
theorem Turns.cell {L : List Nat} {w w' : World} (h : Turns L w w') {a : Addr} {v : Value} (hc : w.cell? a = some v) (hn : a.block ∉ L) : w'.cell? a = some v :=
  (World.cell?_of_block (h.block a.block (World.block_lt_of_cell? w a hc) hn)).trans hc

/-! ### the elements of the map: a struct of one string -/
def pendElem : Value → Option (DataW Unit × List MemPlace)
  | .agg cs => match cs.toList with
    | [.string s] => some (.lit (.string s.data.toList), [])
    | _ => none
  | _ => none
theorem pendElem_mk (s : ByteArray) : pendElem (.agg #[.string s]) = some (.lit (.string s.data.toList), []) := rfl
theorem pendElem_inv {v : Value} {z : DataW Unit × List MemPlace} (h : pendElem v = some z) : ∃ s : ByteArray, v = .agg #[.string s] ∧ z = (.lit (.string s.data.toList), []) := by
  unfold pendElem at h
  split at h
  · rename_i cs
    split at h
    · rename_i s hs
      cases h
      refine ⟨s, ?_, rfl⟩
      congr 1
      apply Array.ext'
      simpa using hs
    · cases h
  · cases h

/-- what the map holds at a key: bytes, or nothing. -/
def strAt : DataW Unit → ByteArray
  | .lit (.string l) => ⟨l.toArray⟩
  | _ => ⟨#[]⟩
def lk (D : DataW Unit) (i : Int) : Option ByteArray := if Maps.has D (.int .i64 i) = true then some (strAt (D.atKey (.int .i64 i) .nil)) else none

theorem strAt_mk (s : ByteArray) : strAt (.lit (.string s.data.toList)) = s := rfl
theorem lk_has {D : DataW Unit} {i : Int} : (lk D i).isSome = Maps.has D (.int .i64 i) := by unfold lk; split <;> simp_all
theorem lk_empty (i : Int) : lk (.map []) i = none := rfl
theorem isKey_int (i : Int) : WideAt.IsKeyLit (.int .i64 i) := trivial
theorem lk_put {D : DataW Unit} (hD : IsMap D) (i j : Int) (s : ByteArray) : lk (D.put (.int .i64 i) (.lit (.string s.data.toList))) j = if j = i then some s else lk D j := by
  by_cases h : j = i
  · subst h
    rw [if_pos rfl]
    unfold lk
    rw [has_put_same hD (isKey_int _), if_pos rfl, atKey_put_same hD (isKey_int _)]
    rfl
  · rw [if_neg h]
    have hne : (Lit.int .i64 j) ≠ (Lit.int .i64 i) := fun e => h (by cases e; rfl)
    unfold lk
    rw [has_put_other hne, atKey_put_other hne]
theorem lk_at {D : DataW Unit} {i : Int} {s : ByteArray} (h : ∀ zd, D.atKey (.int .i64 i) zd = .lit (.string s.data.toList)) : lk D i = some s := by
  unfold lk
  rw [has_true_of_atKey h, if_pos rfl, h]; rfl

theorem law3 : Keyed Try.prog 3 := int_keyed Try.underlying3
theorem zero60 (w : World) : (zeroValue 76).run Try.prog w = .ok (.agg #[.string ⟨#[]⟩]) w := by kernel_rfl

theorem key_i64 {i : Int} (hi : -9223372036854775808 ≤ i ∧ i ≤ 9223372036854775807) : keyOf Try.prog 3 (.int .i64 i) = some (.int .i64 i) := keyOf_int_mk Try.underlying3 (WalkArith.wf_i64 hi)

/-- what a look-up reads: nothing there: no bytes. -/
theorem look_pend {w : World} {b n : Nat} {D : DataW Unit} {i : Int} {v : Value} {ps : List MemPlace} (_h : w.ownsMap Try.prog 3 pendElem b n D) (hv : pendElem v = some (D.atKey (.int .i64 i) (.lit (.string [])), ps)) :
    v = .agg #[.string ((lk D i).getD ⟨#[]⟩)] := by
  obtain ⟨s, rfl, hs⟩ := pendElem_inv hv
  have hs1 : D.atKey (.int .i64 i) (.lit (.string [])) = .lit (.string s.data.toList) := congrArg Prod.fst hs
  congr 2
  cases hh : Maps.has D (.int .i64 i)
  · have := atKey_of_not_has hh (.lit (.string []) : DataW Unit)
    rw [this] at hs1
    have e : s = ⟨#[]⟩ := by
      apply ByteArray.ext
      apply Array.ext'
      simp at hs1
      simp [← hs1]
    unfold lk
    rw [hh, e]; rfl
  · unfold lk
    rw [hh, if_pos rfl]
    have e : D.atKey (.int .i64 i) .nil = .lit (.string s.data.toList) := by
      obtain ⟨es, rfl⟩ := _h.isMap
      unfold Maps.has at hh
      obtain ⟨p, hp1, hp2⟩ := List.any_eq_true.1 hh
      have hex : ∃ q, es.find? (fun p => p.1.sameKey (.int .i64 i)) = some q := by
        cases hf : es.find? (fun p => p.1.sameKey (.int .i64 i)) with
        | none => rw [List.find?_eq_none] at hf; exact absurd hp2 (hf p hp1)
        | some q => exact ⟨q, rfl⟩
      obtain ⟨q, hq⟩ := hex
      rw [← hs1]
      simp only [DataW.atKey, hq]
    rw [e]
    rfl

theorem nodup_le : ∀ (n : Nat) (l : List Nat), l.Nodup → (∀ x, x ∈ l → x < n) → l.length ≤ n
  | 0, l, _, h => by
    cases l with
    | nil => simp
    | cons a r => exact absurd (h a (by simp)) (by omega)
  | n + 1, l, hn, h => by
    have ih := nodup_le n (l.erase n) (hn.erase n) (fun x hx => by
      have h1 := (hn.mem_erase_iff).1 hx
      have h2 := h x h1.2
      have h3 := h1.1
      omega)
    by_cases hm : n ∈ l
    · rw [List.length_erase_of_mem hm] at ih; omega
    · rw [List.erase_of_not_mem hm] at ih; omega

/-- the keys of a map that is in order: as many as there are blocks, at most. -/
theorem own_tight {w : World} {b n len : Nat} {D : DataW Unit} (h : w.ownsMap Try.prog 3 pendElem b n D) (hk : ∀ i, lk D i ≠ none → 0 ≤ i ∧ i < (len : Int)) (hl : len ≤ 1000) : w.ownsMap Try.prog 3 pendElem b 1000 D := by
  obtain ⟨es', hD, hp, _⟩ := h.entries law3
  obtain ⟨es'', hD', hko⟩ := h.keysOf
  obtain rfl : es' = es'' := by rw [hD] at hD'; simpa using hD'
  obtain ⟨es, clock, hb, F, hs, hDD⟩ := h
  refine ⟨es, clock, hb, F, ?_, hDD⟩
  have e1 : es.size = es'.length := by
    rw [hDD] at hD
    injection hD with hD
    rw [← hD, length_sorted]
    simp
  rw [e1]
  have hint : ∀ p, p ∈ es' → ∃ x : Int, p.1 = .int .i64 x ∧ 0 ≤ x ∧ x < (len : Int) := fun p hpm => by
    obtain ⟨v, hv⟩ := hko p hpm
    obtain ⟨x, _, hx, _⟩ := Maps.keyOf_int_inv Try.underlying3 hv
    refine ⟨x, hx, hk x ?_⟩
    have : Maps.has D (.int .i64 x) = true := by
      rw [hD]
      exact List.any_eq_true.2 ⟨p, hpm, by rw [hx]; exact WideAt.sameKey_self (isKey_int x)⟩
    unfold lk
    rw [this]; simp
  have hle := nodup_le len (es'.map fun p => (match p.1 with | .int _ x => x.toNat | _ => 0)) (by
    refine List.pairwise_map.2 (hp.imp_of_mem fun {p q} hp' hq' hne e => hne ?_)
    obtain ⟨x, hx, h0, _⟩ := hint p hp'
    obtain ⟨y, hy, h1, _⟩ := hint q hq'
    rw [hx, hy] at e ⊢
    simp only at e
    congr 1
    omega) (fun x hx => by
    obtain ⟨p, hpm, rfl⟩ := List.mem_map.1 hx
    obtain ⟨x, hx, h0, h1⟩ := hint p hpm
    rw [hx]
    simp only
    omega)
  rw [List.length_map] at hle
  omega

end Go.Proofs.Ytpljifeebbeakaa.Sl
