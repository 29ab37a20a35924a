/-
  THE STATE of Of's loop: which lists the rungs hold when the pieces pre have come. No condition.
-/
import Derived.Test.YtiknbbkblldjiaaMap
namespace Go.Proofs.Ytiknbbkblldjiaa
open Go.RowKit Go.Shelf

abbrev nilS : Value := .slice none 0 0
/-- the map with zeros behind, 76 numbers. -/
def wholeOf (zs : List Int) : List Int := splice (List.replicate 76 0) 0 (zs.take (Nat.min zs.length 76))
theorem wholeOf_len (zs : List Int) : (wholeOf zs).length = 76 := by
  unfold wholeOf
  rw [length_splice]
  · simp
  · have : Nat.min zs.length 76 ≤ 76 := Nat.min_le_right _ _
    simp [List.length_take]
    omega
theorem wholeOf_get (zs : List Int) (i : Nat) (h : i < 76) : (wholeOf zs).getD i 0 = zs.getD i 0 := by
  have e : Nat.min zs.length 76 = min zs.length 76 := rfl
  unfold wholeOf splice
  rw [e]
  simp only [List.take_zero, List.nil_append, List.length_take, Nat.zero_add]
  by_cases hi : i < zs.length
  · rw [List.getD, List.getElem?_append_left (by simp; omega), List.getElem?_take_of_lt (by omega)]
    rfl
  · rw [List.getD, List.getElem?_append_right (by simp; omega)]
    have e2 : zs[i]? = none := List.getElem?_eq_none (by omega)
    rw [List.getElem?_drop, List.getElem?_replicate, List.getD, e2]
    split <;> rfl
def pieceOf (zs : List Int) (k : Nat) : List Int := ((wholeOf zs).drop (offP k)).take (lenP k)
theorem pieceOf_len (zs : List Int) (k : Nat) (h : k < 10) : (pieceOf zs k).length = lenP k := by
  have := offP_lt k h
  unfold pieceOf
  rw [List.length_take, List.length_drop, wholeOf_len]
  omega
theorem pieceOf_get (zs : List Int) (k j : Nat) (h : k < 10) (hj : j < lenP k) : (pieceOf zs k).getD j 0 = zs.getD (offP k + j) 0 := by
  have := offP_lt k h
  rw [← wholeOf_get zs (offP k + j) (by omega)]
  unfold pieceOf
  rw [List.getD, List.getElem?_take_of_lt hj, List.getElem?_drop]
  rfl
def optP (zs : List Int) (k : Nat) : Option (List Int) := if zeroB (pieceOf zs k) = true then none else some (pieceOf zs k)
def optF (zs : List Int) (k : Nat) : Option (List Int) := if k = 0 then some (pieceOf zs 0) else optP zs k
def stF (zs : List Int) (pre : List (Fin 10)) (k : Nat) : Option (List Int) := if k ∈ pre.map (·.1) then optF zs k else none
theorem stF_snoc (zs : List Int) (pre : List (Fin 10)) (x : Fin 10) (k : Nat) : stF zs (pre ++ [x]) k = if k = x.1 then optF zs x.1 else stF zs pre k := by
  unfold stF
  by_cases e : k = x.1
  · subst e; simp
  · simp [e]
theorem stF_or (zs : List Int) (pre : List (Fin 10)) (k : Nat) : stF zs pre k = none ∨ stF zs pre k = optF zs k := by
  unfold stF
  split
  · exact .inr rfl
  · exact .inl rfl
theorem stF_nil (zs : List Int) (k : Nat) : stF zs [] k = none := by simp [stF]
theorem stF_all (zs : List Int) (k : Nat) (h : k < 10) : stF zs (firsts 10) k = optF zs k := by
  have : ∀ k : Fin 10, k.1 ∈ (firsts 10).map (·.1) := by decide
  unfold stF
  rw [if_pos (this ⟨k, h⟩)]

/-- a list in a row of its own, at or beyond block base. -/
def NewLst (base : Nat) (w : World) (v : Value) : Option (List Int) → Prop
  | none => v = nilS
  | some l => ∃ b, base ≤ b ∧ v = .slice (some ⟨b, 0, none⟩) l.length l.length ∧ IntRow w b l
theorem NewLst.keep {base : Nat} {w w' : World} {v : Value} {o : Option (List Int)} (h : NewLst base w v o) (hk : ∀ b cs, base ≤ b → w.heap[b]? = some (.cells cs 3 (0, 0)) → w'.heap[b]? = w.heap[b]?) : NewLst base w' v o := by
  cases o with
  | none => exact h
  | some l => obtain ⟨b, hb, e, hr⟩ := h; exact ⟨b, hb, e, (hk b _ hb hr).trans hr⟩
/-- eight lists, or none at all. -/
def DblSt (base : Nat) (w : World) (v : Value) (st : Nat → Option (List Int)) : Prop :=
  (v = nilS ∧ ∀ j, j < 8 → st j = none) ∨
  ∃ (D : Nat) (us : List Value), base ≤ D ∧ v = .slice (some ⟨D, 0, none⟩) 8 8 ∧ us.length = 8 ∧ w.heap[D]? = some (.cells us.toArray 22 (0, 0)) ∧ (∀ j, j < 8 → NewLst base w (us.getD j nilS) (st j)) ∧ ∃ j, j < 8 ∧ st j ≠ none
theorem DblSt.keep {base : Nat} {w w' : World} {v : Value} {st : Nat → Option (List Int)} (h : DblSt base w v st) (hk : ∀ b cs t, base ≤ b → w.heap[b]? = some (.cells cs t (0, 0)) → w'.heap[b]? = w.heap[b]?) : DblSt base w' v st := by
  rcases h with h | ⟨D, us, hD, e, hl, hd, hj, hs⟩
  · exact .inl h
  · exact .inr ⟨D, us, hD, e, hl, (hk D _ _ hD hd).trans hd, fun j h8 => (hj j h8).keep fun b cs hb hc => hk b cs 3 hb hc, hs⟩
/-- the rungs in block R when pre has come. -/
def OfSt (base R : Nat) (zs : List Int) (w : World) (pre : List (Fin 10)) : Prop :=
  ∃ v1 v2 v3, w.heap[R]? = some (.cells #[v1, v2, v3] 26 (0, 0)) ∧ NewLst base w v1 (stF zs pre 0) ∧ NewLst base w v2 (stF zs pre 1) ∧ DblSt base w v3 (fun j => stF zs pre (j + 2))

theorem heap_set {W : World} {R i : Nat} {cs : Array Value} {t : TypeId} (h : W.heap[R]? = some (.cells cs t (0, 0))) (v : Value) : (W.setCell ⟨R, i, none⟩ v).heap[R]? = some (.cells (cs.setIfInBounds i v) t (0, 0)) := by
  obtain ⟨hlt, hk⟩ := Array.getElem?_eq_some_iff.1 h
  show (W.heap.modify R _)[R]? = _
  rw [Array.getElem?_eq_getElem (by rw [Array.size_modify]; exact hlt), Array.getElem_modify_self, hk]
  rfl

/-- round 0: Direct. -/
theorem OfSt.set0 {base R : Nat} {zs : List Int} {W W1 : World} {pre : List (Fin 10)} {x : Fin 10} (h : OfSt base R zs W pre) (hx : x.1 = 0) (hb : Below W.heap.size W W1) (hR : R < base) (g : Nat) (hg : base ≤ g) (hrow : IntRow W1 g (pieceOf zs 0)) (n : Nat) (hn : n = (pieceOf zs 0).length) :
    OfSt base R zs (W1.setCell ⟨R, 0, none⟩ (.slice (some ⟨g, 0, none⟩) n n)) (pre ++ [x]) := by
  subst hn
  obtain ⟨v1, v2, v3, h0, h1, h2, h3⟩ := h
  have h0' : W1.heap[R]? = _ := (hb.block R (Array.getElem?_eq_some_iff.1 h0).1).trans h0
  have keep : ∀ b cs t, base ≤ b → W.heap[b]? = some (.cells cs t (0, 0)) → (W1.setCell ⟨R, 0, none⟩ (.slice (some ⟨g, 0, none⟩) (pieceOf zs 0).length (pieceOf zs 0).length)).heap[b]? = W.heap[b]? := fun b cs t hbb hc =>
    (Below.heap_setCell _ _ _ b (by show b ≠ R; omega)).trans (hb.block b (Array.getElem?_eq_some_iff.1 hc).1)
  refine ⟨.slice (some ⟨g, 0, none⟩) (pieceOf zs 0).length (pieceOf zs 0).length, v2, v3, heap_set h0' _, ?_, ?_, ?_⟩
  · rw [stF_snoc, if_pos hx.symm]
    rw [hx]
    exact ⟨g, hg, rfl, (Below.heap_setCell _ _ _ g (by show g ≠ R; omega)).trans hrow⟩
  · rw [stF_snoc, if_neg (by omega)]
    exact h2.keep fun b cs => keep b cs 3
  · have e : (fun j => stF zs (pre ++ [x]) (j + 2)) = fun j => stF zs pre (j + 2) := funext fun j => by rw [stF_snoc, if_neg (by omega)]
    rw [e]
    exact h3.keep keep
/-- round 1: Single. -/
theorem OfSt.set1 {base R : Nat} {zs : List Int} {W W1 : World} {pre : List (Fin 10)} {x : Fin 10} (h : OfSt base R zs W pre) (hx : x.1 = 1) (hz : zeroB (pieceOf zs 1) = false) (hb : Below W.heap.size W W1) (hR : R < base) (g : Nat) (hg : base ≤ g) (hrow : IntRow W1 g (pieceOf zs 1)) (n : Nat) (hn : n = (pieceOf zs 1).length) :
    OfSt base R zs (W1.setCell ⟨R, 1, none⟩ (.slice (some ⟨g, 0, none⟩) n n)) (pre ++ [x]) := by
  subst hn
  obtain ⟨v1, v2, v3, h0, h1, h2, h3⟩ := h
  have h0' : W1.heap[R]? = _ := (hb.block R (Array.getElem?_eq_some_iff.1 h0).1).trans h0
  have keep : ∀ b cs t, base ≤ b → W.heap[b]? = some (.cells cs t (0, 0)) → (W1.setCell ⟨R, 1, none⟩ (.slice (some ⟨g, 0, none⟩) (pieceOf zs 1).length (pieceOf zs 1).length)).heap[b]? = W.heap[b]? := fun b cs t hbb hc =>
    (Below.heap_setCell _ _ _ b (by show b ≠ R; omega)).trans (hb.block b (Array.getElem?_eq_some_iff.1 hc).1)
  refine ⟨v1, .slice (some ⟨g, 0, none⟩) (pieceOf zs 1).length (pieceOf zs 1).length, v3, heap_set h0' _, ?_, ?_, ?_⟩
  · rw [stF_snoc, if_neg (by omega)]
    exact h1.keep fun b cs => keep b cs 3
  · rw [stF_snoc, if_pos hx.symm]
    rw [hx]
    have e : optF zs 1 = some (pieceOf zs 1) := by simp [optF, optP, hz]
    rw [e]
    exact ⟨g, hg, rfl, (Below.heap_setCell _ _ _ g (by show g ≠ R; omega)).trans hrow⟩
  · have e : (fun j => stF zs (pre ++ [x]) (j + 2)) = fun j => stF zs pre (j + 2) := funext fun j => by rw [stF_snoc, if_neg (by omega)]
    rw [e]
    exact h3.keep keep
/-- a piece of zeros: nothing turns. -/
theorem OfSt.skip {base R : Nat} {zs : List Int} {W : World} {pre : List (Fin 10)} {x : Fin 10} (h : OfSt base R zs W pre) (hx : x.1 ≠ 0) (hz : zeroB (pieceOf zs x.1) = true) : OfSt base R zs W (pre ++ [x]) := by
  have e0 : optF zs x.1 = none := by simp [optF, optP, hz, hx]
  have e : ∀ k, stF zs (pre ++ [x]) k = stF zs pre k := fun k => by
    rw [stF_snoc]
    by_cases ek : k = x.1
    · rw [if_pos ek, e0]
      rcases stF_or zs pre k with h | h
      · exact h.symm
      · rw [h, ek, e0]
    · rw [if_neg ek]
  obtain ⟨v1, v2, v3, h0, h1, h2, h3⟩ := h
  refine ⟨v1, v2, v3, h0, by rw [e]; exact h1, by rw [e]; exact h2, ?_⟩
  have e3 : (fun j => stF zs (pre ++ [x]) (j + 2)) = fun j => stF zs pre (j + 2) := funext fun j => e _
  rw [e3]
  exact h3
/-- the rungs while a list of Double is put in. -/
def OfMid (base R D : Nat) (zs : List Int) (w : World) (pre : List (Fin 10)) : Prop :=
  ∃ v1 v2, w.heap[R]? = some (.cells #[v1, v2, .slice (some ⟨D, 0, none⟩) 8 8] 26 (0, 0)) ∧ NewLst base w v1 (stF zs pre 0) ∧ NewLst base w v2 (stF zs pre 1) ∧ base ≤ D ∧
    ∃ us : List Value, us.length = 8 ∧ w.heap[D]? = some (.cells us.toArray 22 (0, 0)) ∧ ∀ j, j < 8 → NewLst base w (us.getD j nilS) (stF zs pre (j + 2))
theorem OfMid.make {base R : Nat} {zs : List Int} {W : World} {pre : List (Fin 10)} {v1 v2 : Value} (h0 : W.heap[R]? = some (.cells #[v1, v2, nilS] 26 (0, 0))) (h1 : NewLst base W v1 (stF zs pre 0)) (h2 : NewLst base W v2 (stF zs pre 1)) (h3 : ∀ j, j < 8 → stF zs pre (j + 2) = none) (hR : R < base) (hB : base ≤ W.heap.size) :
    OfMid base R W.heap.size zs ((W.alloc (.cells (List.replicate 8 nilS).toArray 22)).setCell ⟨R, 2, none⟩ (.slice (some ⟨W.heap.size, 0, none⟩) 8 8)) pre := by
  have hlt := (Array.getElem?_eq_some_iff.1 h0).1
  have h0' : (W.alloc (.cells (List.replicate 8 nilS).toArray 22)).heap[R]? = _ := (Below.heap_alloc _ _ _ hlt).trans h0
  have keep : ∀ b cs t, base ≤ b → W.heap[b]? = some (.cells cs t (0, 0)) → ((W.alloc (.cells (List.replicate 8 nilS).toArray 22)).setCell ⟨R, 2, none⟩ (.slice (some ⟨W.heap.size, 0, none⟩) 8 8)).heap[b]? = W.heap[b]? := fun b cs t hbb hc =>
    (Below.heap_setCell _ _ _ b (by show b ≠ R; omega)).trans (Below.heap_alloc _ _ _ (Array.getElem?_eq_some_iff.1 hc).1)
  refine ⟨v1, v2, heap_set h0' _, h1.keep fun b cs => keep b cs 3, h2.keep fun b cs => keep b cs 3, hB, List.replicate 8 nilS, by simp, ?_, fun j hj => ?_⟩
  · exact (Below.heap_setCell _ _ _ W.heap.size (by show W.heap.size ≠ R; omega)).trans (World.alloc_heap_new W _)
  · rw [h3 j hj]
    show _ = _
    rw [List.getD, List.getElem?_replicate, if_pos hj]
    rfl
theorem OfMid.set {base R D : Nat} {zs : List Int} {W W1 : World} {pre : List (Fin 10)} {x : Fin 10} {j : Nat} (h : OfMid base R D zs W pre) (hj : j < 8) (hx : x.1 = j + 2) (hz : zeroB (pieceOf zs (j + 2)) = false) (hb : Below W.heap.size W W1) (hR : R < base) (g : Nat) (hg : W.heap.size ≤ g) (hbase : base ≤ W.heap.size) (hrow : IntRow W1 g (pieceOf zs (j + 2))) (n : Nat) (hn : n = (pieceOf zs (j + 2)).length) :
    OfSt base R zs (W1.setCell ⟨D, j, none⟩ (.slice (some ⟨g, 0, none⟩) n n)) (pre ++ [x]) := by
  subst hn
  obtain ⟨v1, v2, h0, h1, h2, hD, us, hl, hd, hu⟩ := h
  have hlt := (Array.getElem?_eq_some_iff.1 h0).1
  have hdt := (Array.getElem?_eq_some_iff.1 hd).1
  have h0' : W1.heap[R]? = _ := (hb.block R hlt).trans h0
  have hd' : W1.heap[D]? = _ := (hb.block D hdt).trans hd
  have keep : ∀ b cs, base ≤ b → W.heap[b]? = some (.cells cs 3 (0, 0)) → (W1.setCell ⟨D, j, none⟩ (.slice (some ⟨g, 0, none⟩) (pieceOf zs (j + 2)).length (pieceOf zs (j + 2)).length)).heap[b]? = W.heap[b]? := fun b cs hbb hc => by
    refine (Below.heap_setCell _ _ _ b (fun e => ?_)).trans (hb.block b (Array.getElem?_eq_some_iff.1 hc).1)
    have e' : b = D := e
    subst e'
    rw [hd] at hc
    simp at hc
  have eo : optF zs (j + 2) = some (pieceOf zs (j + 2)) := by simp [optF, optP, hz]
  refine ⟨v1, v2, .slice (some ⟨D, 0, none⟩) 8 8, (Below.heap_setCell _ _ _ R (by show R ≠ D; omega)).trans h0', ?_, ?_, .inr ⟨D, us.set j (.slice (some ⟨g, 0, none⟩) (pieceOf zs (j + 2)).length (pieceOf zs (j + 2)).length), hD, rfl, by simp [hl], ?_, fun i hi => ?_, j, hj, ?_⟩⟩
  · rw [stF_snoc, if_neg (by omega)]
    exact h1.keep keep
  · rw [stF_snoc, if_neg (by omega)]
    exact h2.keep keep
  · have := heap_set (i := j) hd' (.slice (some ⟨g, 0, none⟩) (pieceOf zs (j + 2)).length (pieceOf zs (j + 2)).length)
    simpa using this
  · show NewLst _ _ _ (stF zs (pre ++ [x]) (i + 2))
    rw [stF_snoc]
    by_cases e : i = j
    · subst e
      rw [if_pos hx.symm, hx, eo]
      have e1 : (us.set i (.slice (some ⟨g, 0, none⟩) (pieceOf zs (i + 2)).length (pieceOf zs (i + 2)).length)).getD i nilS = .slice (some ⟨g, 0, none⟩) (pieceOf zs (i + 2)).length (pieceOf zs (i + 2)).length := by
        simp [List.getD, hl, hi]
      rw [e1]
      exact ⟨g, by omega, rfl, (Below.heap_setCell _ _ _ g (by show g ≠ D; omega)).trans hrow⟩
    · rw [if_neg (by omega)]
      have e1 : (us.set j (.slice (some ⟨g, 0, none⟩) (pieceOf zs (j + 2)).length (pieceOf zs (j + 2)).length)).getD i nilS = us.getD i nilS := by
        simp [List.getD, show ¬ j = i by omega]
      rw [e1]
      exact (hu i hi).keep keep
  · show stF zs (pre ++ [x]) (j + 2) ≠ none
    rw [stF_snoc, if_pos hx.symm, hx, eo]
    simp
theorem info22 : (Try.prog.info? 22).map (fun i => (i.zero, i.size, i.bytes)) = some (some nilS, 1, 24) := by kernel_rfl
/-- 'make([][]int, 8)', for the walk to take. -/
theorem make_lists (W : World) : (Instr.makeSlice 24 (.int .i64 8) (.int .i64 8)).run Try.prog W = .ok (.slice (some ⟨W.heap.size, 0, none⟩) 8 8) (W.alloc (.cells (List.replicate 8 nilS).toArray 22)) := by
  obtain ⟨i0, hi, hz0, hz1, hz2⟩ := info_parts info22
  have h := run_make (P := Try.prog) W 24 22 i0 nilS Try.underlying24 hi hz0 .i64 .i64 8 8 (by omega) (by omega) (by rw [hz2]; omega) (by omega)
  have e : madeCells nilS.cells (8 * i0.size) = (List.replicate 8 nilS).toArray := by
    apply Array.toList_inj.1
    have e1 : nilS.cells = #[nilS] := rfl
    rw [hz1, Nat.mul_one, e1, toList_madeCells_one]
  rw [← e]
  exact h
end Go.Proofs.Ytiknbbkblldjiaa
