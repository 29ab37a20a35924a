/-
  WALK: Loose: the numbers of the loose blocks, each once, in ascending order. No condition.
-/
import Derived.Test.YtclfklpekkkkfaaNew
import Derived.Test.YtclfklpekkkkfaaSort
import Derived.Sort.OwnSortedInts
namespace Go.Proofs.Ytclfklpekkkkfaa
open Go.RowKit Go.Maps Go.Sort

/-- no key twice; a key is on the list just where the map has it and it is no longer to come. -/
def Coll (D : DataW Unit) (left : Lit → Bool) (zs : List Int) : Prop := zs.Nodup ∧ ∀ x, x ∈ zs ↔ (Maps.has D (.int .i64 x) = true ∧ left (.int .i64 x) = false)
theorem Coll.start (D : DataW Unit) : Coll D (Maps.has D) [] := ⟨List.nodup_nil, fun x => by cases Maps.has D (.int .i64 x) <;> simp⟩
theorem sameKey_int (x y : Int) : (Lit.int .i64 y).sameKey (.int .i64 x) = decide (y = x) := by
  by_cases h : y = x
  · subst h; simp [WideAt.sameKey_self (isKey_int y)]
  · rw [Maps.sameKey_ne (fun e => h (by cases e; rfl))]; simp [h]
theorem Coll.step {D : DataW Unit} {left : Lit → Bool} {zs : List Int} (h : Coll D left zs) {x : Int} {y : DataW Unit} (hlk : left (.int .i64 x) = true) (hat : ∀ zd, D.atKey (.int .i64 x) zd = y) :
    Coll D (fun z => left z && !z.sameKey (.int .i64 x)) (zs ++ [x]) := by
  have hhas : Maps.has D (.int .i64 x) = true := has_true_of_atKey hat
  have hnew : x ∉ zs := fun hx => by have := ((h.2 x).1 hx).2; rw [hlk] at this; cases this
  refine ⟨List.nodup_append.2 ⟨h.1, by simp, fun a ha b hb => by simp at hb; subst hb; exact fun e => hnew (e ▸ ha)⟩, fun y => ?_⟩
  by_cases hy : y = x
  · subst hy; simp [hhas, sameKey_int]
  · simp [h.2 y, hy, sameKey_int]

theorem info3 : (Try.prog.info? 3).map (fun i => (i.zero, i.size, i.bytes)) = some (some (.int .i64 0), 1, 8) := by kernel_rfl

theorem invK3 (key : Value) (kl : Lit) (hk : keyOf Try.prog 3 key = some kl) : ∃ x, key = Value.int .i64 x := by
  obtain ⟨x, rfl, _⟩ := Maps.keyOf_int_inv Try.underlying3 hk; exact ⟨x, rfl⟩
theorem invVp (v : Value) (y : DataW Unit × List MemPlace) (hv : pendElem v = some y) : ∃ s : ByteArray, v = Value.agg #[.string s] := by
  obtain ⟨s, rfl, _⟩ := pendElem_inv hv; exact ⟨s, rfl⟩

/-- the numbers of the loose blocks of σ. -/
def LooseOf (σ : St) (zs : List Int) : Prop := zs.Nodup ∧ (∀ i, i ∈ zs ↔ σ.loose i ≠ none) ∧ zs.Pairwise (· ≤ ·)

set_option maxRecDepth 100000 in
set_option maxHeartbeats 1000000 in
theorem loose_any (p pd pm : Nat) (σ : St) (w : World) (h : SlabAt w p pd pm σ) :
    Calls Try.prog 17 #[.pointer (some ⟨p, 0, none⟩)] w fun e w' => ∃ (g cap : Nat) (zs : List Int), e = .returned (.slice (some ⟨g, 0, none⟩) zs.length cap) ∧ LooseOf σ zs ∧ zs.length ≤ 1000 ∧
      w'.ownsRow w.heap.size 3 1 (.slice (some ⟨g, 0, none⟩) zs.length cap) zs.length (zs.map (Value.int .i64)) ∧ Below w.heap.size w w' := by
  obtain ⟨i0, hi, hz0, hz1, hz2⟩ := info_parts info3
  have c1 := h.c1
  obtain ⟨D, hown, hL⟩ := h.hm
  have hbl := hown.lt
  have hsz := hown.size_le
  have hps := h.lt_p
  have HL := Lib.hid hL
  have H := Lib.hid h
  have c1a : ∀ w1 : World, w.grownBy w1 none → w1.cell? ⟨p, 1, none⟩ = some (.map (some pm)) := fun w1 hg => hg.cell c1 (by simp)
  have HC := Lib.hid c1a
  clear h hL c1a
  go_enter Try.func17, Try.ntmps17
  go_wp2_with (first
    | (at_len; refine wpList_len_own _ rfl _ 54 rfl 3 60 Try.underlying54 _ pm 1000 D rfl hown ?_)
    | (at_make; refine wpList_make_own _ rfl _ _ 38 rfl w.heap.size 3 i0 (.int .i64 0) 1 Try.underlying38 hi hz0 hz1 _ _ _ (Maps.size D) rfl rfl rfl (by rw [hz2]; omega) (by unfold maxLen; omega) (Nat.le_refl _) ?_; intro w1 hrow1 hg1; have c11 := HC.out w1 hg1)
    | (at_range; refine wpList_range_own _ rfl _ 54 rfl 3 60 law3 Try.underlying54 _ pm 1000 D rfl (hown.kept hg1 (by simp)) ?_; intro w0 hrg0 hg0 hs0)
    | go_in)
  go_frame
  go_loopw [3] (fun v wr => ∃ (left : Lit → Bool) (cnt : Nat) (zs : List Int), wr.ranges Try.prog 3 pendElem pm w1.heap.size 1000 D left cnt ∧ zs.length + cnt ≤ Maps.size D ∧
      wr.ownsRow w.heap.size 3 1 v zs.length (zs.map (Value.int .i64)) ∧ v ≠ .slice none 0 0 ∧ Coll D left zs ∧ Below w.heap.size w wr)
    (fun _ wr => wr.rangeLeft pm w1.heap.size)
  case atStart =>
    exact ⟨_, _, [], hrg0, by simp, hrow1.kept hg0 (Or.inr (by simp [Value.ownBlock])), by simp, Coll.start D,
      ((Below.refl _ _).grown hg1 (Nat.le_refl _) (fun j hj => by cases hj)).grown hg0 hg1.size (fun j hj => by cases hj)⟩
  case round =>
    obtain ⟨left, cnt, zs, hrg, hcs, hrow, hnn, hC, hnx⟩ := hrel
    go_wp2_with (first
      | (at_next; refine wpList_next_ranges _ rfl _ rfl 3 law3 pendElem (Value.int .i64) (fun s : ByteArray => Value.agg #[.string s]) invK3 invVp pm w1.heap.size 1000 _ _ _ rfl hrg ?_ ?_)
      | go_in)
    · intro hc0 hl0
      rcases hrow.2 with ⟨hnil, _⟩ | ⟨g, cap, cur, rfl, hbase, hb, h1, h2, h3, h4⟩
      · exact absurd hnil hnn
      have hH : Holds (Value.int .i64) wr g 0 zs.toArray := holds_of_blockI hb (by simpa using h4)
      have hgl : g < wr.heap.size := (Array.getElem?_eq_some_iff.1 hb).1
      have hc := sort_any g 0 cap zs wr hH hgl (by omega)
      go_wp2_with (go_at_call 28; refine hc.mono ?_; rintro e w' ⟨rfl, nn, os, rfl⟩)
      go_ret
      refine ⟨g, cap, zs.mergeSort (fun x y => decide (x ≤ y)), by simp, ⟨?_, fun i => ?_, ?_⟩, by simp; omega, ?_, hnx.grown (grownBy_sortedI _) hnx.size (fun j hj => by cases hj; exact hbase)⟩
      · exact (List.mergeSort_perm zs _).nodup_iff.2 hC.1
      · rw [(List.mergeSort_perm zs _).mem_iff, hC.2 i, hl0, ← lk_has, HL.out i]
        cases σ.loose i <;> simp
      · have := List.pairwise_mergeSort (le := fun x y : Int => decide (x ≤ y)) (fun a b c h1 h2 => by simp at *; omega) (fun a b => by simp; omega) zs
        exact this.imp (fun h => by simpa using h)
      · have := ownsRow_sortedI (ss := zs) (ts := zs.mergeSort (fun x y => decide (x ≤ y))) (n := nn) (os := os) (by simp) hbase hb h1 h2 h3
        simpa using this
    · intro x c kl yd yp w2 cnt2 hkey hlk hv hat hrg2 hlt hg2 hs2 hen
      obtain ⟨x', ex, rfl, _⟩ := Maps.keyOf_int_inv Try.underlying3 hkey
      obtain rfl : x = x' := by cases ex; rfl
      have hrow2 := hrow.kept hg2 (Or.inr (row_ne_iter hrow hrg).symm)
      clear hs2
      go_wp2_with (first
        | (at_builtin; refine wpList_append_own _ rfl _ _ 38 rfl w.heap.size 3 i0 (.int .i64 0) 1 8 Try.underlying38 hi hz0 hz1 hz2 rfl (by decide) _ _ _ rfl (hrow2.alloc _) ⟨w2.heap.size, 0, none⟩ 1 1 [.int .i64 x] rfl rfl (cell_one_new _ _ _) (by simp [Value.oneCell']) (by unfold maxLen at *; omega) (by omega) (by have := hnx.size; have := hg2.size; simp; omega) ?_; intro v' w3 hown' hg3 hnil3; go_frame)
        | go_in)
      have hrg3 := (hrg2.alloc _).kept hg3 (row_ne_low hrow2 hbl) (row_ne_iter hrow2 hrg2)
      go_roundw
      case rel =>
        refine ⟨_, cnt2, zs ++ [x], hrg3, by simp; omega, by simpa using hown', fun hv' => by have := (hnil3.1 hv').2; omega, hC.step hlk hat, ?_⟩
        exact ((hnx.grown hg2 hnx.size (fun j hj => by cases hj; exact hg1.size)).alloc (by have := hnx.size; have := hg2.size; omega) _).grown hg3 (by have := hnx.size; have := hg2.size; simp; omega) (fun j hj => (hrow2.lt j hj).1)
      case measure => rw [hrg3.left_eq, hrg.left_eq]; exact hlt

set_option maxHeartbeats 1000000 in
theorem loose_nil (w : World) : Calls Try.prog 17 #[.pointer none] w fun e w' => e = .returned (.slice none 0 0) ∧ w = w' := by
  go_enter Try.func17, Try.ntmps17
  go_wp2
  go_ret
  exact ⟨rfl, rfl⟩
end Go.Proofs.Ytclfklpekkkkfaa
