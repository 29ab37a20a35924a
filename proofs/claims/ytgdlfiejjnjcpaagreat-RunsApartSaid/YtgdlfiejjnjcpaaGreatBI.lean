/-
  WORDS: append of one span at a step of a region that draws; a card laid into a block of its own (nine stores). No condition.
  WALK: cardOf returns the card whose numbers a text of 32 bytes has, format Two. Condition: the text has 32 bytes.
-/
import Derived.Test.YtgdlfiejjnjcpaaGreatBH
namespace Go.Proofs.YtgdlfiejjnjcpaaGreat
open Go.RowKit

set_option maxRecDepth 100000 in
theorem one_sp (s : Sp) : ∀ u ∈ spCells s, u.oneCell' = true := by simp [spCells, Value.oneCell']
set_option maxRecDepth 100000 in
/-- 'append(l, s)' of spans, at a step of a region that draws its order. -/
theorem step_push {ops : Array Oper} {o : Oper} {a : Act} {K : Act → World → Prop} {Q : Exit → Act → World → Prop} {E : Prop} (hgd : o.guard = none) (s x : Operand)
    (ho : o.op = .call { callee := .builtin .append, args := #[s, x], argTypes := #[28, 28] })
    (base : Nat) (W : World) (v : Value) (l : List Sp) (sp : Sp) (hs : a.eval s = v) (hx : a.eval x = .slice (some ⟨W.heap.size, 0, none⟩) 1 1)
    (hown : W.ownsRow base 85 3 v l.length (spsCells l)) (hl : l.length ≤ 100000) (hbase : base ≤ W.heap.size)
    (h : ∀ v' w', w'.ownsRow base 85 3 v' (l ++ [sp]).length (spsCells (l ++ [sp])) → Below base W w' → K (a.put o.dst v') w') :
    if Region.wanted o (yielded ops a.tmps) = true then Oper.wp Tryz.prog o a (W.alloc (.cells #[.int .i64 sp.at_, .int .i64 sp.st, .int .i64 sp.len] 85)) K Q else E := by
  have hw : Region.wanted o (yielded ops a.tmps) = true := by simp [Region.wanted, hgd]
  rw [if_pos hw]
  obtain ⟨i0, hi, hz0, hz1, hz2⟩ := info_parts info48
  refine wp_append_own _ s x 28 ho base 85 i0 _ 3 24 Tryz.underlying28 hi hz0 hz1 hz2 rfl (by decide) v l.length (spsCells l) hs (hown.alloc _) ⟨W.heap.size, 0, none⟩ 1 1 (spCells sp) hx rfl
    (World.news_of_block (heap_alloc_new W _)) (one_sp sp) (by unfold maxLen; omega) (by omega) (by simp; omega) ?_
  intro v' w' hown' hg _
  refine h v' w' ?_ ?_
  · rw [spsCells_snoc, List.length_append]; exact hown'
  · exact (((Below.refl base W).alloc hbase _).grown hg (by simp; omega) (fun k hk => (hown.lt k hk).1))

set_option maxRecDepth 100000 in
theorem own_sps {w : World} {base : Nat} {v : Value} {n : Nat} {xs : List Value} (h : w.ownsRow base 85 3 v n xs) : ∃ A c, v = .slice A n c ∧ n ≤ c := by
  rcases h.2 with ⟨rfl, h0⟩ | ⟨g, cap, cur, rfl, _, _, hc, _⟩
  · have : n = 0 := by have := h.1; omega
    subst this
    exact ⟨none, 0, rfl, Nat.le_refl _⟩
  · exact ⟨_, cap, rfl, by omega⟩

/-- the world behind nine stores into block r. -/
def put9 (w : World) (r : Nat) (c : Cd) (A : Option Addr) (n k : Nat) (A' : Option Addr) (n' k' : Nat) : World :=
  (((((((((w.setCell ⟨r, 0, none⟩ (.int .i64 c.fm)).setCell ⟨r, 1, none⟩ (.int .i64 c.kd)).setCell ⟨r, 2, none⟩ (.int .i64 c.ln)).setCell ⟨r, 3, none⟩ (.int .i64 c.sz)).setCell ⟨r, 4, none⟩ (.slice A n k)).setCell ⟨r, 5, none⟩ (.int .i64 c.sg)).setCell ⟨r, 6, none⟩ (.int .i64 c.db)).setCell ⟨r, 7, none⟩ (.slice A' n' k')).setCell ⟨r, 8, none⟩ (.int .i64 c.ov))
section
variable {w : World} {r : Nat} {c : Cd} {A : Option Addr} {n k : Nat} {A' : Option Addr} {n' k' : Nat}
set_option maxRecDepth 100000 in
theorem put9_row {c0 : Cd} {B0 : Option Addr} {m0 l0 : Nat} {B1 : Option Addr} {m1 l1 : Nat} (h : CdRow w r c0 B0 m0 l0 B1 m1 l1) : CdRow (put9 w r c A n k A' n' k') r c A n k A' n' k' := by
  unfold CdRow cells9 at h
  generalize Value.int .i64 c0.fm = a0 at h
  generalize Value.int .i64 c0.kd = a1 at h
  generalize Value.int .i64 c0.ln = a2 at h
  generalize Value.int .i64 c0.sz = a3 at h
  generalize Value.slice B0 m0 l0 = a4 at h
  generalize Value.int .i64 c0.sg = a5 at h
  generalize Value.int .i64 c0.db = a6 at h
  generalize Value.slice B1 m1 l1 = a7 at h
  generalize Value.int .i64 c0.ov = a8 at h
  unfold put9
  have h : (w.setCell ⟨r, 0, none⟩ (.int .i64 c.fm)).heap[r]? = some (.cells #[.int .i64 c.fm, a1, a2, a3, a4, a5, a6, a7, a8] 30 (0, 0)) := row_set h rfl
  generalize (w.setCell ⟨r, 0, none⟩ (.int .i64 c.fm)) = w at *
  have h : (w.setCell ⟨r, 1, none⟩ (.int .i64 c.kd)).heap[r]? = some (.cells #[.int .i64 c.fm, .int .i64 c.kd, a2, a3, a4, a5, a6, a7, a8] 30 (0, 0)) := row_set h rfl
  generalize (w.setCell ⟨r, 1, none⟩ (.int .i64 c.kd)) = w at *
  have h : (w.setCell ⟨r, 2, none⟩ (.int .i64 c.ln)).heap[r]? = some (.cells #[.int .i64 c.fm, .int .i64 c.kd, .int .i64 c.ln, a3, a4, a5, a6, a7, a8] 30 (0, 0)) := row_set h rfl
  generalize (w.setCell ⟨r, 2, none⟩ (.int .i64 c.ln)) = w at *
  have h : (w.setCell ⟨r, 3, none⟩ (.int .i64 c.sz)).heap[r]? = some (.cells #[.int .i64 c.fm, .int .i64 c.kd, .int .i64 c.ln, .int .i64 c.sz, a4, a5, a6, a7, a8] 30 (0, 0)) := row_set h rfl
  generalize (w.setCell ⟨r, 3, none⟩ (.int .i64 c.sz)) = w at *
  have h : (w.setCell ⟨r, 4, none⟩ (.slice A n k)).heap[r]? = some (.cells #[.int .i64 c.fm, .int .i64 c.kd, .int .i64 c.ln, .int .i64 c.sz, .slice A n k, a5, a6, a7, a8] 30 (0, 0)) := row_set h rfl
  generalize (w.setCell ⟨r, 4, none⟩ (.slice A n k)) = w at *
  have h : (w.setCell ⟨r, 5, none⟩ (.int .i64 c.sg)).heap[r]? = some (.cells #[.int .i64 c.fm, .int .i64 c.kd, .int .i64 c.ln, .int .i64 c.sz, .slice A n k, .int .i64 c.sg, a6, a7, a8] 30 (0, 0)) := row_set h rfl
  generalize (w.setCell ⟨r, 5, none⟩ (.int .i64 c.sg)) = w at *
  have h : (w.setCell ⟨r, 6, none⟩ (.int .i64 c.db)).heap[r]? = some (.cells #[.int .i64 c.fm, .int .i64 c.kd, .int .i64 c.ln, .int .i64 c.sz, .slice A n k, .int .i64 c.sg, .int .i64 c.db, a7, a8] 30 (0, 0)) := row_set h rfl
  generalize (w.setCell ⟨r, 6, none⟩ (.int .i64 c.db)) = w at *
  have h : (w.setCell ⟨r, 7, none⟩ (.slice A' n' k')).heap[r]? = some (.cells #[.int .i64 c.fm, .int .i64 c.kd, .int .i64 c.ln, .int .i64 c.sz, .slice A n k, .int .i64 c.sg, .int .i64 c.db, .slice A' n' k', a8] 30 (0, 0)) := row_set h rfl
  generalize (w.setCell ⟨r, 7, none⟩ (.slice A' n' k')) = w at *
  have h : (w.setCell ⟨r, 8, none⟩ (.int .i64 c.ov)).heap[r]? = some (.cells #[.int .i64 c.fm, .int .i64 c.kd, .int .i64 c.ln, .int .i64 c.sz, .slice A n k, .int .i64 c.sg, .int .i64 c.db, .slice A' n' k', .int .i64 c.ov] 30 (0, 0)) := row_set h rfl
  generalize (w.setCell ⟨r, 8, none⟩ (.int .i64 c.ov)) = w at *
  exact h
set_option maxRecDepth 100000 in
theorem put9_below {B : Nat} {w0 : World} (h : Below B w0 w) (hr : B ≤ r) : Below B w0 (put9 w r c A n k A' n' k') := by
  unfold put9
  exact ((((((((h.setCell (p := ⟨r, 0, none⟩) hr _).setCell (p := ⟨r, 1, none⟩) hr _).setCell (p := ⟨r, 2, none⟩) hr _).setCell (p := ⟨r, 3, none⟩) hr _).setCell (p := ⟨r, 4, none⟩) hr _).setCell (p := ⟨r, 5, none⟩) hr _).setCell (p := ⟨r, 6, none⟩) hr _).setCell (p := ⟨r, 7, none⟩) hr _).setCell (p := ⟨r, 8, none⟩) hr _
set_option maxRecDepth 100000 in
theorem put9_other {q : Nat} (h : q ≠ r) : (put9 w r c A n k A' n' k').heap[q]? = w.heap[q]? := by
  have key : ∀ (w : World) (j : Nat) (v : Value), (w.setCell ⟨r, j, none⟩ v).heap[q]? = w.heap[q]? := fun w j v => by
    show (w.heap.modify r _)[q]? = _
    rw [Array.getElem?_modify, if_neg (by omega)]
  unfold put9
  rw [key, key, key, key, key, key, key, key, key]
set_option maxRecDepth 100000 in
theorem put9_size : (put9 w r c A n k A' n' k').heap.size = w.heap.size := by
  unfold put9; simp
set_option maxRecDepth 100000 in
theorem put9_own {base m sz : Nat} {e : TypeId} {v : Value} {xs : List Value} (h : w.ownsRow base e sz v m xs) (hq : r < base) : (put9 w r c A n k A' n' k').ownsRow base e sz v m xs := by
  unfold put9
  exact own_set (own_set (own_set (own_set (own_set (own_set (own_set (own_set (own_set h _ _ _ hq) _ _ _ hq) _ _ _ hq) _ _ _ hq) _ _ _ hq) _ _ _ hq) _ _ _ hq) _ _ _ hq) _ _ _ hq
set_option maxRecDepth 100000 in
/-- a card laid into block r: other blocks are as they were. -/
theorem CdAt.put9 {B : Nat} {v : Value} {c' : Cd} (h : CdAt w B v c') (hB : B ≤ r) : CdAt (put9 w r c A n k A' n' k') B v c' :=
  h.below (C := r) (put9_below (Below.refl r w) (Nat.le_refl r)) hB
end
end Go.Proofs.YtgdlfiejjnjcpaaGreat

namespace Go.Proofs.YtgdlfiejjnjcpaaGreat
open Go.RowKit

set_option maxRecDepth 100000 in
theorem runsD_succ (bs : List Int) (j : Nat) : runsD bs (j + 1) = runsD bs j ++ [runD bs j] := by simp [runsD, List.range_succ]
set_option maxRecDepth 100000 in
theorem runsD_len (bs : List Int) (j : Nat) : (runsD bs j).length = j := by simp [runsD]
set_option maxRecDepth 100000 in
theorem runsD_fit (bs : List Int) (hF : ∀ a n, n ≤ 4 → Fit (decF bs a n)) (j : Nat) : ∀ s ∈ runsD bs j, s.fit := by
  intro s hs
  obtain ⟨i, _, rfl⟩ := List.mem_map.1 hs
  exact ⟨hF _ _ (by omega), hF _ _ (by omega), hF _ _ (by omega)⟩
/-- what is so at the head of the loop over the runs. -/
def RunSt (w : World) (bs : List Int) (b o g m : Nat) (kd ln sz : Int) (u7 u58 : Value) (wr : World) : Prop :=
  ∃ j q n7 c7 A' k', j ≤ m ∧ u7 = .slice (some ⟨b, q, none⟩) n7 c7 ∧ u58 = .int .i64 (j : Int) ∧ Hid (q = o + 5 + 3 * j) ∧ n7 + 3 * j = 10 ∧ n7 ≤ c7 ∧
    CdRow wr g ⟨2, kd, ln, sz, [], 0, 0, [], 0⟩ none 0 0 A' j k' ∧ wr.ownsRow (g + 1) 85 3 (.slice A' j k') j (spsCells (runsD bs j)) ∧ CdRow wr w.heap.size zeroC none 0 0 none 0 0 ∧
    Hid (∀ k, k < 15 → wr.cell? ⟨b, o + k, none⟩ = some (.int .i64 ((fields2 bs).getD k 0))) ∧ Below w.heap.size w wr

section
variable {wr : World} {bs : List Int} {b o j : Nat}
set_option maxRecDepth 100000 in
theorem fld_run0 (h : ∀ k, k < 15 → wr.cell? ⟨b, o + k, none⟩ = some (.int .i64 ((fields2 bs).getD k 0))) (hj : j < 3) : wr.cell? ⟨b, o + (5 + 3 * j), none⟩ = some (.int .i64 (decF bs (9 + 6 * j) 2)) := by
  rw [h _ (by omega)]
  have : j = 0 ∨ j = 1 ∨ j = 2 := by omega
  rcases this with rfl | rfl | rfl <;> rfl
set_option maxRecDepth 100000 in
theorem fld_run1 (h : ∀ k, k < 15 → wr.cell? ⟨b, o + k, none⟩ = some (.int .i64 ((fields2 bs).getD k 0))) (hj : j < 3) : wr.cell? ⟨b, o + (6 + 3 * j), none⟩ = some (.int .i64 (decF bs (11 + 6 * j) 2)) := by
  rw [h _ (by omega)]
  have : j = 0 ∨ j = 1 ∨ j = 2 := by omega
  rcases this with rfl | rfl | rfl <;> rfl
set_option maxRecDepth 100000 in
theorem fld_run2 (h : ∀ k, k < 15 → wr.cell? ⟨b, o + k, none⟩ = some (.int .i64 ((fields2 bs).getD k 0))) (hj : j < 3) : wr.cell? ⟨b, o + (7 + 3 * j), none⟩ = some (.int .i64 (decF bs (13 + 6 * j) 2)) := by
  rw [h _ (by omega)]
  have : j = 0 ∨ j = 1 ∨ j = 2 := by omega
  rcases this with rfl | rfl | rfl <;> rfl
end

end Go.Proofs.YtgdlfiejjnjcpaaGreat
