/-
  WORDS OF MEMORY for the proofs over layer 8: entries joined, a slice of slices of entries that reads as pages, a row of pages of the call's own. No condition.
-/
import Derived.Test.YtflijnhgonigjaaPCmp
import Derived.Deep.RegionLaw
import Derived.Deep.CutRange
namespace Go.Proofs.Ytflijnhgonigjaa
open Go.RowKit

theorem run_append_of_nil {P : Program} (w : World) (base : Nat) (t ty e : TypeId) (i : TypeInfo) (size : Nat) (ht : P.underlying t = some (.slice e)) (hi : P.info? e = some i)
    (v : Value) (n : Nat) (xs : List Value) (hown : w.ownsRow base e size v n xs) (c : Nat) : (Builtin.append_ #[t, t] ty #[v, .slice none 0 c]).run P w = .ok v w := by
  rcases hown.2 with ⟨rfl, rfl⟩ | ⟨g, cap, cur, rfl, _, _, hnc, _⟩
  · simp [Builtin.append_, run_underlying ht, sizeOf, typeInfo, hi, Builtin.lenOf, Builtin.firstCells]
  · simp [Builtin.append_, run_underlying ht, sizeOf, typeInfo, hi, Builtin.lenOf, Builtin.firstCells, hnc, storeCells]
theorem ensCells_append (a b : List En) : ensCells (a ++ b) = ensCells a ++ ensCells b := by simp [ensCells]
theorem ensCells_one (l : List En) : ∀ u ∈ ensCells l, u.oneCell' = true := by
  intro u hu
  obtain ⟨s, _, hs⟩ := List.mem_flatMap.1 hu
  exact one_en s u hs
theorem EnsAt.news {w : World} {B : Nat} {ad : Addr} {m : Nat} {l : List En} (h : EnsAt w B (some ad) m l) : ∀ j u, (ensCells l)[j]? = some u → w.cell? (ad.add j) = some u := by
  intro j u hj
  have hlt : j < (ensCells l).length := (List.getElem?_eq_some_iff.1 hj).1
  rw [ensCells_len] at hlt
  obtain ⟨k, e⟩ : ∃ k, j = k * 2 ∨ j = k * 2 + 1 := ⟨j / 2, by omega⟩
  have hk : k < l.length := by omega
  obtain ⟨b, o, e1, _, h1, h2⟩ := h.at_ (k := k) (by rw [← h.len]; exact hk)
  obtain ⟨c1, c2⟩ := ensCells_at l k hk
  injection e1 with e1
  subst e1
  rw [Go.WideShapes.add_plain]
  rcases e with rfl | rfl
  · rw [h1, ← c1, hj]
  · rw [show o + (k * 2 + 1) = o + k * 2 + 1 by omega, h2, ← c2, hj]

/-- 'append(l, m...)' of entries, at the list of a plain region's operations. -/
theorem join_law {ops : Array Oper} {rest : List Oper} {o : Oper} {a : Act} {Q : Exit → Act → World → Prop} (hgd : o.guard = none) (s x : Operand)
    (ho : o.op = .call { callee := .builtin .append, args := #[s, x], argTypes := #[27, 27] })
    (base : Nat) (W : World) (v : Value) (l : List En) (hs : a.eval s = v) (B : Nat) (A : Option Addr) (m c : Nat) (l2 : List En) (hx : a.eval x = .slice A m c)
    (hown : W.ownsRow base 47 2 v l.length (ensCells l)) (hA : EnsAt W B A m l2) (hl : l.length + m ≤ 100000) (hbase : base ≤ W.heap.size)
    (h : ∀ v' w', w'.ownsRow base 47 2 v' (l ++ l2).length (ensCells (l ++ l2)) → Below base W w' → wpList Try.prog ops Q rest (a.put o.dst v') w') :
    wpList Try.prog ops Q (o :: rest) a W := by
  obtain ⟨i0, hi, hz0, hz1, hz2⟩ := info_parts info43
  cases A with
  | none =>
    have hm : m = 0 := by
      rcases Nat.eq_zero_or_pos m with h0 | h0
      · exact h0
      · obtain ⟨b, o, e, _⟩ := hA.at_ h0; cases e
    subst hm
    have hl2 : l2 = [] := List.eq_nil_of_length_eq_zero hA.len
    subst hl2
    refine wpList_plain hgd fun K hK => ?_
    have hrun := run_append_of_nil (P := Try.prog) W base 27 o.type 47 i0 2 Try.underlying27 hi v l.length (ensCells l) hown c
    unfold Oper.wp
    simp [execOp, ho, resolve, invoke, builtin, hs, hx, hrun, Result.andThen]
    exact hK _ _ (h v W (by rw [List.append_nil]; exact hown) (Below.refl _ _))
  | some ad =>
    refine wpList_append_own _ hgd s x 27 ho base 47 i0 _ 2 24 Try.underlying27 hi hz0 hz1 hz2 rfl (by decide) v l.length (ensCells l) hs hown ad m c (ensCells l2) hx (by rw [ensCells_len, hA.len])
      hA.news (ensCells_one l2) (by unfold maxLen; omega) (by omega) hbase ?_
    intro v' w' hown' hg _
    refine h v' w' ?_ ?_
    · rw [ensCells_append, List.length_append, hA.len]; exact hown'
    · exact (Below.refl base W).grown hg hbase (fun k hk => (hown.lt k hk).1)

theorem EnsAt.drop {w : World} {B b o n : Nat} {l : List En} (h : EnsAt w B (some ⟨b, o, none⟩) n l) (k : Nat) : EnsAt w B (some ⟨b, o + k * 2, none⟩) (n - k) (l.drop k) := by
  refine ⟨by rw [List.length_drop, h.len], fun e he => h.2.1 e (List.mem_of_mem_drop he), fun j hj => ?_⟩
  obtain ⟨b', o', e, hb, h1, h2⟩ := h.at_ (k := k + j) (by omega)
  injection e with e
  injection e with e1 e2
  subst e1 e2
  have e3 : (l.drop k).getD j En.z = l.getD (k + j) En.z := by simp [List.getD, List.getElem?_drop]
  rw [e3]
  exact ⟨b, o + k * 2, rfl, hb, by rw [show o + k * 2 + j * 2 = o + (k + j) * 2 by omega]; exact h1, by rw [show o + k * 2 + j * 2 + 1 = o + (k + j) * 2 + 1 by omega]; exact h2⟩

/-- 'append(l, m...)' of entries, at a step of a region that draws its order. -/
theorem step_join {ops : Array Oper} {o : Oper} {a : Act} {K : Act → World → Prop} {Q : Exit → Act → World → Prop} {E : Prop} (hgd : o.guard = none) (s x : Operand)
    (ho : o.op = .call { callee := .builtin .append, args := #[s, x], argTypes := #[27, 27] })
    (base : Nat) (W : World) (v : Value) (l : List En) (hs : a.eval s = v) (B : Nat) (A : Option Addr) (m c : Nat) (l2 : List En) (hx : a.eval x = .slice A m c)
    (hown : W.ownsRow base 47 2 v l.length (ensCells l)) (hA : EnsAt W B A m l2) (hl : l.length + m ≤ 100000) (hbase : base ≤ W.heap.size)
    (h : ∀ v' w', w'.ownsRow base 47 2 v' (l ++ l2).length (ensCells (l ++ l2)) → Below base W w' → K (a.put o.dst v') w') :
    if Region.wanted o (yielded ops a.tmps) = true then Oper.wp Try.prog o a W K Q else E := by
  have hw : Region.wanted o (yielded ops a.tmps) = true := by simp [Region.wanted, hgd]
  rw [if_pos hw]
  obtain ⟨i0, hi, hz0, hz1, hz2⟩ := info_parts info43
  cases A with
  | none =>
    have hm : m = 0 := by
      rcases Nat.eq_zero_or_pos m with h0 | h0
      · exact h0
      · obtain ⟨b, o, e, _⟩ := hA.at_ h0; cases e
    subst hm
    have hl2 : l2 = [] := List.eq_nil_of_length_eq_zero hA.len
    subst hl2
    have hrun := run_append_of_nil (P := Try.prog) W base 27 o.type 47 i0 2 Try.underlying27 hi v l.length (ensCells l) hown c
    unfold Oper.wp
    simp [execOp, ho, resolve, invoke, builtin, hs, hx, hrun, Result.andThen]
    exact h v W (by rw [List.append_nil]; exact hown) (Below.refl _ _)
  | some ad =>
    refine wp_append_own _ s x 27 ho base 47 i0 _ 2 24 Try.underlying27 hi hz0 hz1 hz2 rfl (by decide) v l.length (ensCells l) hs hown ad m c (ensCells l2) hx (by rw [ensCells_len, hA.len])
      hA.news (ensCells_one l2) (by unfold maxLen; omega) (by omega) hbase ?_
    intro v' w' hown' hg _
    refine h v' w' ?_ ?_
    · rw [ensCells_append, List.length_append, hA.len]; exact hown'
    · exact (Below.refl base W).grown hg hbase (fun k hk => (hown.lt k hk).1)

/-! ### pages -/
theorem own_base {w : World} {b b' n sz : Nat} {e : TypeId} {v : Value} {xs : List Value} (h : w.ownsRow b e sz v n xs) (hb : b' ≤ b) : w.ownsRow b' e sz v n xs := ⟨h.1, by
  rcases h.2 with h | ⟨g, cap, cur, h1, h2, h3⟩
  · exact Or.inl h
  · exact Or.inr ⟨g, cap, cur, h1, Nat.le_trans hb h2, h3⟩⟩
theorem info27 : (Try.prog.info? 27).map (fun i => (i.zero, i.size, i.bytes)) = some (some (.slice none 0 0), 1, 24) := by kernel_rfl
/-- The slice at A with n elements reads as the pages p, and lies below block B, its pages too. -/
def PgsAt (w : World) (B : Nat) (A : Option Addr) (n : Nat) (p : Pg) : Prop :=
  p.length = n ∧ ∀ k, k < n → ∃ b o A' c, A = some ⟨b, o, none⟩ ∧ b < B ∧ w.cell? ⟨b, o + k, none⟩ = some (.slice A' (p.getD k []).length c) ∧ (p.getD k []).length ≤ c ∧ EnsAt w B A' (p.getD k []).length (p.getD k [])
section
variable {w w' : World} {B B' : Nat} {A : Option Addr} {n : Nat} {p : Pg}
theorem PgsAt.len (h : PgsAt w B A n p) : p.length = n := h.1
theorem PgsAt.at_ (h : PgsAt w B A n p) {k : Nat} (hk : k < n) :
    ∃ b o A' c, A = some ⟨b, o, none⟩ ∧ b < B ∧ w.cell? ⟨b, o + k, none⟩ = some (.slice A' (p.getD k []).length c) ∧ (p.getD k []).length ≤ c ∧ EnsAt w B A' (p.getD k []).length (p.getD k []) := h.2 k hk
theorem PgsAt.keep (h : PgsAt w B A n p) (hk : ∀ a : Addr, a.block < B → w'.cell? a = w.cell? a) : PgsAt w' B A n p :=
  ⟨h.1, fun k hkn => by
    obtain ⟨b, o, A', c, e, hb, hc, hl, hE⟩ := h.2 k hkn
    exact ⟨b, o, A', c, e, hb, (hk _ hb).trans hc, hl, hE.keep hk⟩⟩
theorem PgsAt.more (h : PgsAt w B A n p) (hB : B ≤ B') : PgsAt w B' A n p :=
  ⟨h.1, fun k hkn => by
    obtain ⟨b, o, A', c, e, hb, hc, hl, hE⟩ := h.2 k hkn
    exact ⟨b, o, A', c, e, by omega, hc, hl, hE.more hB⟩⟩
theorem PgsAt.below {C : Nat} (h : PgsAt w B A n p) (hb : Below C w w') (hBC : B ≤ C) : PgsAt w' B A n p := h.keep fun _ hp => hb.cell (by omega)
theorem PgsAt.to (h : PgsAt w w.heap.size A n p) (hb : Below w.heap.size w w') : PgsAt w' w'.heap.size A n p := (h.below hb (Nat.le_refl _)).more hb.size
theorem PgsAt.nil (w : World) (B : Nat) (A : Option Addr) : PgsAt w B A 0 [] := ⟨rfl, fun k hk => by omega⟩
theorem PgsAt.take (h : PgsAt w B A n p) (m : Nat) (hm : m ≤ n) : PgsAt w B A m (p.take m) :=
  ⟨by rw [List.length_take, h.1]; omega, fun k hk => by
    have e1 : (p.take m).getD k [] = p.getD k [] := by simp [List.getD, List.getElem?_take_of_lt hk]
    rw [e1]
    exact h.2 k (by omega)⟩
/-- every entry of pages that lie somewhere fits. -/
theorem PgsAt.fits (h : PgsAt w B A n p) : ∀ l ∈ p, ∀ e ∈ l, e.fit := by
  intro l hl e he
  obtain ⟨k, hk, rfl⟩ := List.getElem_of_mem hl
  obtain ⟨b, o, A', c, -, -, -, -, hE⟩ := h.2 k (by rw [← h.1]; exact hk)
  rw [pg_getD hk] at hE
  exact hE.2.1 e he
theorem PgsAt.fit (h : PgsAt w B A n p) : ∀ e ∈ p.flatten, e.fit := by
  intro e he
  obtain ⟨l, hl, hel⟩ := List.mem_flatten.1 he
  exact h.fits l hl e hel
end

/-- the address A lies in another block than v. -/
def Off (A : Option Addr) (v : Value) : Prop := ∀ a, A = some a → v.ownBlock ≠ some a.block
theorem Off.nil (A : Option Addr) : Off A (.slice none 0 0) := fun a _ h => by cases h
theorem Off.none (v : Value) : Off none v := fun a h => by cases h
/-- a slice of entries, its length known, that lies apart from v. -/
def SlE (w : World) (B : Nat) (v : Value) (x : Value) (l : List En) : Prop := ∃ A c, x = .slice A l.length c ∧ l.length ≤ c ∧ EnsAt w B A l.length l ∧ (0 < l.length → Off A v)
def PgV (w : World) (B : Nat) (v : Value) (vs : List Value) (p : Pg) : Prop := vs.length = p.length ∧ ∀ k, k < p.length → ∃ x, vs[k]? = some x ∧ SlE w B v x (p.getD k [])
/-- v is a row of pages of the call's own. -/
def OwnPg (w : World) (base : Nat) (v : Value) (p : Pg) : Prop := ∃ vs, w.ownsRow base 27 1 v p.length vs ∧ PgV w w.heap.size v vs p
theorem SlE.one {w : World} {B : Nat} {v x : Value} {l : List En} (h : SlE w B v x l) : x.oneCell' = true := by
  obtain ⟨A, c, rfl, -⟩ := h; rfl
theorem PgV.one {w : World} {B : Nat} {v : Value} {vs : List Value} {p : Pg} (h : PgV w B v vs p) : ∀ u ∈ vs, u.oneCell' = true := by
  intro u hu
  obtain ⟨k, hk, rfl⟩ := List.getElem_of_mem hu
  obtain ⟨x, hx, hs⟩ := h.2 k (by rw [← h.1]; exact hk)
  rw [List.getElem?_eq_getElem hk] at hx
  injection hx with hx
  rw [hx]; exact hs.one
theorem OwnPg.nil (w : World) (base : Nat) : OwnPg w base (.slice none 0 0) [] := ⟨[], World.ownsRow_nil _ _ _ _, rfl, fun k hk => by simp at hk⟩
theorem OwnPg.pgs {w : World} {base : Nat} {v : Value} {p : Pg} (h : OwnPg w base v p) : ∃ A c, v = .slice A p.length c ∧ p.length ≤ c ∧ PgsAt w w.heap.size A p.length p := by
  obtain ⟨vs, ho, hv, hs⟩ := h
  obtain ⟨A, c, rfl, hc⟩ := own_slice ho
  refine ⟨A, c, rfl, hc, rfl, fun k hk => ?_⟩
  obtain ⟨g, cap, e, _, hlt⟩ := ho.form (by omega)
  injection e with e1 e2
  subst e1
  obtain ⟨x, hx, A', c', rfl, hl, hE, -⟩ := hs k hk
  have := (ho.cells (g := g) rfl) k _ hx
  rw [Go.WideShapes.add_plain] at this
  exact ⟨g, 0, A', c', rfl, hlt, this, hl, hE⟩
/-- what is kept: cells of all blocks but that of v. -/
theorem EnsAt.off {w w' : World} {B : Nat} {A : Option Addr} {n : Nat} {l : List En} {row : Option Nat} (h : EnsAt w B A n l) (hg : w.grownBy w' row) (hB : B ≤ w.heap.size) (ho : 0 < n → ∀ a, A = some a → row ≠ some a.block) : EnsAt w' B A n l :=
  ⟨h.1, h.2.1, fun k hk => by
    obtain ⟨b, o, e, hb, h1, h2⟩ := h.2.2 k hk
    have hne := ho (by omega) _ e
    refine ⟨b, o, e, hb, ?_, ?_⟩
    · exact (hg.cell_far ⟨b, o + k * 2, none⟩ (by show b < _; omega) (fun x => hne x.symm)).trans h1
    · exact (hg.cell_far ⟨b, o + k * 2 + 1, none⟩ (by show b < _; omega) (fun x => hne x.symm)).trans h2⟩
theorem EnsAt.block {w : World} {B : Nat} {A : Option Addr} {n : Nat} {l : List En} (h : EnsAt w B A n l) (hn : 0 < n) {a : Addr} (e : A = some a) : a.block < B := by
  obtain ⟨b, o, e', hb, -⟩ := h.at_ hn
  rw [e] at e'; injection e' with e'; rw [e']; exact hb
/-- apart from the row, and older than what is new: kept, and apart still. -/
def Kept (w w' : World) (v v' : Value) : Prop := ∀ B A n l, EnsAt w B A n l → B ≤ w.heap.size → (0 < n → Off A v) → EnsAt w' B A n l ∧ (0 < n → Off A v')
theorem kept_of {w w' : World} {v : Value} {g n cap H : Nat} (hg : w.grownBy w' v.ownBlock) (hat : v.ownBlock = some g ∨ g = H) (hH : w.heap.size = H) : Kept w w' v (.slice (some ⟨g, 0, none⟩) n cap) := by
  intro B A m l hE hB ho
  refine ⟨hE.off hg hB ho, fun hm a ha hv => ?_⟩
  have hb := hE.block hm ha
  have hgb : g = a.block := by simpa [Value.ownBlock] using hv
  rcases hat with h1 | h1
  · exact ho hm a ha (by rw [h1, hgb])
  · omega
theorem Kept.slE {w w' : World} {v v' x : Value} {l : List En} (h : Kept w w' v v') (hs : w.heap.size ≤ w'.heap.size) (hx : SlE w w.heap.size v x l) : SlE w' w'.heap.size v' x l := by
  obtain ⟨A, c, rfl, hc, hE, ho⟩ := hx
  obtain ⟨h1, h2⟩ := h _ _ _ _ hE (Nat.le_refl _) ho
  exact ⟨A, c, rfl, hc, h1.more hs, h2⟩
theorem Kept.pgV {w w' : World} {v v' : Value} {vs : List Value} {p : Pg} (h : Kept w w' v v') (hs : w.heap.size ≤ w'.heap.size) (hx : PgV w w.heap.size v vs p) : PgV w' w'.heap.size v' vs p :=
  ⟨hx.1, fun k hk => by
    obtain ⟨x, e, hx⟩ := hx.2 k hk
    exact ⟨x, e, h.slE hs hx⟩⟩
theorem PgV.append {w : World} {B : Nat} {v : Value} {vs us : List Value} {p q : Pg} (h : PgV w B v vs p) (k : PgV w B v us q) : PgV w B v (vs ++ us) (p ++ q) := by
  refine ⟨by rw [List.length_append, List.length_append, h.1, k.1], fun i hi => ?_⟩
  rw [List.length_append] at hi
  rcases Nat.lt_or_ge i p.length with h1 | h1
  · have e : (p ++ q).getD i [] = p.getD i [] := by simp [List.getD, List.getElem?_append_left h1]
    rw [List.getElem?_append_left (by rw [h.1]; exact h1), e]
    exact h.2 i h1
  · have e : (p ++ q).getD i [] = q.getD (i - p.length) [] := by simp [List.getD, List.getElem?_append_right h1]
    rw [List.getElem?_append_right (by rw [h.1]; exact h1), e, h.1]
    exact k.2 (i - p.length) (by omega)
theorem PgV.single {w : World} {B : Nat} {v x : Value} {l : List En} (h : SlE w B v x l) : PgV w B v [x] [l] :=
  ⟨rfl, fun k hk => by
    obtain rfl : k = 0 := by simpa using hk
    exact ⟨x, rfl, h⟩⟩
theorem SlE.alloc {w : World} {B : Nat} {v x : Value} {l : List En} (h : SlE w B v x l) (hB : B ≤ w.heap.size) (o : Obj) : SlE (w.alloc o) (w.alloc o).heap.size v x l := by
  obtain ⟨A, c, rfl, hc, hE, ho⟩ := h
  refine ⟨A, c, rfl, hc, (hE.keep fun a ha => World.cell?_alloc_lt w _ _ (by omega)).more (by simp; omega), ho⟩
theorem PgV.alloc {w : World} {B : Nat} {v : Value} {vs : List Value} {p : Pg} (h : PgV w B v vs p) (hB : B ≤ w.heap.size) (o : Obj) : PgV (w.alloc o) (w.alloc o).heap.size v vs p :=
  ⟨h.1, fun k hk => by
    obtain ⟨x, e, hx⟩ := h.2 k hk
    exact ⟨x, e, hx.alloc hB o⟩⟩

/-- 'append(out, l..)' of pages. -/
theorem wp_pushP {o : Oper} {a : Act} {K : Act → World → Prop} {Q : Exit → Act → World → Prop} (s x : Operand)
    (ho : o.op = .call { callee := .builtin .append, args := #[s, x], argTypes := #[22, 22] })
    (base : Nat) (W : World) (v : Value) (p : Pg) (us : List Value) (q : Pg) (hs : a.eval s = v) (m c : Nat) (hx : a.eval x = .slice (some ⟨W.heap.size, 0, none⟩) m c)
    (hown : OwnPg W base v p) (hq : PgV W W.heap.size v us q) (hm : m = q.length) (h0 : 0 < m) (hl : p.length + m ≤ 100000) (hbase : base ≤ W.heap.size)
    (h : ∀ v' w', OwnPg w' base v' (p ++ q) → Below base W w' → Kept W w' v v' → K (a.put o.dst v') w') :
    o.wp Try.prog a (W.alloc (.cells us.toArray 27)) K Q := by
  obtain ⟨i0, hi, hz0, hz1, hz2⟩ := info_parts info27
  subst hm
  obtain ⟨vs, hv, hpv⟩ := hown
  have hsz : (W.alloc (.cells us.toArray 27)).heap.size = W.heap.size + 1 := by simp
  have hlt : ∀ k, v.ownBlock = some k → k < W.heap.size := fun k hk => (hv.lt k hk).2
  refine wp_append_lies _ s x 22 ho base 27 i0 _ 1 24 Try.underlying22 hi hz0 hz1 hz2 rfl (by decide) v p.length vs hs (hv.alloc _) ⟨W.heap.size, 0, none⟩ q.length c us hx (by rw [hq.1]; omega)
    (World.news_of_block (heap_alloc_new W _)) hq.one h0 (by unfold maxLen; omega) (by omega) (by omega) _ rfl ?_
  intro g cap w' hown' hg hat hgl
  have hk1 : Kept W w' v (.slice (some ⟨g, 0, none⟩) (p.length + q.length) cap) := by
    intro B A n l hE hB hof
    have := kept_of (n := p.length + q.length) (cap := cap) hg hat rfl B A n l (hE.keep fun a ha => World.cell?_alloc_lt W _ _ (by omega)) (by omega) hof
    exact this
  have hsz' : W.heap.size ≤ w'.heap.size := by have := hg.size; omega
  refine h _ w' ⟨vs ++ us, ?_, ?_⟩ ?_ hk1
  · rw [List.length_append]; exact hown'
  · exact (hk1.pgV hsz' hpv).append (hk1.pgV hsz' hq)
  · exact ((Below.refl base W).alloc hbase _).grown hg (by omega) (fun k hk => (hv.lt k hk).1)
theorem pushP_law {ops : Array Oper} {rest : List Oper} {o : Oper} {a : Act} {Q : Exit → Act → World → Prop} (hgd : o.guard = none) (s x : Operand)
    (ho : o.op = .call { callee := .builtin .append, args := #[s, x], argTypes := #[22, 22] })
    (base : Nat) (W : World) (v : Value) (p : Pg) (us : List Value) (q : Pg) (hs : a.eval s = v) (m c : Nat) (hx : a.eval x = .slice (some ⟨W.heap.size, 0, none⟩) m c)
    (hown : OwnPg W base v p) (hq : PgV W W.heap.size v us q) (hm : m = q.length) (h0 : 0 < m) (hl : p.length + m ≤ 100000) (hbase : base ≤ W.heap.size)
    (h : ∀ v' w', OwnPg w' base v' (p ++ q) → Below base W w' → Kept W w' v v' → wpList Try.prog ops Q rest (a.put o.dst v') w') :
    wpList Try.prog ops Q (o :: rest) a (W.alloc (.cells us.toArray 27)) :=
  wpList_plain hgd fun _ hK => wp_pushP s x ho base W v p us q hs m c hx hown hq hm h0 hl hbase fun v' w' h1 h2 h3 => hK _ _ (h v' w' h1 h2 h3)
theorem step_pushP {ops : Array Oper} {o : Oper} {a : Act} {K : Act → World → Prop} {Q : Exit → Act → World → Prop} {E : Prop} (hgd : o.guard = none) (s x : Operand)
    (ho : o.op = .call { callee := .builtin .append, args := #[s, x], argTypes := #[22, 22] })
    (base : Nat) (W : World) (v : Value) (p : Pg) (us : List Value) (q : Pg) (hs : a.eval s = v) (m c : Nat) (hx : a.eval x = .slice (some ⟨W.heap.size, 0, none⟩) m c)
    (hown : OwnPg W base v p) (hq : PgV W W.heap.size v us q) (hm : m = q.length) (h0 : 0 < m) (hl : p.length + m ≤ 100000) (hbase : base ≤ W.heap.size)
    (h : ∀ v' w', OwnPg w' base v' (p ++ q) → Below base W w' → Kept W w' v v' → K (a.put o.dst v') w') :
    if Region.wanted o (yielded ops a.tmps) = true then Oper.wp Try.prog o a (W.alloc (.cells us.toArray 27)) K Q else E := by
  have hw : Region.wanted o (yielded ops a.tmps) = true := by simp [Region.wanted, hgd]
  rw [if_pos hw]
  exact wp_pushP s x ho base W v p us q hs m c hx hown hq hm h0 hl hbase h

/-- an answer that is a slice of pages. -/
def RetPgs (w : World) (p : Pg) (e : Ending) (w' : World) : Prop := ∃ A c, e = .returned (.slice A p.length c) ∧ p.length ≤ c ∧ PgsAt w' w'.heap.size A p.length p ∧ Below w.heap.size w w'
end Go.Proofs.Ytflijnhgonigjaa
