/-
  WORDS OF MEMORY for the proofs over layer 11: a slice of changes that reads as a list (nil let in), a row of changes of the call's own, a change appended, a change stored. No condition.
-/
import Derived.Test.YtpljifeebbeakaaRefRead
import Derived.Test.YtpljifeebbeakaaSFlush
import Derived.Laws.OwnMore
import Derived.Deep.AppendLies
import Derived.Deep.Draws
import Derived.OwnWalk
namespace Go.Proofs.Ytpljifeebbeakaa
open Go.RowKit

/-- a change: the number of a block, and the bytes. -/
structure Ch where
  bk : Int
  dt : ByteArray
def Ch.z : Ch := ⟨0, ⟨#[]⟩⟩
abbrev Fit (z : Int) : Prop := -9223372036854775808 ≤ z ∧ z ≤ 9223372036854775807
def Ch.fit (e : Ch) : Prop := e.dt.size ≤ 140737488355328 ∧ Fit e.bk
theorem Ch.fit_z : Ch.z.fit := ⟨by show (0 : Nat) ≤ _; omega, by show -9223372036854775808 ≤ (0 : Int) ∧ _; decide⟩

/-- The slice at A with n elements reads as the entries l, and lies below block B. -/
def ChsAt (w : World) (B : Nat) (A : Option Addr) (n : Nat) (l : List Ch) : Prop :=
  l.length = n ∧ (∀ e ∈ l, e.fit) ∧
  ∀ k, k < n → ∃ b o, A = some ⟨b, o, none⟩ ∧ b < B ∧ w.cell? ⟨b, o + k * 2, none⟩ = some (.int .i64 (l.getD k Ch.z).bk) ∧ w.cell? ⟨b, o + k * 2 + 1, none⟩ = some (.string (l.getD k Ch.z).dt)

section
variable {w w' : World} {B B' : Nat} {A : Option Addr} {n : Nat} {l : List Ch}
theorem ChsAt.len (h : ChsAt w B A n l) : l.length = n := h.1
theorem ChsAt.at_ (h : ChsAt w B A n l) {k : Nat} (hk : k < n) :
    ∃ b o, A = some ⟨b, o, none⟩ ∧ b < B ∧ w.cell? ⟨b, o + k * 2, none⟩ = some (.int .i64 (l.getD k Ch.z).bk) ∧ w.cell? ⟨b, o + k * 2 + 1, none⟩ = some (.string (l.getD k Ch.z).dt) := h.2.2 k hk
theorem ChsAt.bd (h : ChsAt w B A n l) (k : Nat) : (l.getD k Ch.z).fit := by
  rcases Nat.lt_or_ge k l.length with hl | hl
  · have := h.2.1 l[k] (List.getElem_mem hl)
    simpa [List.getD, List.getElem?_eq_getElem hl] using this
  · simp only [List.getD, List.getElem?_eq_none hl, Option.getD_none]; exact Ch.fit_z
theorem ChsAt.keep (h : ChsAt w B A n l) (hk : ∀ p : Addr, p.block < B → w'.cell? p = w.cell? p) : ChsAt w' B A n l :=
  ⟨h.1, h.2.1, fun k hkn => by
    obtain ⟨b, o, e, hb, h1, h2⟩ := h.2.2 k hkn
    exact ⟨b, o, e, hb, (hk _ hb).trans h1, (hk _ hb).trans h2⟩⟩
theorem ChsAt.more (h : ChsAt w B A n l) (hB : B ≤ B') : ChsAt w B' A n l :=
  ⟨h.1, h.2.1, fun k hkn => by
    obtain ⟨b, o, e, hb, hc⟩ := h.2.2 k hkn
    exact ⟨b, o, e, by omega, hc⟩⟩
theorem ChsAt.below {C : Nat} (h : ChsAt w B A n l) (hb : Below C w w') (hBC : B ≤ C) : ChsAt w' B A n l :=
  h.keep fun _ hp => hb.cell (by omega)
theorem ChsAt.to (h : ChsAt w w.heap.size A n l) (hb : Below w.heap.size w w') : ChsAt w' w'.heap.size A n l := (h.below hb (Nat.le_refl _)).more hb.size
theorem ChsAt.take (h : ChsAt w B A n l) (m : Nat) (hm : m ≤ n) : ChsAt w B A m (l.take m) :=
  ⟨by rw [List.length_take, h.1]; omega, fun z hz => h.2.1 z (List.mem_of_mem_take hz), fun k hk => by
    obtain ⟨b, o, e, hb, h1, h2⟩ := h.2.2 k (by omega)
    have e1 : (l.take m).getD k Ch.z = l.getD k Ch.z := by simp [List.getD, List.getElem?_take_of_lt hk]
    rw [e1]
    exact ⟨b, o, e, hb, h1, h2⟩⟩
theorem ChsAt.nil (w : World) (B : Nat) (A : Option Addr) : ChsAt w B A 0 [] := ⟨rfl, by simp, fun k hk => by omega⟩
end
theorem bcell {C : Nat} {w w' : World} {a : Addr} {v : Value} (hb : Below C w w') (h : w.cell? a = some v) (hl : a.block < C) : w'.cell? a = some v := (hb.cell hl).trans h

theorem cell_new (w : World) (cs : Array Value) (t : TypeId) (k : Nat) {v : Value} (h : cs[k]? = some v) : (w.alloc (.cells cs t)).cell? ⟨w.heap.size, k, none⟩ = some v := by
  rw [cell_of_row _ _ _ _ _ _ (heap_alloc_new w _)]; exact h

/-! ### rows of the call's own -/
def chCells (s : Ch) : List Value := [.int .i64 s.bk, .string s.dt]
def chsCells (l : List Ch) : List Value := l.flatMap chCells
theorem chsCells_len : ∀ l : List Ch, (chsCells l).length = l.length * 2
  | [] => rfl
  | s :: r => by
    have := chsCells_len r
    simp only [chsCells, List.flatMap_cons, List.length_append, chCells, List.length_cons, List.length_nil] at this ⊢
    omega
theorem chsCells_snoc (l : List Ch) (s : Ch) : chsCells (l ++ [s]) = chsCells l ++ chCells s := by simp [chsCells]
theorem chsCells_at : ∀ (l : List Ch) (k : Nat), k < l.length → (chsCells l)[k * 2]? = some (.int .i64 (l.getD k Ch.z).bk) ∧ (chsCells l)[k * 2 + 1]? = some (.string (l.getD k Ch.z).dt)
  | s :: r, 0, _ => by simp [chsCells, chCells]
  | s :: r, k + 1, h => by
    have ih := chsCells_at r k (by simpa using h)
    have e : chsCells (s :: r) = .int .i64 s.bk :: .string s.dt :: chsCells r := by simp [chsCells, chCells]
    have e3 : (k + 1) * 2 = k * 2 + 2 := by omega
    rw [e, e3]
    simpa using ih
/-- an entry stored. -/
theorem chsCells_set : ∀ (l : List Ch) (k : Nat) (s : Ch), k < l.length → ((chsCells l).set (k * 2) (.int .i64 s.bk)).set (k * 2 + 1) (.string s.dt) = chsCells (l.set k s)
  | a :: r, 0, s, _ => by simp [chsCells, chCells]
  | a :: r, k + 1, s, h => by
    have ih := chsCells_set r k s (by simpa using h)
    have e : chsCells (a :: r) = .int .i64 a.bk :: .string a.dt :: chsCells r := by simp [chsCells, chCells]
    have e2 : chsCells ((a :: r).set (k + 1) s) = .int .i64 a.bk :: .string a.dt :: chsCells (r.set k s) := by simp [chsCells, chCells]
    have e3 : (k + 1) * 2 = k * 2 + 2 := by omega
    rw [e, e2, e3, ← ih]
    simp

theorem ChsAt.of_own {w : World} {base : Nat} {v : Value} {A : Option Addr} {c : Nat} {l : List Ch} (h : w.ownsRow base 58 2 v l.length (chsCells l)) (hv : v = .slice A l.length c) (hf : ∀ s ∈ l, s.fit) : ChsAt w w.heap.size A l.length l := by
  refine ⟨rfl, hf, fun k hk => ?_⟩
  obtain ⟨g, cap, e, _, hlt⟩ := h.form (by omega)
  subst hv
  have hA : A = some ⟨g, 0, none⟩ := by injection e
  subst hA
  obtain ⟨h1, h2⟩ := chsCells_at l k hk
  have hcell := h.cells (g := g) rfl
  refine ⟨g, 0, rfl, hlt, ?_, ?_⟩
  · have := hcell _ _ h1; rwa [Go.WideShapes.add_plain] at this
  · have := hcell _ _ h2; rw [Go.WideShapes.add_plain] at this; exact this

/-- nothing but draws lies between two worlds. -/
def Drew (w w' : World) : Prop := ∃ n, w' = w.drewN n
theorem Drew.refl (w : World) : Drew w w := ⟨0, rfl⟩
theorem Drew.trans {a b c : World} (h : Drew a b) (k : Drew b c) : Drew a c := by
  obtain ⟨n, rfl⟩ := h
  obtain ⟨m, rfl⟩ := k
  exact ⟨n + m, World.drewN_drewN _ _ _⟩
theorem Drew.cells {a b : World} (h : Drew a b) (p : Addr) : b.cell? p = a.cell? p := by
  obtain ⟨n, rfl⟩ := h
  rfl
theorem Below.drews {B : Nat} {a b c : World} (h : Below B a b) (k : Drew b c) : Below B a c := by
  obtain ⟨n, rfl⟩ := k
  exact ⟨h.os, h.tape, h.output, h.size, h.block⟩
theorem undrew {w w' : World} (b : Below w.drew.heap.size w.drew w') : Below w.heap.size w w' := ⟨b.os, b.tape, b.output, b.size, b.block⟩

/-- an answer that is a new slice of entries, of the call's own. -/
def RetOwnC (w : World) (l : List Ch) (e : Ending) (w' : World) : Prop := ∃ v, e = .returned v ∧ w'.ownsRow w.heap.size 58 2 v l.length (chsCells l) ∧ Below w.heap.size w w'
/-- an answer that is a slice of entries. -/
def RetChs (w : World) (l : List Ch) (e : Ending) (w' : World) : Prop := ∃ A c, e = .returned (.slice A l.length c) ∧ l.length ≤ c ∧ ChsAt w' w'.heap.size A l.length l ∧ Below w.heap.size w w'
theorem own_slice {w : World} {base n : Nat} {v : Value} {xs : List Value} {e : TypeId} {sz : Nat} (h : w.ownsRow base e sz v n xs) : ∃ A c, v = .slice A n c ∧ n ≤ c := by
  rcases h.2 with ⟨rfl, rfl⟩ | ⟨g, cap, cur, rfl, _, _, hc, _⟩
  · exact ⟨none, 0, rfl, Nat.le_refl _⟩
  · exact ⟨_, _, rfl, hc⟩
theorem RetOwnC.ens {w : World} {l : List Ch} {e : Ending} {w' : World} (h : RetOwnC w l e w') (hf : ∀ s ∈ l, s.fit) : RetChs w l e w' := by
  obtain ⟨v, rfl, ho, hb⟩ := h
  obtain ⟨A, c, rfl, hc⟩ := own_slice ho
  exact ⟨A, c, rfl, hc, ChsAt.of_own ho rfl hf, hb⟩
theorem own_below {w w' : World} {base C n sz : Nat} {e : TypeId} {v : Value} {xs : List Value} (h : w.ownsRow base e sz v n xs) (hb : Below C w w') (hC : w.heap.size ≤ C) : w'.ownsRow base e sz v n xs :=
  h.kept (row := none) ⟨hb.os, hb.tape, hb.output, hb.size, fun k hk _ => hb.block k (by omega)⟩ (by cases v.ownBlock <;> simp)
/-- an entry of a row of one's own: where it lies. -/
theorem ownc_at {w : World} {base : Nat} {v : Value} {l : List Ch} (h : w.ownsRow base 58 2 v l.length (chsCells l)) {k : Nat} (hk : k < l.length) :
    ∃ g cap, v = .slice (some ⟨g, 0, none⟩) l.length cap ∧ base ≤ g ∧ g < w.heap.size ∧ w.cell? ⟨g, k * 2, none⟩ = some (.int .i64 (l.getD k Ch.z).bk) ∧ w.cell? ⟨g, k * 2 + 1, none⟩ = some (.string (l.getD k Ch.z).dt) ∧
      w.frozen? ⟨g, k * 2, none⟩ = false ∧ w.frozen? ⟨g, k * 2 + 1, none⟩ = false := by
  have hc := chsCells_at l k hk
  obtain ⟨g, cap, rfl, hbg, hlt⟩ := h.form (by omega)
  refine ⟨g, cap, rfl, hbg, hlt, ?_, ?_, h.frozenAt _, h.frozenAt _⟩
  · rw [h.cellAt _ (by omega)]; exact hc.1
  · rw [h.cellAt _ (by omega)]; exact hc.2
/-- an entry of a row of one's own, stored. -/
theorem ownc_set {w : World} {base g cap : Nat} {l : List Ch} (h : w.ownsRow base 58 2 (.slice (some ⟨g, 0, none⟩) l.length cap) l.length (chsCells l)) {k : Nat} (hk : k < l.length) (s : Ch) :
    ((w.setCell ⟨g, k * 2, none⟩ (.int .i64 s.bk)).setCell ⟨g, k * 2 + 1, none⟩ (.string s.dt)).ownsRow base 58 2 (.slice (some ⟨g, 0, none⟩) l.length cap) l.length (chsCells (l.set k s)) := by
  have h1 := (h.stored (k * 2) (.int .i64 s.bk)).1
  have h2 := (h1.stored (k * 2 + 1) (.string s.dt)).1
  rw [chsCells_set l k s hk] at h2
  exact h2

theorem info58 : (Try.prog.info? 58).map (fun i => (i.zero, i.size, i.bytes)) = some (some (.agg #[.int .i64 0, .string ⟨#[]⟩]), 2, 24) := by kernel_rfl
theorem one_ch (s : Ch) : ∀ u ∈ chCells s, u.oneCell' = true := by simp [chCells, Value.oneCell']
/-- 'append(l, s)' of entries, at the list of a plain region's operations. -/
theorem pushC_law {ops : Array Oper} {rest : List Oper} {o : Oper} {a : Act} {Q : Exit → Act → World → Prop} (hgd : o.guard = none) (s x : Operand)
    (ho : o.op = .call { callee := .builtin .append, args := #[s, x], argTypes := #[34, 34] })
    (base : Nat) (W : World) (v : Value) (l : List Ch) (bk : Int) (dt : ByteArray) (hs : a.eval s = v) (hx : a.eval x = .slice (some ⟨W.heap.size, 0, none⟩) 1 1)
    (hown : W.ownsRow base 58 2 v l.length (chsCells l)) (hl : l.length ≤ 100000) (hbase : base ≤ W.heap.size)
    (h : ∀ v' w', w'.ownsRow base 58 2 v' (l ++ [(⟨bk, dt⟩ : Ch)]).length (chsCells (l ++ [⟨bk, dt⟩])) → Below base W w' → wpList Try.prog ops Q rest (a.put o.dst v') w') :
    wpList Try.prog ops Q (o :: rest) a (W.alloc (.cells #[.int .i64 bk, .string dt] 58)) := by
  obtain ⟨i0, hi, hz0, hz1, hz2⟩ := info_parts info58
  refine wpList_append_own _ hgd s x 34 ho base 58 i0 _ 2 24 Try.underlying34 hi hz0 hz1 hz2 rfl (by decide) v l.length (chsCells l) hs (hown.alloc _) ⟨W.heap.size, 0, none⟩ 1 1 (chCells ⟨bk, dt⟩) hx rfl
    (World.news_of_block (heap_alloc_new W _)) (one_ch ⟨bk, dt⟩) (by unfold maxLen; omega) (by omega) (by simp; omega) ?_
  intro v' w' hown' hg _
  refine h v' w' ?_ ?_
  · rw [chsCells_snoc, List.length_append]; exact hown'
  · exact (((Below.refl base W).alloc hbase _).grown hg (by simp; omega) (fun k hk => (hown.lt k hk).1))
end Go.Proofs.Ytpljifeebbeakaa
