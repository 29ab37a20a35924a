/-
  WORDS OF MEMORY for the proofs over layer 7: a slice of entries that reads as a list (nil let in), a row of entries of the call's own, an entry appended, an entry stored. No condition.
-/
import Derived.Test.YtflijnhgonigjaaEnts
import Derived.Test.YtflijnhgonigjaaNRefRight
import Derived.Test.YtflijnhgonigjaaText
import Derived.Laws.OwnMore
import Derived.Deep.AppendLies
import Derived.Deep.Draws
import Derived.OwnWalk
namespace Go.Proofs.Ytflijnhgonigjaa
open Go.RowKit

abbrev Fit (z : Int) : Prop := -9223372036854775808 ≤ z ∧ z ≤ 9223372036854775807
def En.fit (e : En) : Prop := e.nm.size ≤ 140737488355328 ∧ Fit e.nd
theorem En.fit_z : En.z.fit := ⟨by show (0 : Nat) ≤ _; omega, by decide⟩

/-- The slice at A with n elements reads as the entries l, and lies below block B. -/
def EnsAt (w : World) (B : Nat) (A : Option Addr) (n : Nat) (l : List En) : Prop :=
  l.length = n ∧ (∀ e ∈ l, e.fit) ∧
  ∀ k, k < n → ∃ b o, A = some ⟨b, o, none⟩ ∧ b < B ∧ w.cell? ⟨b, o + k * 2, none⟩ = some (.string (l.getD k En.z).nm) ∧ w.cell? ⟨b, o + k * 2 + 1, none⟩ = some (.int .i64 (l.getD k En.z).nd)

section
variable {w w' : World} {B B' : Nat} {A : Option Addr} {n : Nat} {l : List En}
theorem EnsAt.len (h : EnsAt w B A n l) : l.length = n := h.1
theorem EnsAt.at_ (h : EnsAt w B A n l) {k : Nat} (hk : k < n) :
    ∃ b o, A = some ⟨b, o, none⟩ ∧ b < B ∧ w.cell? ⟨b, o + k * 2, none⟩ = some (.string (l.getD k En.z).nm) ∧ w.cell? ⟨b, o + k * 2 + 1, none⟩ = some (.int .i64 (l.getD k En.z).nd) := h.2.2 k hk
theorem EnsAt.bd (h : EnsAt w B A n l) (k : Nat) : (l.getD k En.z).fit := by
  rcases Nat.lt_or_ge k l.length with hl | hl
  · have := h.2.1 l[k] (List.getElem_mem hl)
    simpa [List.getD, List.getElem?_eq_getElem hl] using this
  · simp only [List.getD, List.getElem?_eq_none hl, Option.getD_none]; exact En.fit_z
theorem EnsAt.keep (h : EnsAt w B A n l) (hk : ∀ p : Addr, p.block < B → w'.cell? p = w.cell? p) : EnsAt w' B A n l :=
  ⟨h.1, h.2.1, fun k hkn => by
    obtain ⟨b, o, e, hb, h1, h2⟩ := h.2.2 k hkn
    exact ⟨b, o, e, hb, (hk _ hb).trans h1, (hk _ hb).trans h2⟩⟩
theorem EnsAt.more (h : EnsAt w B A n l) (hB : B ≤ B') : EnsAt w B' A n l :=
  ⟨h.1, h.2.1, fun k hkn => by
    obtain ⟨b, o, e, hb, hc⟩ := h.2.2 k hkn
    exact ⟨b, o, e, by omega, hc⟩⟩
theorem EnsAt.below {C : Nat} (h : EnsAt w B A n l) (hb : Below C w w') (hBC : B ≤ C) : EnsAt w' B A n l :=
  h.keep fun _ hp => hb.cell (by omega)
theorem EnsAt.to (h : EnsAt w w.heap.size A n l) (hb : Below w.heap.size w w') : EnsAt w' w'.heap.size A n l := (h.below hb (Nat.le_refl _)).more hb.size
theorem EnsAt.take (h : EnsAt w B A n l) (m : Nat) (hm : m ≤ n) : EnsAt w B A m (l.take m) :=
  ⟨by rw [List.length_take, h.1]; omega, fun z hz => h.2.1 z (List.mem_of_mem_take hz), fun k hk => by
    obtain ⟨b, o, e, hb, h1, h2⟩ := h.2.2 k (by omega)
    have e1 : (l.take m).getD k En.z = l.getD k En.z := by simp [List.getD, List.getElem?_take_of_lt hk]
    rw [e1]
    exact ⟨b, o, e, hb, h1, h2⟩⟩
theorem EnsAt.nil (w : World) (B : Nat) (A : Option Addr) : EnsAt w B A 0 [] := ⟨rfl, by simp, fun k hk => by omega⟩
end
theorem bcell {C : Nat} {w w' : World} {a : Addr} {v : Value} (hb : Below C w w') (h : w.cell? a = some v) (hl : a.block < C) : w'.cell? a = some v := (hb.cell hl).trans h

theorem cell_new (w : World) (cs : Array Value) (t : TypeId) (k : Nat) {v : Value} (h : cs[k]? = some v) : (w.alloc (.cells cs t)).cell? ⟨w.heap.size, k, none⟩ = some v := by
  rw [cell_of_row _ _ _ _ _ _ (heap_alloc_new w _)]; exact h

/-! ### rows of the call's own -/
def enCells (s : En) : List Value := [.string s.nm, .int .i64 s.nd]
def ensCells (l : List En) : List Value := l.flatMap enCells
theorem ensCells_len : ∀ l : List En, (ensCells l).length = l.length * 2
  | [] => rfl
  | s :: r => by
    have := ensCells_len r
    simp only [ensCells, List.flatMap_cons, List.length_append, enCells, List.length_cons, List.length_nil] at this ⊢
    omega
theorem ensCells_snoc (l : List En) (s : En) : ensCells (l ++ [s]) = ensCells l ++ enCells s := by simp [ensCells]
theorem ensCells_at : ∀ (l : List En) (k : Nat), k < l.length → (ensCells l)[k * 2]? = some (.string (l.getD k En.z).nm) ∧ (ensCells l)[k * 2 + 1]? = some (.int .i64 (l.getD k En.z).nd)
  | s :: r, 0, _ => by simp [ensCells, enCells]
  | s :: r, k + 1, h => by
    have ih := ensCells_at r k (by simpa using h)
    have e : ensCells (s :: r) = .string s.nm :: .int .i64 s.nd :: ensCells r := by simp [ensCells, enCells]
    have e3 : (k + 1) * 2 = k * 2 + 2 := by omega
    rw [e, e3]
    simpa using ih
/-- an entry stored. -/
theorem ensCells_set : ∀ (l : List En) (k : Nat) (s : En), k < l.length → ((ensCells l).set (k * 2) (.string s.nm)).set (k * 2 + 1) (.int .i64 s.nd) = ensCells (l.set k s)
  | a :: r, 0, s, _ => by simp [ensCells, enCells]
  | a :: r, k + 1, s, h => by
    have ih := ensCells_set r k s (by simpa using h)
    have e : ensCells (a :: r) = .string a.nm :: .int .i64 a.nd :: ensCells r := by simp [ensCells, enCells]
    have e2 : ensCells ((a :: r).set (k + 1) s) = .string a.nm :: .int .i64 a.nd :: ensCells (r.set k s) := by simp [ensCells, enCells]
    have e3 : (k + 1) * 2 = k * 2 + 2 := by omega
    rw [e, e2, e3, ← ih]
    simp

theorem EnsAt.of_own {w : World} {base : Nat} {v : Value} {A : Option Addr} {c : Nat} {l : List En} (h : w.ownsRow base 47 2 v l.length (ensCells l)) (hv : v = .slice A l.length c) (hf : ∀ s ∈ l, s.fit) : EnsAt w w.heap.size A l.length l := by
  refine ⟨rfl, hf, fun k hk => ?_⟩
  obtain ⟨g, cap, e, _, hlt⟩ := h.form (by omega)
  subst hv
  have hA : A = some ⟨g, 0, none⟩ := by injection e
  subst hA
  obtain ⟨h1, h2⟩ := ensCells_at l k hk
  have hcell := h.cells (g := g) rfl
  refine ⟨g, 0, rfl, hlt, ?_, ?_⟩
  · have := hcell _ _ h1; rwa [Go.WideShapes.add_plain] at this
  · have := hcell _ _ h2; rw [Go.WideShapes.add_plain] at this; exact this

/-- nothing but draws lies between two worlds. -/
def Drew (w w' : World) : Prop := ∃ n, w' = w.drewN n
theorem Drew.refl (w : World) : Drew w w := ⟨0, rfl⟩
theorem Drew.trans {a b c : World} (h : Drew a b) (k : Drew b c) : Drew a c := by
  obtain ⟨n, rfl⟩ := h
  obtain ⟨m, rfl⟩ := k
  exact ⟨n + m, World.drewN_drewN _ _ _⟩
theorem Drew.cells {a b : World} (h : Drew a b) (p : Addr) : b.cell? p = a.cell? p := by
  obtain ⟨n, rfl⟩ := h
  rfl
theorem Below.drews {B : Nat} {a b c : World} (h : Below B a b) (k : Drew b c) : Below B a c := by
  obtain ⟨n, rfl⟩ := k
  exact ⟨h.os, h.tape, h.output, h.size, h.block⟩
theorem undrew {w w' : World} (b : Below w.drew.heap.size w.drew w') : Below w.heap.size w w' := ⟨b.os, b.tape, b.output, b.size, b.block⟩

/-- an answer that is a new slice of entries, of the call's own. -/
def RetOwn (w : World) (l : List En) (e : Ending) (w' : World) : Prop := ∃ v, e = .returned v ∧ w'.ownsRow w.heap.size 47 2 v l.length (ensCells l) ∧ Below w.heap.size w w'
/-- an answer that is a slice of entries. -/
def RetEns (w : World) (l : List En) (e : Ending) (w' : World) : Prop := ∃ A c, e = .returned (.slice A l.length c) ∧ l.length ≤ c ∧ EnsAt w' w'.heap.size A l.length l ∧ Below w.heap.size w w'
theorem own_slice {w : World} {base n : Nat} {v : Value} {xs : List Value} {e : TypeId} {sz : Nat} (h : w.ownsRow base e sz v n xs) : ∃ A c, v = .slice A n c ∧ n ≤ c := by
  rcases h.2 with ⟨rfl, rfl⟩ | ⟨g, cap, cur, rfl, _, _, hc, _⟩
  · exact ⟨none, 0, rfl, Nat.le_refl _⟩
  · exact ⟨_, _, rfl, hc⟩
theorem RetOwn.ens {w : World} {l : List En} {e : Ending} {w' : World} (h : RetOwn w l e w') (hf : ∀ s ∈ l, s.fit) : RetEns w l e w' := by
  obtain ⟨v, rfl, ho, hb⟩ := h
  obtain ⟨A, c, rfl, hc⟩ := own_slice ho
  exact ⟨A, c, rfl, hc, EnsAt.of_own ho rfl hf, hb⟩
theorem own_below {w w' : World} {base C n sz : Nat} {e : TypeId} {v : Value} {xs : List Value} (h : w.ownsRow base e sz v n xs) (hb : Below C w w') (hC : w.heap.size ≤ C) : w'.ownsRow base e sz v n xs :=
  h.kept (row := none) ⟨hb.os, hb.tape, hb.output, hb.size, fun k hk _ => hb.block k (by omega)⟩ (by cases v.ownBlock <;> simp)
/-- an entry of a row of one's own: where it lies. -/
theorem own_at {w : World} {base : Nat} {v : Value} {l : List En} (h : w.ownsRow base 47 2 v l.length (ensCells l)) {k : Nat} (hk : k < l.length) :
    ∃ g cap, v = .slice (some ⟨g, 0, none⟩) l.length cap ∧ base ≤ g ∧ g < w.heap.size ∧ w.cell? ⟨g, k * 2, none⟩ = some (.string (l.getD k En.z).nm) ∧ w.cell? ⟨g, k * 2 + 1, none⟩ = some (.int .i64 (l.getD k En.z).nd) ∧
      w.frozen? ⟨g, k * 2, none⟩ = false ∧ w.frozen? ⟨g, k * 2 + 1, none⟩ = false := by
  have hc := ensCells_at l k hk
  obtain ⟨g, cap, rfl, hbg, hlt⟩ := h.form (by omega)
  refine ⟨g, cap, rfl, hbg, hlt, ?_, ?_, h.frozenAt _, h.frozenAt _⟩
  · rw [h.cellAt _ (by omega)]; exact hc.1
  · rw [h.cellAt _ (by omega)]; exact hc.2
/-- an entry of a row of one's own, stored. -/
theorem own_set {w : World} {base g cap : Nat} {l : List En} (h : w.ownsRow base 47 2 (.slice (some ⟨g, 0, none⟩) l.length cap) l.length (ensCells l)) {k : Nat} (hk : k < l.length) (s : En) :
    ((w.setCell ⟨g, k * 2, none⟩ (.string s.nm)).setCell ⟨g, k * 2 + 1, none⟩ (.int .i64 s.nd)).ownsRow base 47 2 (.slice (some ⟨g, 0, none⟩) l.length cap) l.length (ensCells (l.set k s)) := by
  have h1 := (h.stored (k * 2) (.string s.nm)).1
  have h2 := (h1.stored (k * 2 + 1) (.int .i64 s.nd)).1
  rw [ensCells_set l k s hk] at h2
  exact h2

theorem info43 : (Try.prog.info? 47).map (fun i => (i.zero, i.size, i.bytes)) = some (some (.agg #[.string ⟨#[]⟩, .int .i64 0]), 2, 24) := by kernel_rfl
theorem one_en (s : En) : ∀ u ∈ enCells s, u.oneCell' = true := by simp [enCells, Value.oneCell']
/-- 'append(l, s)' of entries, at the list of a plain region's operations. -/
theorem push_law {ops : Array Oper} {rest : List Oper} {o : Oper} {a : Act} {Q : Exit → Act → World → Prop} (hgd : o.guard = none) (s x : Operand)
    (ho : o.op = .call { callee := .builtin .append, args := #[s, x], argTypes := #[27, 27] })
    (base : Nat) (W : World) (v : Value) (l : List En) (nm : ByteArray) (nd : Int) (hs : a.eval s = v) (hx : a.eval x = .slice (some ⟨W.heap.size, 0, none⟩) 1 1)
    (hown : W.ownsRow base 47 2 v l.length (ensCells l)) (hl : l.length ≤ 100000) (hbase : base ≤ W.heap.size)
    (h : ∀ v' w', w'.ownsRow base 47 2 v' (l ++ [(⟨nm, nd⟩ : En)]).length (ensCells (l ++ [⟨nm, nd⟩])) → Below base W w' → wpList Try.prog ops Q rest (a.put o.dst v') w') :
    wpList Try.prog ops Q (o :: rest) a (W.alloc (.cells #[.string nm, .int .i64 nd] 47)) := by
  obtain ⟨i0, hi, hz0, hz1, hz2⟩ := info_parts info43
  refine wpList_append_own _ hgd s x 27 ho base 47 i0 _ 2 24 Try.underlying27 hi hz0 hz1 hz2 rfl (by decide) v l.length (ensCells l) hs (hown.alloc _) ⟨W.heap.size, 0, none⟩ 1 1 (enCells ⟨nm, nd⟩) hx rfl
    (World.news_of_block (heap_alloc_new W _)) (one_en ⟨nm, nd⟩) (by unfold maxLen; omega) (by omega) (by simp; omega) ?_
  intro v' w' hown' hg _
  refine h v' w' ?_ ?_
  · rw [ensCells_snoc, List.length_append]; exact hown'
  · exact (((Below.refl base W).alloc hbase _).grown hg (by simp; omega) (fun k hk => (hown.lt k hk).1))
end Go.Proofs.Ytflijnhgonigjaa
