/-
  WORDS OF MEMORY for the proofs over layer 11: a slice of changes that reads as a list (nil let in), a row of changes of the call's own, a change appended, a change stored. No condition.
  PLAIN MATHEMATICS of a log: which changes may be, what blocks are behind them, what a head says. No condition.
  ROWS OF INTS known whole, and of a call's own; 'make', 'copy' and 'append' of ints for the walk to take. No condition.
  WALKS: own, slices.Index and Contains at ints, fill, bits.Mul at 1, slices.Repeat of one int, headWidths. Conditions: counts from 0 to 40.
  WALKS: head, blocksOf, changeable. Conditions: at most 40 blocks in a head, at most 300 changes or blocks elsewhere.
  WALK: readHead: the blocks that a head names, or that it may not be. Condition: the head has 128 bytes.
  WALKS: moved, logged: new rows of changes. Conditions: at most 40 changes, at most 1000 blocks.
  WALKS: inOrder: steps that end well, one behind the other; writeAll, where the slab does not stop. Conditions: at most 10 steps, at most 1000 changes.
  WALKS: the steps of apply and of commit, each a closure; apply and commit, where the slab does not stop. Conditions: at most 40 changes, fewer than 800000 calls so far.
  WALKS: apply and commit, where the slab does not stop. Conditions: at most 40 changes, fewer than 800000 calls so far.
  WALKS: replay and Open, where the slab does not stop and no block is loose. Conditions: blocks of 128 bytes, fewer than 700000 calls so far.
  WALKS: refuse, Commit, Read, Size, Commits, where the slab does not stop and no block is loose. Conditions: blocks of 128 bytes, fewer than 700000 calls so far.
  WALKS: the reference's Right and Calls. Condition: at most 100000000 changes.
  WALKS: the reference's With, Calls and Same; slices of texts below a block. Conditions: at most 1000 blocks, at most 40 changes, changes of blocks that exist.
  WALK: the reference's Same. Condition: at most 1000 blocks.
-/
import Derived.Test.YtgdlfiejjnjcpaaGreatBM
import Derived.Test.YtgdlfiejjnjcpaaGreatBS
import Derived.Laws.OwnMore
import Derived.Deep.AppendLies
import Derived.Deep.Draws
import Derived.OwnWalk
import Derived.Laws.CopyOwn
import Derived.RegionTactic
import Derived.IntWalk
import Derived.Deep.RegionHeld3
import Derived.BigRegion
import Derived.BigQuiet
import Derived.Deep.DeepMust
import Derived.Deep.DeepFit
namespace Go.Proofs.YtgdlfiejjnjcpaaGreat.Lg
open Go.RowKit

/-- a change: the number of a block, and the bytes. -/
structure Ch where
  bk : Int
  dt : ByteArray
def Ch.z : Ch := ⟨0, ⟨#[]⟩⟩
abbrev Fit (z : Int) : Prop := -9223372036854775808 ≤ z ∧ z ≤ 9223372036854775807
def Ch.fit (e : Ch) : Prop := e.dt.size ≤ 140737488355328 ∧ Fit e.bk
theorem Ch.fit_z : Ch.z.fit := ⟨by show (0 : Nat) ≤ _; omega, by show -9223372036854775808 ≤ (0 : Int) ∧ _; decide⟩

/-- The slice at A with n elements reads as the entries l, and lies below block B. -/
def ChsAt (w : World) (B : Nat) (A : Option Addr) (n : Nat) (l : List Ch) : Prop :=
  l.length = n ∧ (∀ e ∈ l, e.fit) ∧
  ∀ k, k < n → ∃ b o, A = some ⟨b, o, none⟩ ∧ b < B ∧ w.cell? ⟨b, o + k * 2, none⟩ = some (.int .i64 (l.getD k Ch.z).bk) ∧ w.cell? ⟨b, o + k * 2 + 1, none⟩ = some (.string (l.getD k Ch.z).dt)

section
variable {w w' : World} {B B' : Nat} {A : Option Addr} {n : Nat} {l : List Ch}
theorem ChsAt.len (h : ChsAt w B A n l) : l.length = n := h.1
theorem ChsAt.at_ (h : ChsAt w B A n l) {k : Nat} (hk : k < n) :
    ∃ b o, A = some ⟨b, o, none⟩ ∧ b < B ∧ w.cell? ⟨b, o + k * 2, none⟩ = some (.int .i64 (l.getD k Ch.z).bk) ∧ w.cell? ⟨b, o + k * 2 + 1, none⟩ = some (.string (l.getD k Ch.z).dt) := h.2.2 k hk
theorem ChsAt.bd (h : ChsAt w B A n l) (k : Nat) : (l.getD k Ch.z).fit := by
  rcases Nat.lt_or_ge k l.length with hl | hl
  · have := h.2.1 l[k] (List.getElem_mem hl)
    simpa [List.getD, List.getElem?_eq_getElem hl] using this
  · simp only [List.getD, List.getElem?_eq_none hl, Option.getD_none]; exact Ch.fit_z
theorem ChsAt.keep (h : ChsAt w B A n l) (hk : ∀ p : Addr, p.block < B → w'.cell? p = w.cell? p) : ChsAt w' B A n l :=
  ⟨h.1, h.2.1, fun k hkn => by
    obtain ⟨b, o, e, hb, h1, h2⟩ := h.2.2 k hkn
    exact ⟨b, o, e, hb, (hk _ hb).trans h1, (hk _ hb).trans h2⟩⟩
theorem ChsAt.more (h : ChsAt w B A n l) (hB : B ≤ B') : ChsAt w B' A n l :=
  ⟨h.1, h.2.1, fun k hkn => by
    obtain ⟨b, o, e, hb, hc⟩ := h.2.2 k hkn
    exact ⟨b, o, e, by omega, hc⟩⟩
theorem ChsAt.below {C : Nat} (h : ChsAt w B A n l) (hb : Below C w w') (hBC : B ≤ C) : ChsAt w' B A n l :=
  h.keep fun _ hp => hb.cell (by omega)
theorem ChsAt.to (h : ChsAt w w.heap.size A n l) (hb : Below w.heap.size w w') : ChsAt w' w'.heap.size A n l := (h.below hb (Nat.le_refl _)).more hb.size
theorem ChsAt.take (h : ChsAt w B A n l) (m : Nat) (hm : m ≤ n) : ChsAt w B A m (l.take m) :=
  ⟨by rw [List.length_take, h.1]; omega, fun z hz => h.2.1 z (List.mem_of_mem_take hz), fun k hk => by
    obtain ⟨b, o, e, hb, h1, h2⟩ := h.2.2 k (by omega)
    have e1 : (l.take m).getD k Ch.z = l.getD k Ch.z := by simp [List.getD, List.getElem?_take_of_lt hk]
    rw [e1]
    exact ⟨b, o, e, hb, h1, h2⟩⟩
theorem ChsAt.nil (w : World) (B : Nat) (A : Option Addr) : ChsAt w B A 0 [] := ⟨rfl, by simp, fun k hk => by omega⟩
end
theorem bcell {C : Nat} {w w' : World} {a : Addr} {v : Value} (hb : Below C w w') (h : w.cell? a = some v) (hl : a.block < C) : w'.cell? a = some v := (hb.cell hl).trans h

theorem cell_new (w : World) (cs : Array Value) (t : TypeId) (k : Nat) {v : Value} (h : cs[k]? = some v) : (w.alloc (.cells cs t)).cell? ⟨w.heap.size, k, none⟩ = some v := by
  rw [cell_of_row _ _ _ _ _ _ (heap_alloc_new w _)]; exact h

/-! ### rows of the call's own -/
def chCells (s : Ch) : List Value := [.int .i64 s.bk, .string s.dt]
def chsCells (l : List Ch) : List Value := l.flatMap chCells
theorem chsCells_len : ∀ l : List Ch, (chsCells l).length = l.length * 2
  | [] => rfl
  | s :: r => by
    have := chsCells_len r
    simp only [chsCells, List.flatMap_cons, List.length_append, chCells, List.length_cons, List.length_nil] at this ⊢
    omega
theorem chsCells_snoc (l : List Ch) (s : Ch) : chsCells (l ++ [s]) = chsCells l ++ chCells s := by simp [chsCells]
theorem chsCells_at : ∀ (l : List Ch) (k : Nat), k < l.length → (chsCells l)[k * 2]? = some (.int .i64 (l.getD k Ch.z).bk) ∧ (chsCells l)[k * 2 + 1]? = some (.string (l.getD k Ch.z).dt)
  | s :: r, 0, _ => by simp [chsCells, chCells]
  | s :: r, k + 1, h => by
    have ih := chsCells_at r k (by simpa using h)
    have e : chsCells (s :: r) = .int .i64 s.bk :: .string s.dt :: chsCells r := by simp [chsCells, chCells]
    have e3 : (k + 1) * 2 = k * 2 + 2 := by omega
    rw [e, e3]
    simpa using ih
/-- an entry stored. -/
theorem chsCells_set : ∀ (l : List Ch) (k : Nat) (s : Ch), k < l.length → ((chsCells l).set (k * 2) (.int .i64 s.bk)).set (k * 2 + 1) (.string s.dt) = chsCells (l.set k s)
  | a :: r, 0, s, _ => by simp [chsCells, chCells]
  | a :: r, k + 1, s, h => by
    have ih := chsCells_set r k s (by simpa using h)
    have e : chsCells (a :: r) = .int .i64 a.bk :: .string a.dt :: chsCells r := by simp [chsCells, chCells]
    have e2 : chsCells ((a :: r).set (k + 1) s) = .int .i64 a.bk :: .string a.dt :: chsCells (r.set k s) := by simp [chsCells, chCells]
    have e3 : (k + 1) * 2 = k * 2 + 2 := by omega
    rw [e, e2, e3, ← ih]
    simp

theorem ChsAt.of_own {w : World} {base : Nat} {v : Value} {A : Option Addr} {c : Nat} {l : List Ch} (h : w.ownsRow base 68 2 v l.length (chsCells l)) (hv : v = .slice A l.length c) (hf : ∀ s ∈ l, s.fit) : ChsAt w w.heap.size A l.length l := by
  refine ⟨rfl, hf, fun k hk => ?_⟩
  obtain ⟨g, cap, e, _, hlt⟩ := h.form (by omega)
  subst hv
  have hA : A = some ⟨g, 0, none⟩ := by injection e
  subst hA
  obtain ⟨h1, h2⟩ := chsCells_at l k hk
  have hcell := h.cells (g := g) rfl
  refine ⟨g, 0, rfl, hlt, ?_, ?_⟩
  · have := hcell _ _ h1; rwa [Go.WideShapes.add_plain] at this
  · have := hcell _ _ h2; rw [Go.WideShapes.add_plain] at this; exact this

/-- nothing but draws lies between two worlds. -/
def Drew (w w' : World) : Prop := ∃ n, w' = w.drewN n
theorem Drew.refl (w : World) : Drew w w := ⟨0, rfl⟩
theorem Drew.trans {a b c : World} (h : Drew a b) (k : Drew b c) : Drew a c := by
  obtain ⟨n, rfl⟩ := h
  obtain ⟨m, rfl⟩ := k
  exact ⟨n + m, World.drewN_drewN _ _ _⟩
theorem Drew.cells {a b : World} (h : Drew a b) (p : Addr) : b.cell? p = a.cell? p := by
  obtain ⟨n, rfl⟩ := h
  rfl
theorem Below.drews {B : Nat} {a b c : World} (h : Below B a b) (k : Drew b c) : Below B a c := by
  obtain ⟨n, rfl⟩ := k
  exact ⟨h.os, h.tape, h.output, h.size, h.block⟩
theorem undrew {w w' : World} (b : Below w.drew.heap.size w.drew w') : Below w.heap.size w w' := ⟨b.os, b.tape, b.output, b.size, b.block⟩

/-- an answer that is a new slice of entries, of the call's own. -/
def RetOwnC (w : World) (l : List Ch) (e : Ending) (w' : World) : Prop := ∃ v, e = .returned v ∧ w'.ownsRow w.heap.size 68 2 v l.length (chsCells l) ∧ Below w.heap.size w w'
/-- an answer that is a slice of entries. -/
def RetChs (w : World) (l : List Ch) (e : Ending) (w' : World) : Prop := ∃ A c, e = .returned (.slice A l.length c) ∧ l.length ≤ c ∧ ChsAt w' w'.heap.size A l.length l ∧ Below w.heap.size w w'
theorem own_slice {w : World} {base n : Nat} {v : Value} {xs : List Value} {e : TypeId} {sz : Nat} (h : w.ownsRow base e sz v n xs) : ∃ A c, v = .slice A n c ∧ n ≤ c := by
  rcases h.2 with ⟨rfl, rfl⟩ | ⟨g, cap, cur, rfl, _, _, hc, _⟩
  · exact ⟨none, 0, rfl, Nat.le_refl _⟩
  · exact ⟨_, _, rfl, hc⟩
theorem RetOwnC.ens {w : World} {l : List Ch} {e : Ending} {w' : World} (h : RetOwnC w l e w') (hf : ∀ s ∈ l, s.fit) : RetChs w l e w' := by
  obtain ⟨v, rfl, ho, hb⟩ := h
  obtain ⟨A, c, rfl, hc⟩ := own_slice ho
  exact ⟨A, c, rfl, hc, ChsAt.of_own ho rfl hf, hb⟩
theorem own_below {w w' : World} {base C n sz : Nat} {e : TypeId} {v : Value} {xs : List Value} (h : w.ownsRow base e sz v n xs) (hb : Below C w w') (hC : w.heap.size ≤ C) : w'.ownsRow base e sz v n xs :=
  h.kept (row := none) ⟨hb.os, hb.tape, hb.output, hb.size, fun k hk _ => hb.block k (by omega)⟩ (by cases v.ownBlock <;> simp)
/-- an entry of a row of one's own: where it lies. -/
theorem ownc_at {w : World} {base : Nat} {v : Value} {l : List Ch} (h : w.ownsRow base 68 2 v l.length (chsCells l)) {k : Nat} (hk : k < l.length) :
    ∃ g cap, v = .slice (some ⟨g, 0, none⟩) l.length cap ∧ base ≤ g ∧ g < w.heap.size ∧ w.cell? ⟨g, k * 2, none⟩ = some (.int .i64 (l.getD k Ch.z).bk) ∧ w.cell? ⟨g, k * 2 + 1, none⟩ = some (.string (l.getD k Ch.z).dt) ∧
      w.frozen? ⟨g, k * 2, none⟩ = false ∧ w.frozen? ⟨g, k * 2 + 1, none⟩ = false := by
  have hc := chsCells_at l k hk
  obtain ⟨g, cap, rfl, hbg, hlt⟩ := h.form (by omega)
  refine ⟨g, cap, rfl, hbg, hlt, ?_, ?_, h.frozenAt _, h.frozenAt _⟩
  · rw [h.cellAt _ (by omega)]; exact hc.1
  · rw [h.cellAt _ (by omega)]; exact hc.2
/-- an entry of a row of one's own, stored. -/
theorem ownc_set {w : World} {base g cap : Nat} {l : List Ch} (h : w.ownsRow base 68 2 (.slice (some ⟨g, 0, none⟩) l.length cap) l.length (chsCells l)) {k : Nat} (hk : k < l.length) (s : Ch) :
    ((w.setCell ⟨g, k * 2, none⟩ (.int .i64 s.bk)).setCell ⟨g, k * 2 + 1, none⟩ (.string s.dt)).ownsRow base 68 2 (.slice (some ⟨g, 0, none⟩) l.length cap) l.length (chsCells (l.set k s)) := by
  have h1 := (h.stored (k * 2) (.int .i64 s.bk)).1
  have h2 := (h1.stored (k * 2 + 1) (.string s.dt)).1
  rw [chsCells_set l k s hk] at h2
  exact h2

theorem info58 : (Tryz.prog.info? 68).map (fun i => (i.zero, i.size, i.bytes)) = some (some (.agg #[.int .i64 0, .string ⟨#[]⟩]), 2, 24) := by kernel_rfl
theorem one_ch (s : Ch) : ∀ u ∈ chCells s, u.oneCell' = true := by simp [chCells, Value.oneCell']
/-- 'append(l, s)' of entries, at the list of a plain region's operations. -/
theorem pushC_law {ops : Array Oper} {rest : List Oper} {o : Oper} {a : Act} {Q : Exit → Act → World → Prop} (hgd : o.guard = none) (s x : Operand)
    (ho : o.op = .call { callee := .builtin .append, args := #[s, x], argTypes := #[65, 65] })
    (base : Nat) (W : World) (v : Value) (l : List Ch) (bk : Int) (dt : ByteArray) (hs : a.eval s = v) (hx : a.eval x = .slice (some ⟨W.heap.size, 0, none⟩) 1 1)
    (hown : W.ownsRow base 68 2 v l.length (chsCells l)) (hl : l.length ≤ 100000) (hbase : base ≤ W.heap.size)
    (h : ∀ v' w', w'.ownsRow base 68 2 v' (l ++ [(⟨bk, dt⟩ : Ch)]).length (chsCells (l ++ [⟨bk, dt⟩])) → Below base W w' → wpList Tryz.prog ops Q rest (a.put o.dst v') w') :
    wpList Tryz.prog ops Q (o :: rest) a (W.alloc (.cells #[.int .i64 bk, .string dt] 68)) := by
  obtain ⟨i0, hi, hz0, hz1, hz2⟩ := info_parts info58
  refine wpList_append_own _ hgd s x 65 ho base 68 i0 _ 2 24 Tryz.underlying65 hi hz0 hz1 hz2 rfl (by decide) v l.length (chsCells l) hs (hown.alloc _) ⟨W.heap.size, 0, none⟩ 1 1 (chCells ⟨bk, dt⟩) hx rfl
    (World.news_of_block (heap_alloc_new W _)) (one_ch ⟨bk, dt⟩) (by unfold maxLen; omega) (by omega) (by simp; omega) ?_
  intro v' w' hown' hg _
  refine h v' w' ?_ ?_
  · rw [chsCells_snoc, List.length_append]; exact hown'
  · exact (((Below.refl base W).alloc hbase _).grown hg (by simp; omega) (fun k hk => (hown.lt k hk).1))
end Go.Proofs.YtgdlfiejjnjcpaaGreat.Lg

namespace Go.Proofs.YtgdlfiejjnjcpaaGreat.Lg
open Go.RowKit
open Sl (St)

/-! ### which changes may be -/
def ownB (i : Int) : Bool := decide (1 ≤ i) && decide (i ≤ 41)
theorem ownB_t {i : Int} : ownB i = true ↔ 1 ≤ i ∧ i ≤ 41 := by simp [ownB]
theorem ownB_f {i : Int} : ownB i = false ↔ ¬ (1 ≤ i ∧ i ≤ 41) := by rw [← ownB_t]; simp
def okAt (N : Nat) (l : List Int) (k : Nat) : Bool := decide (0 ≤ l.getD k 0) && decide (l.getD k 0 < N) && !ownB (l.getD k 0) && !((l.take k).contains (l.getD k 0))
def chB (N : Nat) (l : List Int) : Bool := (List.range l.length).all (okAt N l)
theorem chB_t {N : Nat} {l : List Int} : chB N l = true ↔ ∀ k, k < l.length → okAt N l k = true := by simp [chB]
theorem chB_no {N : Nat} {l : List Int} {k : Nat} (hk : k < l.length) (h : okAt N l k = false) : chB N l = false := by
  cases hc : chB N l with
  | false => rfl
  | true => rw [chB_t.1 hc k hk] at h; cases h
theorem okAt_t {N : Nat} {l : List Int} {k : Nat} : okAt N l k = true ↔ 0 ≤ l.getD k 0 ∧ l.getD k 0 < N ∧ ¬ (1 ≤ l.getD k 0 ∧ l.getD k 0 ≤ 41) ∧ (l.take k).contains (l.getD k 0) = false := by
  simp only [okAt, Bool.and_eq_true, Bool.not_eq_true', decide_eq_true_eq, ownB_f]
  constructor
  · rintro ⟨⟨⟨a, b⟩, c⟩, d⟩; exact ⟨a, b, c, d⟩
  · rintro ⟨a, b, c, d⟩; exact ⟨⟨⟨a, b⟩, c⟩, d⟩
def bks (l : List Ch) : List Int := l.map Ch.bk
theorem bks_len (l : List Ch) : (bks l).length = l.length := by simp [bks]
theorem bks_get (l : List Ch) (k : Nat) : (bks l).getD k 0 = (l.getD k Ch.z).bk := by
  simp only [bks, List.getD, List.getElem?_map]
  cases l[k]? <;> rfl
def okC (N : Nat) (l : List Ch) (k : Nat) : Bool := okAt N (bks l) k && decide ((l.getD k Ch.z).dt.size = 128)
def okL (N : Nat) (l : List Ch) : Bool := (List.range l.length).all (okC N l)
theorem okL_t {N : Nat} {l : List Ch} : okL N l = true ↔ ∀ k, k < l.length → okC N l k = true := by simp [okL]
theorem okL_no {N : Nat} {l : List Ch} {k : Nat} (hk : k < l.length) (h : okC N l k = false) : okL N l = false := by
  cases hc : okL N l with
  | false => rfl
  | true => rw [okL_t.1 hc k hk] at h; cases h
theorem okC_t {N : Nat} {l : List Ch} {k : Nat} : okC N l k = true ↔ okAt N (bks l) k = true ∧ (l.getD k Ch.z).dt.size = 128 := by simp [okC]
/-- which changes may be: 0, or the error. -/
def rightC (l : List Ch) (N : Nat) : Int := if 40 < l.length then 13 else if okL N l = true then 0 else 1
theorem rightC_big {l : List Ch} {N : Nat} (h : 40 < l.length) : rightC l N = 13 := by unfold rightC; rw [if_pos h]
theorem rightC_ok {l : List Ch} {N : Nat} (h : ¬ 40 < l.length) (h2 : okL N l = true) : rightC l N = 0 := by unfold rightC; rw [if_neg h, if_pos h2]
theorem rightC_no {l : List Ch} {N : Nat} (h : ¬ 40 < l.length) (h2 : okL N l = false) : rightC l N = 1 := by unfold rightC; rw [if_neg h, if_neg (by rw [h2]; decide)]
theorem rightC_0 {l : List Ch} {N : Nat} (h : rightC l N = 0) : ¬ 40 < l.length ∧ okL N l = true := by
  unfold rightC at h
  by_cases h1 : 40 < l.length
  · rw [if_pos h1] at h; cases h
  · rw [if_neg h1] at h
    by_cases h2 : okL N l = true
    · exact ⟨h1, h2⟩
    · rw [if_neg h2] at h; cases h
theorem okL_ch {N : Nat} {l : List Ch} (h : okL N l = true) : chB N (bks l) = true :=
  chB_t.2 fun k hk => (okC_t.1 (okL_t.1 h k (by rwa [bks_len] at hk))).1
theorem okL_of {N : Nat} {l : List Ch} (h : chB N (bks l) = true) (hs : ∀ k, k < l.length → (l.getD k Ch.z).dt.size = 128) : okL N l = true :=
  okL_t.2 fun k hk => okC_t.2 ⟨chB_t.1 h k (by rwa [bks_len]), hs k hk⟩
/-- the blocks lie in the slab. -/
def InL (N : Nat) (l : List Ch) : Prop := ∀ c ∈ l, 0 ≤ c.bk ∧ c.bk < N ∧ c.dt.size = 128
theorem okL_in {N : Nat} {l : List Ch} (h : okL N l = true) : InL N l := by
  intro c hc
  obtain ⟨k, hk, rfl⟩ := List.mem_iff_getElem.1 hc
  obtain ⟨h1, h2⟩ := okC_t.1 (okL_t.1 h k hk)
  have e : l.getD k Ch.z = l[k] := by simp [List.getD, hk]
  obtain ⟨a, b, _⟩ := okAt_t.1 h1
  rw [bks_get, e] at a b
  rw [e] at h2
  exact ⟨a, b, h2⟩
theorem okL_own {N : Nat} {l : List Ch} (h : okL N l = true) : ∀ c ∈ l, ¬ (1 ≤ c.bk ∧ c.bk ≤ 41) := by
  intro c hc
  obtain ⟨k, hk, rfl⟩ := List.mem_iff_getElem.1 hc
  obtain ⟨h1, h2⟩ := okC_t.1 (okL_t.1 h k hk)
  have e : l.getD k Ch.z = l[k] := by simp [List.getD, hk]
  obtain ⟨_, _, a, _⟩ := okAt_t.1 h1
  rwa [bks_get, e] at a

/-! ### what blocks are behind changes -/
def setL (D : List ByteArray) (l : List Ch) : List ByteArray := l.foldl (fun D c => D.set c.bk.toNat c.dt) D
theorem setL_len (l : List Ch) : ∀ D : List ByteArray, (setL D l).length = D.length := by
  induction l with
  | nil => intro D; rfl
  | cons c r ih => intro D; show (setL (D.set c.bk.toNat c.dt) r).length = _; rw [ih]; simp
theorem setL_snoc (D : List ByteArray) (l : List Ch) (c : Ch) : setL D (l ++ [c]) = (setL D l).set c.bk.toNat c.dt := by simp [setL]
def FS (D : List ByteArray) (c : Nat) : St := ⟨D, fun _ => none, c, false, 0⟩
def wall (σ : St) (l : List Ch) : St := l.foldl (fun σ c => σ.tick.put c.bk c.dt) σ
def fl (σ : St) : St := { σ.tick with dur := σ.img }.firm
theorem wall_snoc (σ : St) (l : List Ch) (c : Ch) : wall σ (l ++ [c]) = (wall σ l).tick.put c.bk c.dt := by simp [wall]
theorem wall_same (l : List Ch) : ∀ σ : St, (wall σ l).dur = σ.dur ∧ (wall σ l).stops = σ.stops ∧ (wall σ l).stopAt = σ.stopAt ∧ (wall σ l).calls = σ.calls + l.length := by
  induction l with
  | nil => intro σ; exact ⟨rfl, rfl, rfl, rfl⟩
  | cons c r ih =>
    intro σ
    obtain ⟨a, b, d, e⟩ := ih (σ.tick.put c.bk c.dt)
    refine ⟨a, b, d, e.trans ?_⟩
    show σ.calls + 1 + r.length = _
    simp only [List.length_cons]; omega
theorem put_img {σ : St} {i : Int} {s : ByteArray} (h0 : 0 ≤ i) (h : i < (σ.dur.length : Int)) : (σ.tick.put i s).img = σ.img.set i.toNat s := by
  obtain ⟨n, rfl⟩ := Int.eq_ofNat_of_zero_le h0
  apply List.ext_getElem (by simp [Sl.St.img, Sl.St.put, Sl.St.tick])
  intro j h1 h2
  rw [List.getElem_set]
  simp only [Sl.St.img, List.getElem_map, List.getElem_range, Sl.St.at, Sl.St.put, Sl.St.tick]
  by_cases e : n = j
  · subst e; simp
  · have : ¬ ((j : Int) = (n : Int)) := by omega
    rw [if_neg this, if_neg (by simpa using e)]
theorem wall_img (l : List Ch) : ∀ σ : St, InL σ.dur.length l → (wall σ l).img = setL σ.img l := by
  induction l with
  | nil => intro σ _; rfl
  | cons c r ih =>
    intro σ h
    obtain ⟨h0, h1, _⟩ := h c (by simp)
    have := ih (σ.tick.put c.bk c.dt) (fun d hd => h d (by simp [hd]))
    rw [put_img h0 h1] at this
    exact this
theorem img_FS (D : List ByteArray) (c : Nat) : (FS D c).img = D := by
  apply List.ext_getElem (by simp [Sl.St.img, FS])
  intro j h1 h2
  simp [Sl.St.img, FS, Sl.St.at, List.getD, h2]
theorem fl_wall {D : List ByteArray} {c : Nat} {l : List Ch} (h : InL D.length l) : fl (wall (FS D c) l) = FS (setL D l) (c + l.length + 1) := by
  have h1 := wall_img l (FS D c) h
  rw [img_FS] at h1
  obtain ⟨a, b, d, e⟩ := wall_same l (FS D c)
  unfold fl
  rw [h1]
  show (⟨setL D l, _, (wall (FS D c) l).calls + 1, (wall (FS D c) l).stops, (wall (FS D c) l).stopAt⟩ : St) = _
  rw [b, d, e]; rfl
theorem setL_one (D : List ByteArray) (s : ByteArray) : setL D [⟨1, s⟩] = D.set 1 s := rfl
theorem halted_FS {σ : St} (h : σ.stops = false) : σ.halted = false := by unfold Sl.St.halted; rw [h]; rfl
theorem padS_full {s : ByteArray} (h : s.size = 128) : Sl.padS s 128 = s := by
  apply ByteArray.ext
  show (s.data.toList ++ List.replicate (128 - s.size) 0).toArray = s.data
  rw [h]; simp
theorem write_ok {σ : St} {i : Int} {s : ByteArray} (hr : σ.stops = false) (h0 : 0 ≤ i) (h1 : i < (σ.dur.length : Int)) (hs : s.size = 128) : σ.write i s = σ.tick.put i s ∧ σ.writeE i s = 0 := by
  have hf : σ.fits i s = true := by unfold Sl.St.fits Sl.St.has; simp [h0, h1, hs]
  have hh := halted_FS hr
  simp [Sl.St.write, Sl.St.writeE, hh, hf, padS_full hs]
theorem flush_ok {σ : St} (hr : σ.stops = false) : σ.flush = fl σ ∧ σ.flushE = 0 := by
  have hh := halted_FS hr
  simp [Sl.St.flush, Sl.St.flushE, hh, fl]

/-! ### a head -/
def hdW (n : Nat) : List Int := 1 :: List.replicate n 2
def headB (bl : List Int) : ByteArray := (Sl.padR (strOfNums (writeR (hdW bl.length) (bl.length :: bl)).1) 128).1
theorem hdW_len (n : Nat) : (hdW n).length = n + 1 := by simp [hdW]
theorem hdW_0 (n : Nat) : (hdW n).getD 0 0 = 1 := rfl
theorem hdW_s {n k : Nat} (h : k < n) : (hdW n).getD (k + 1) 0 = 2 := by simp [hdW, List.getD, h]
theorem hdW_ok (n : Nat) : ∀ k, k ≤ n + 1 → okTo (hdW n) k = true
  | 0, _ => rfl
  | 1, _ => by simp [okTo, hdW, wOk]
  | k + 2, h => by
    have ih := hdW_ok n (k + 1) (by omega)
    rw [okTo, ih, hdW_s (by omega)]; rfl
theorem hdW_sum (n : Nat) : ∀ k, k ≤ n → sumTo (hdW n) (k + 1) = 1 + 2 * k
  | 0, _ => by simp [sumTo, hdW]
  | k + 1, h => by
    have ih := hdW_sum n k (by omega)
    rw [sumTo, ih, hdW_s (by omega)]; push_cast; omega
theorem strOf_size (l : List Int) : (strOfNums l).size = l.length := by simp [strOfNums, ByteArray.size]
theorem size_padS (s : ByteArray) (n : Nat) (h : s.size ≤ n) : (Sl.padS s n).size = n := by
  show (s.data.toList ++ List.replicate (n - s.size) 0).toArray.size = n
  have : s.data.toList.length = s.size := by simp
  rw [List.size_toArray, List.length_append, List.length_replicate, this]; omega
theorem write_len (n : Nat) (vs : List Int) : (writeR (hdW n) vs).1.length ≤ 2 * n + 1 := by
  by_cases h : (writeR (hdW n) vs).2 = 0
  · obtain ⟨_, h2⟩ := readR_written (hdW n) vs [] h
    rw [sizeS_good _ (by rw [hdW_len]; exact hdW_ok n _ (Nat.le_refl _)), hdW_len, hdW_sum n n (Nat.le_refl _)] at h2
    omega
  · rw [writeR_err _ _ h]; simp
theorem head_pad {bl : List Int} (h : bl.length ≤ 40) : Sl.padR (strOfNums (writeR (hdW bl.length) (bl.length :: bl)).1) 128 = (headB bl, 0) := by
  have := write_len bl.length (bl.length :: bl)
  unfold headB
  rw [Sl.padR_ok (by omega) (by rw [strOf_size]; omega)]
theorem headB_is {bl : List Int} (h : bl.length ≤ 40) : headB bl = Sl.padS (strOfNums (writeR (hdW bl.length) (bl.length :: bl)).1) 128 := by
  have := write_len bl.length (bl.length :: bl)
  unfold headB
  rw [Sl.padR_ok (by omega) (by rw [strOf_size]; omega)]
  rfl
theorem headB_size {bl : List Int} (h : bl.length ≤ 40) : (headB bl).size = 128 := by
  have := write_len bl.length (bl.length :: bl)
  rw [headB_is h]
  exact size_padS _ _ (by rw [strOf_size]; omega)
/-- what a head says. -/
def cntH (s : ByteArray) : Nat := (decF (bytesOf s) 0 1).toNat
def hdL (s : ByteArray) : List Int := (readTo (hdW (cntH s)) (bytesOf s) (cntH s + 1)).drop 1
theorem cnt_nat (s : ByteArray) : decF (bytesOf s) 0 1 = (cntH s : Int) ∧ cntH s ≤ 255 := by
  have := decF_bd (bytesOf s) (bytesOf_bd s) 1 0
  unfold cntH
  simp at this
  omega
theorem hdL_len (s : ByteArray) : (hdL s).length = cntH s := by simp [hdL, readTo_len]
theorem hdL_cons (s : ByteArray) : readTo (hdW (cntH s)) (bytesOf s) (cntH s + 1) = (cntH s : Int) :: hdL s := by
  have h0 := readTo_get (hdW (cntH s)) (bytesOf s) (cntH s + 1) 0 (by omega)
  have hl := readTo_len (hdW (cntH s)) (bytesOf s) (cntH s + 1)
  unfold hdL
  generalize readTo (hdW (cntH s)) (bytesOf s) (cntH s + 1) = r at *
  cases r with
  | nil => simp at hl
  | cons a r =>
    have h1 : a = decF (bytesOf s) 0 1 := h0
    rw [h1, (cnt_nat s).1]; rfl
theorem hdL_get (s : ByteArray) {k : Nat} (h : k < cntH s) : (hdL s).getD k 0 = decF (bytesOf s) (1 + 2 * k) 2 := by
  have h0 := readTo_get (hdW (cntH s)) (bytesOf s) (cntH s + 1) (k + 1) (by omega)
  rw [hdL_cons, hdW_s h, hdW_sum _ k (by omega)] at h0
  have e : (1 + 2 * (k : Int)).toNat = 1 + 2 * k := by omega
  rw [e] at h0
  exact h0
theorem hdL_bd (s : ByteArray) : ∀ z ∈ hdL s, 0 ≤ z ∧ z ≤ 65535 := by
  intro z hz
  obtain ⟨k, hk, rfl⟩ := List.mem_iff_getElem.1 hz
  have h1 := hdL_get s (k := k) (by rw [hdL_len] at hk; exact hk)
  have e : (hdL s).getD k 0 = (hdL s)[k] := by simp [List.getD, hk]
  rw [← e, h1]
  have := decF_bd (bytesOf s) (bytesOf_bd s) 2 (1 + 2 * k)
  simp at this
  omega
theorem read_hd {s : ByteArray} (hs : s.size = 128) (h : cntH s ≤ 40) : readR (hdW (cntH s)) (bytesOf s) = ((cntH s : Int) :: hdL s, 0) := by
  rw [readR_ok (by rw [hdW_len]; exact hdW_ok _ _ (Nat.le_refl _)) (by rw [bytesOf_len, hdW_len, hdW_sum _ _ (Nat.le_refl _), hs]; omega), hdW_len, hdL_cons]
theorem read_cnt {s : ByteArray} (hs : s.size = 128) : readR (hdW 0) (bytesOf s) = ([(cntH s : Int)], 0) := by
  rw [readR_ok (by decide) (by rw [bytesOf_len, hs]; decide)]
  have h0 := readTo_get (hdW 0) (bytesOf s) 1 0 (by omega)
  have hl := readTo_len (hdW 0) (bytesOf s) 1
  show (readTo (hdW 0) (bytesOf s) 1, (0 : Int)) = _
  generalize readTo (hdW 0) (bytesOf s) 1 = r at *
  match r, hl, h0 with
  | [a], _, h0 =>
    have h1 : a = decF (bytesOf s) 0 1 := h0
    rw [h1, (cnt_nat s).1]
/-- the bytes behind the changes of a head are zeros. -/
def tailZ (s : ByteArray) : Bool := (List.range 128).all fun i => decide (i < 1 + 2 * cntH s) || decide ((bytesOf s).getD i 0 = 0)
theorem tailZ_t {s : ByteArray} : tailZ s = true ↔ ∀ i, i < 128 → 1 + 2 * cntH s ≤ i → (bytesOf s).getD i 0 = 0 := by
  simp only [tailZ, List.all_eq_true, List.mem_range, Bool.or_eq_true, decide_eq_true_eq]
  constructor
  · intro h i hi h2; rcases h i hi with h | h
    · omega
    · exact h
  · intro h i hi
    by_cases h2 : i < 1 + 2 * cntH s
    · exact Or.inl h2
    · exact Or.inr (h i hi (by omega))
theorem strOf_bytes (s : ByteArray) (k : Nat) : strOfNums ((bytesOf s).take k) = ⟨(s.data.toList.take k).toArray⟩ := by
  unfold strOfNums bytesOf
  rw [← List.map_take, List.map_map]
  have : (fun b : UInt8 => b) = ((fun x : Int => UInt8.ofNat x.toNat) ∘ fun b : UInt8 => (b.toNat : Int)) := by
    funext b; simp
  show (⟨((s.data.toList.take k).map ((fun x : Int => UInt8.ofNat x.toNat) ∘ fun b : UInt8 => (b.toNat : Int))).toArray⟩ : ByteArray) = _
  rw [← this, List.map_id']
theorem headB_back {s : ByteArray} (hs : s.size = 128) (h : cntH s ≤ 40) : headB (hdL s) = ⟨(s.data.toList.take (1 + 2 * cntH s) ++ List.replicate (127 - 2 * cntH s) 0).toArray⟩ := by
  have hw := write_read (hdW (cntH s)) (bytesOf s) (bytesOf_bd s) (by rw [hdW_len]; exact hdW_ok _ _ (Nat.le_refl _)) (by rw [bytesOf_len, hdW_len, hdW_sum _ _ (Nat.le_refl _), hs]; omega)
  rw [hdW_len, hdL_cons] at hw
  obtain ⟨hf, he⟩ := hw (cntH s + 1) (Nat.le_refl _)
  rw [hdW_sum _ _ (Nat.le_refl _)] at he
  have hw2 : writeR (hdW (cntH s)) ((cntH s : Int) :: hdL s) = ((bytesOf s).take (1 + 2 * (cntH s : Int)).toNat, 0) := by
    rw [writeR_ok (by rw [hdW_len]; exact hdW_ok _ _ (Nat.le_refl _)) (by rw [hdW_len, List.length_cons, hdL_len]) (by rw [hdW_len]; exact hf), hdW_len, he]
  rw [headB_is (by rw [hdL_len]; exact h), hdL_len, hw2]
  have e : (1 + 2 * (cntH s : Int)).toNat = 1 + 2 * cntH s := by omega
  rw [e, strOf_bytes]
  unfold Sl.padS
  have hl : (⟨(s.data.toList.take (1 + 2 * cntH s)).toArray⟩ : ByteArray).size = 1 + 2 * cntH s := by
    show (s.data.toList.take (1 + 2 * cntH s)).toArray.size = _
    have : s.data.toList.length = s.size := by simp
    rw [List.size_toArray, List.length_take, this, hs]; omega
  rw [hl]
  congr 3
  · congr 1; omega
theorem tail_iff {s : ByteArray} (hs : s.size = 128) (h : cntH s ≤ 40) : (headB (hdL s) = s) ↔ tailZ s = true := by
  have hl : s.data.toList.length = 128 := by rw [← hs]; simp
  rw [headB_back hs h, tailZ_t]
  have e0 : ∀ i, (hi : i < 128) → ((bytesOf s).getD i 0 = 0 ↔ s.data.toList[i]'(by omega) = 0) := by
    intro i hi
    simp only [bytesOf, List.getD, List.getElem?_map]
    rw [List.getElem?_eq_getElem (by omega)]
    simp only [Option.map_some, Option.getD_some]
    constructor
    · intro h
      have h' : (s.data.toList[i]'(by omega)).toNat = 0 := by omega
      exact UInt8.toNat_inj.1 h'
    · intro h; rw [h]; rfl
  constructor
  · intro he i hi h2
    rw [e0 i hi]
    have : (s.data.toList.take (1 + 2 * cntH s) ++ List.replicate (127 - 2 * cntH s) 0) = s.data.toList := by
      have := congrArg (fun b : ByteArray => b.data.toList) he
      simpa using this
    have h3 : (s.data.toList.take (1 + 2 * cntH s) ++ List.replicate (127 - 2 * cntH s) 0)[i]? = s.data.toList[i]? := by rw [this]
    rw [List.getElem?_append_right (by rw [List.length_take, hl]; omega), List.getElem?_replicate, List.getElem?_eq_getElem (by omega)] at h3
    split at h3
    · exact (Option.some.inj h3).symm
    · cases h3
  · intro hz
    apply ByteArray.ext
    show (s.data.toList.take (1 + 2 * cntH s) ++ List.replicate (127 - 2 * cntH s) 0).toArray = s.data
    have : s.data.toList.take (1 + 2 * cntH s) ++ List.replicate (127 - 2 * cntH s) 0 = s.data.toList := by
      apply List.ext_getElem
      · rw [List.length_append, List.length_take, List.length_replicate, hl]; omega
      · intro i h1 h2
        rw [hl] at h2
        by_cases hi : i < 1 + 2 * cntH s
        · rw [List.getElem_append_left (by rw [List.length_take, hl]; omega), List.getElem_take]
        · rw [List.getElem_append_right (by rw [List.length_take, hl]; omega), List.getElem_replicate]
          exact ((e0 i h2).1 (hz i h2 (by omega))).symm
    rw [this]
/-- may a head be? -/
def hdOk (s : ByteArray) (N : Nat) : Bool := decide (cntH s ≤ 40) && (chB N (hdL s) && decide (headB (hdL s) = s))
def hdOkR (s : ByteArray) (N : Nat) : Bool := decide (cntH s ≤ 40) && (tailZ s && chB N (hdL s))
theorem hdOk_eq {s : ByteArray} (hs : s.size = 128) (N : Nat) : hdOk s N = hdOkR s N := by
  unfold hdOk hdOkR
  by_cases h : cntH s ≤ 40
  · have := tail_iff hs h
    by_cases ht : tailZ s = true
    · rw [this.2 ht, ht]; simp
    · rw [decide_eq_false (fun e => ht (this.1 e)), Bool.eq_false_iff.2 ht]; simp
  · rw [decide_eq_false h]; rfl
end Go.Proofs.YtgdlfiejjnjcpaaGreat.Lg

namespace Go.Proofs.YtgdlfiejjnjcpaaGreat.Lg
open Go.RowKit

def ints (l : List Int) : List Value := l.map (Value.int .i64)
theorem ints_len (l : List Int) : (ints l).length = l.length := by simp [ints]
theorem ints_get (l : List Int) (k : Nat) (h : k < l.length) : (ints l)[k]? = some (.int .i64 (l.getD k 0)) := by
  simp [ints, List.getD, List.getElem?_eq_getElem h]

section
variable {w w' : World} {B B' : Nat} {A : Option Addr} {n : Nat} {zs : List Int}
theorem IntsAt.take (h : IntsAt w B A n zs) (m : Nat) (hm : m ≤ n) : IntsAt w B A m (zs.take m) :=
  ⟨by rw [List.length_take, h.1]; omega, fun z hz => h.2.1 z (List.mem_of_mem_take hz), fun k hk => by
    obtain ⟨b, o, e, hb, hc⟩ := h.2.2 k (by omega)
    refine ⟨b, o, e, hb, hc.trans ?_⟩
    simp [List.getD, List.getElem?_take_of_lt hk]⟩
theorem IntsAt.drop {b o : Nat} (h : IntsAt w B (some ⟨b, o, none⟩) n zs) (m : Nat) (hm : m ≤ n) : IntsAt w B (some ⟨b, o + m, none⟩) (n - m) (zs.drop m) :=
  ⟨by rw [List.length_drop, h.1], fun z hz => h.2.1 z (List.mem_of_mem_drop hz), fun k hk => by
    obtain ⟨b', o', e, hb, hc⟩ := h.2.2 (m + k) (by omega)
    cases e
    refine ⟨b, o + m, rfl, hb, ?_⟩
    rw [Nat.add_assoc]
    refine hc.trans ?_
    simp [List.getD]⟩
theorem IntsAt.nil (w : World) (B : Nat) (A : Option Addr) : IntsAt w B A 0 [] := ⟨rfl, by simp, fun _ h => absurd h (Nat.not_lt_zero _)⟩
theorem IntsAt.fit (h : IntsAt w B A n zs) : ∀ z ∈ zs, Fit z := h.2.1
end

/-- block g is a row of the ints l, known whole. -/
def IntRow (w : World) (g : Nat) (l : List Int) : Prop := w.heap[g]? = some (.cells (ints l).toArray 3 (0, 0))
theorem IntRow.lt {w : World} {g : Nat} {l : List Int} (h : IntRow w g l) : g < w.heap.size := (Array.getElem?_eq_some_iff.1 h).1
theorem IntRow.cell {w : World} {g : Nat} {l : List Int} (h : IntRow w g l) (k : Nat) (hk : k < l.length) : w.cell? ⟨g, k, none⟩ = some (.int .i64 (l.getD k 0)) := by
  rw [cell_of_row w g k _ 3 _ h, List.getElem?_toArray]
  exact ints_get l k hk
theorem IntRow.kept {w w' : World} {g : Nat} {l : List Int} {row : Option Nat} (h : IntRow w g l) (hg : w.grownBy w' row) (hne : some g ≠ row) : IntRow w' g l := (hg.block g h.lt hne).trans h
theorem IntRow.below {w w' : World} {g C : Nat} {l : List Int} (h : IntRow w g l) (hb : Below C w w') (hg : g < C) : IntRow w' g l := (hb.block g hg).trans h
theorem IntRow.alloc {w : World} {g : Nat} {l : List Int} (h : IntRow w g l) (o : Obj) : IntRow (w.alloc o) g l := h.kept (World.grownBy_alloc w o none) (by simp)
theorem IntRow.sub {w : World} {g B : Nat} {l : List Int} (h : IntRow w g l) (hf : ∀ z ∈ l, Fit z) (hB : g < B) (off n : Nat) (hn : off + n ≤ l.length) : IntsAt w B (some ⟨g, off, none⟩) n ((l.drop off).take n) :=
  ⟨by simp; omega, fun z hz => hf z (List.mem_of_mem_drop (List.mem_of_mem_take hz)), fun k hk => ⟨g, off, rfl, hB, (h.cell (off + k) (by omega)).trans (by simp [List.getD, List.getElem?_take_of_lt hk])⟩⟩
theorem IntRow.ints {w : World} {g B : Nat} {l : List Int} (h : IntRow w g l) (hf : ∀ z ∈ l, Fit z) (hB : g < B) : IntsAt w B (some ⟨g, 0, none⟩) l.length l := by
  have := h.sub hf hB 0 l.length (by omega)
  simpa using this
theorem IntRow.new (w : World) (l : List Int) : IntRow (w.alloc (.cells (Lg.ints l).toArray 3)) w.heap.size l := heap_alloc_new w _

theorem info3 : (Tryz.prog.info? 3).map (fun i => (i.zero, i.size, i.bytes)) = some (some (.int .i64 0), 1, 8) := by kernel_rfl
theorem info3s : (Tryz.prog.info? 3).map (·.size) = some 1 := by kernel_rfl
/-- 'make([]int, n)', for the walk to take. -/
theorem make_ints (n : Nat) (hn : n ≤ 65536) (W : World) : (Instr.makeSlice 27 (.int .i64 (n : Int)) (.int .i64 (n : Int))).run Tryz.prog W = .ok (.slice (some ⟨W.heap.size, 0, none⟩) n n) (W.alloc (.cells (ints (List.replicate n 0)).toArray 3)) := by
  obtain ⟨i0, hi, hz0, hz1, hz2⟩ := info_parts info3
  have h := run_make (P := Tryz.prog) W 27 3 i0 (.int .i64 0) Tryz.underlying27 hi hz0 .i64 .i64 (n : Int) (n : Int) (by omega) (by omega) (by rw [hz2]; omega) (by omega)
  have e : madeCells (Value.int .i64 0).cells (n * i0.size) = (ints (List.replicate n 0)).toArray := by
    apply Array.toList_inj.1
    have e1 : (Value.int .i64 0).cells = #[.int .i64 0] := rfl
    rw [hz1, Nat.mul_one, e1, toList_madeCells_one]
    simp [ints]
  rw [← e]
  simpa using h

theorem splice_nil {α : Type} (L : List α) (off : Nat) : splice L off [] = L := by simp [splice]
theorem ints_splice (L : List Int) (off : Nat) (cs : List Int) : ints (splice L off cs) = splice (ints L) off (ints cs) := by simp [splice, ints]
/-- 'copy(dst, src)' of ints, dst lying in a row known whole, for the walk to take. -/
theorem copy_ints (W : World) (g off dl dc B : Nat) (A : Option Addr) (n c : Nat) (L zs : List Int) (hg : IntRow W g L) (hfit : off + dl ≤ L.length) (hs : IntsAt W B A n zs) :
    ∃ W', (Builtin.copy_ #[27, 27] 3 #[.slice (some ⟨g, off, none⟩) dl dc, .slice A n c]).run Tryz.prog W = .ok (goInt (Nat.min n dl)) W' ∧ IntRow W' g (splice L off (zs.take (Nat.min n dl))) ∧ W.grownBy W' (some g) ∧ W'.heap.size = W.heap.size := by
  by_cases h0 : Nat.min n dl = 0
  · refine ⟨W, ?_, ?_, ⟨rfl, rfl, rfl, Nat.le_refl _, fun _ _ _ => rfl⟩, rfl⟩
    · rw [h0]; exact run_copy_none W 27 27 3 3 _ A dl dc n c Tryz.underlying27 info3s h0
    · rw [h0, List.take_zero, splice_nil]; exact hg
  · have hm : Nat.min n dl ≤ n := Nat.min_le_left n dl
    have hm2 : Nat.min n dl ≤ dl := Nat.min_le_right n dl
    obtain ⟨b, o, rfl, hb, -⟩ := hs.at_ (k := 0) (by omega)
    have hlen : (zs.take (Nat.min n dl)).length = Nat.min n dl := by rw [List.length_take, hs.len]; omega
    have hrun := run_copy_row (P := Tryz.prog) W 27 27 3 3 g off dl dc ⟨b, o, none⟩ n c (ints L).toArray 3 (ints (zs.take (Nat.min n dl))) Tryz.underlying27 info3s hg (by rw [ints_len, hlen])
      (fun j v hj => by
        have hj2 : j < Nat.min n dl := by
          have := (List.getElem?_eq_some_iff.1 hj).1
          rwa [ints_len, hlen] at this
        obtain ⟨b', o', e, _, hc⟩ := hs.at_ (k := j) (by omega)
        cases e
        rw [ints_get _ _ (by rw [hlen]; exact hj2)] at hj
        rw [Go.WideShapes.add_plain, hc, ← hj]
        simp [List.getD, List.getElem?_take_of_lt hj2])
      (by simp [ints_len, hlen]; omega) (fun v hv => by obtain ⟨z, _, rfl⟩ := List.mem_map.1 hv; rfl)
    rw [ints_len, hlen] at hrun
    refine ⟨_, hrun, ?_, ?_, by simp [World.setRow]⟩
    · show _ = _
      rw [setRow_heap W g _ _ 3 _ hg, ints_splice]
      simp [splice, ints_len, hlen]
    · exact ⟨rfl, rfl, rfl, by simp [World.setRow], fun k _ hk => setRow_other W g k _ (fun e => hk (by rw [e]))⟩

/-- an answer that is a new slice of ints, whose row is known whole. -/
def RetRow (w : World) (zs : List Int) (e : Ending) (w' : World) : Prop := ∃ g, w.heap.size ≤ g ∧ e = .returned (.slice (some ⟨g, 0, none⟩) zs.length zs.length) ∧ IntRow w' g zs ∧ Below w.heap.size w w'
/-- an answer that is a slice of ints. -/
def RetInts (w : World) (zs : List Int) (e : Ending) (w' : World) : Prop := ∃ A n c, e = .returned (.slice A n c) ∧ IntsAt w' w'.heap.size A n zs ∧ Below w.heap.size w w'

theorem ints_snoc (l : List Int) (z : Int) : ints (l ++ [z]) = ints l ++ [.int .i64 z] := by simp [ints]
theorem ints_one (l : List Int) : ∀ u ∈ ints l, u.oneCell' = true := by
  intro u hu
  obtain ⟨x, _, rfl⟩ := List.mem_map.1 hu
  rfl
theorem ints_at (l : List Int) (k : Nat) (h : k < l.length) : (ints l)[k]? = some (.int .i64 (l.getD k 0)) := by
  simp [ints, List.getD, h]
theorem IntsAt.of_own {w : World} {base : Nat} {v : Value} {A : Option Addr} {c : Nat} {l : List Int} (h : w.ownsRow base 3 1 v l.length (ints l)) (hv : v = .slice A l.length c) (hf : ∀ z ∈ l, Fit z) : IntsAt w w.heap.size A l.length l := by
  refine ⟨rfl, hf, fun k hk => ?_⟩
  obtain ⟨g, cap, e, _, hlt⟩ := h.form (by omega)
  subst hv
  have hA : A = some ⟨g, 0, none⟩ := by injection e
  subst hA
  have hcell := h.cells (g := g) rfl _ _ (ints_at l k hk)
  rw [Go.WideShapes.add_plain] at hcell
  exact ⟨g, 0, rfl, hlt, hcell⟩
theorem own_sliceI {w : World} {base : Nat} {v : Value} {n : Nat} {xs : List Value} (h : w.ownsRow base 3 1 v n xs) : ∃ A c, v = .slice A n c ∧ n ≤ c := by
  rcases h.2 with ⟨rfl, h0⟩ | ⟨g, cap, cur, rfl, _, _, hc, _⟩
  · have : n = 0 := by have := h.1; simp only [Nat.mul_one] at this; omega
    subst this
    exact ⟨none, 0, rfl, Nat.le_refl _⟩
  · exact ⟨_, cap, rfl, by omega⟩

theorem run_append_of_nil {P : Program} (w : World) (base : Nat) (t ty e : TypeId) (i : TypeInfo) (size : Nat) (ht : P.underlying t = some (.slice e)) (hi : P.info? e = some i)
    (v : Value) (n : Nat) (xs : List Value) (hown : w.ownsRow base e size v n xs) (c : Nat) : (Builtin.append_ #[t, t] ty #[v, .slice none 0 c]).run P w = .ok v w := by
  rcases hown.2 with ⟨rfl, rfl⟩ | ⟨g, cap, cur, rfl, _, _, hnc, _⟩
  · simp [Builtin.append_, run_underlying ht, sizeOf, typeInfo, hi, Builtin.lenOf, Builtin.firstCells]
  · simp [Builtin.append_, run_underlying ht, sizeOf, typeInfo, hi, Builtin.lenOf, Builtin.firstCells, hnc, storeCells]
set_option maxRecDepth 100000 in
/-- append of a list that lies in any memory. -/
theorem joinI_law {ops : Array Oper} {rest : List Oper} {o : Oper} {a : Act} {Q : Exit → Act → World → Prop} (hgd : o.guard = none) (s x : Operand)
    (ho : o.op = .call { callee := .builtin .append, args := #[s, x], argTypes := #[27, 27] })
    (base : Nat) (W : World) (v : Value) (l : List Int) (hs : a.eval s = v) (B : Nat) (A : Option Addr) (m c : Nat) (l2 : List Int) (hx : a.eval x = .slice A m c)
    (hown : W.ownsRow base 3 1 v l.length (ints l)) (hA : IntsAt W B A m l2) (hl : l.length + m ≤ 100000) (hbase : base ≤ W.heap.size)
    (h : ∀ v' w', w'.ownsRow base 3 1 v' (l ++ l2).length (ints (l ++ l2)) → Below base W w' → wpList Tryz.prog ops Q rest (a.put o.dst v') w') :
    wpList Tryz.prog ops Q (o :: rest) a W := by
  obtain ⟨i0, hi, hz0, hz1, hz2⟩ := info_parts info3
  cases A with
  | none =>
    have hm : m = 0 := by
      rcases Nat.eq_zero_or_pos m with h0 | h0
      · exact h0
      · obtain ⟨b, o, e, _⟩ := hA.at_ h0; cases e
    subst hm
    have hl2 : l2 = [] := List.eq_nil_of_length_eq_zero hA.len
    subst hl2
    refine wpList_plain hgd fun K hK => ?_
    have hrun := run_append_of_nil (P := Tryz.prog) W base 27 o.type 3 i0 1 Tryz.underlying27 hi v l.length (ints l) hown c
    unfold Oper.wp
    simp [execOp, ho, resolve, invoke, builtin, hs, hx, hrun, Result.andThen]
    exact hK _ _ (h v W (by rw [List.append_nil]; exact hown) (Below.refl _ _))
  | some ad =>
    refine wpList_append_own _ hgd s x 27 ho base 3 i0 _ 1 8 Tryz.underlying27 hi hz0 hz1 hz2 rfl (by decide) v l.length (ints l) hs hown ad m c (ints l2) hx (by rw [ints_len, hA.len, Nat.mul_one])
      ?_ (ints_one l2) (by unfold maxLen; omega) (by omega) hbase ?_
    · intro j u hj
      have hlt : j < (ints l2).length := (List.getElem?_eq_some_iff.1 hj).1
      rw [ints_len] at hlt
      obtain ⟨b, o, e1, _, h1⟩ := hA.at_ (k := j) (by rw [← hA.len]; exact hlt)
      injection e1 with e1
      subst e1
      rw [Go.WideShapes.add_plain, h1, ← ints_at l2 j hlt, hj]
    · intro v' w' hown' hg _
      refine h v' w' ?_ ?_
      · rw [ints, List.map_append, List.length_append, hA.len]; exact hown'
      · exact (Below.refl base W).grown hg hbase (fun k hk => (hown.lt k hk).1)

theorem pushI_law {ops : Array Oper} {rest : List Oper} {o : Oper} {a : Act} {Q : Exit → Act → World → Prop} (hgd : o.guard = none) (s x : Operand)
    (ho : o.op = .call { callee := .builtin .append, args := #[s, x], argTypes := #[27, 27] })
    (base : Nat) (W : World) (v : Value) (l : List Int) (z : Int) (hs : a.eval s = v) (hx : a.eval x = .slice (some ⟨W.heap.size, 0, none⟩) 1 1)
    (hown : W.ownsRow base 3 1 v l.length (ints l)) (hl : l.length ≤ 1000000) (hbase : base ≤ W.heap.size)
    (h : ∀ v' w', w'.ownsRow base 3 1 v' (l ++ [z]).length (ints (l ++ [z])) → Below base W w' → wpList Tryz.prog ops Q rest (a.put o.dst v') w') :
    wpList Tryz.prog ops Q (o :: rest) a (W.alloc (.cells #[.int .i64 z] 3)) := by
  obtain ⟨i0, hi, hz0, hz1, hz2⟩ := info_parts info3
  refine wpList_append_own _ hgd s x 27 ho base 3 i0 _ 1 8 Tryz.underlying27 hi hz0 hz1 hz2 rfl (by decide) v l.length (ints l) hs (hown.alloc _) ⟨W.heap.size, 0, none⟩ 1 1 [.int .i64 z] hx rfl
    (World.news_of_block (heap_alloc_new W _)) (one_cell_int _ z) (by unfold maxLen; omega) (by omega) (by simp; omega) ?_
  intro v' w' hown' hg _
  refine h v' w' ?_ ?_
  · rw [ints_snoc, List.length_append]; exact hown'
  · exact (((Below.refl base W).alloc hbase _).grown hg (by simp; omega) (fun k hk => (hown.lt k hk).1))
end Go.Proofs.YtgdlfiejjnjcpaaGreat.Lg

namespace Go.Proofs.YtgdlfiejjnjcpaaGreat.Lg
open Go.RowKit

theorem contains_take {l : List Int} {k : Nat} (h : k < l.length) (x : Int) : (l.take (k + 1)).contains x = ((l.take k).contains x || (x == l.getD k 0)) := by
  have e : l.take (k + 1) = l.take k ++ [l.getD k 0] := by
    rw [List.take_add_one, List.getElem?_eq_getElem h]
    simp [List.getD, List.getElem?_eq_getElem h]
  rw [e, Bool.eq_iff_iff]
  simp
set_option maxHeartbeats 1000000 in
theorem index_any (A : Option Addr) (n c B : Nat) (l : List Int) (x : Int) (w : World) (hA : IntsAt w B A n l) (hn : n ≤ 100000) :
    Calls Tryz.prog 106 #[.slice A n c, .int .i64 x] w fun e w' => ∃ z, e = .returned (.int .i64 z) ∧ decide (0 ≤ z) = l.contains x ∧ w = w' := by
  have HL := Lib.hid hA.len
  have HA := Lib.hid hA
  obtain ⟨b0, hb0⟩ : ∃ b0, b0 = l.contains x := ⟨_, rfl⟩
  rw [← hb0]
  have HB0 := Lib.hid hb0
  clear hA hb0
  go_enter Tryz.func106, Tryz.ntmps106
  go_wp2
  go_loopw [5, 8] (fun _ j wr => ∃ k : Nat, k ≤ n ∧ j = .int .i64 (k : Int) ∧ (l.take k).contains x = false ∧ wr = w) (fun _ j _ => n - (intOf j).toNat)
  case atStart => exact ⟨0, by omega, rfl, by simp, rfl⟩
  case round =>
    obtain ⟨k, hk, rfl, hc, rfl⟩ := hrel
    have HC := Lib.hid hc
    clear hc
    by_cases h1 : k < n
    · have hlt : (k : Int) < (n : Int) := by omega
      obtain ⟨b, o, rfl, hb, hcell⟩ := HA.out.at_ h1
      have HT := Lib.hid (contains_take (l := l) (k := k) (by rw [HL.out]; exact h1) x)
      generalize l.getD k 0 = y at *
      cases hxy : (x == y) with
      | true =>
        have hm : l.contains x = true := by
          have h := HT.out
          rw [hxy, Bool.or_true] at h
          simp only [List.contains_iff_mem] at h ⊢
          exact List.mem_of_mem_take h
        have HM := Lib.hid hm
        clear hm
        go_wp2
        go_ret
        exact ⟨_, rfl, by rw [HB0.out, HM.out]; simp, by first | rfl | trivial⟩
      | false =>
        go_wp2
        go_roundw
        case rel => exact ⟨k + 1, h1, by push_cast; rfl, by rw [HT.out, HC.out, hxy]; rfl, by first | rfl | trivial⟩
        case measure => simp only [intOf]; omega
    · have hnlt : ¬ (k : Int) < (n : Int) := by omega
      have hkn : k = n := by omega
      have hm : l.contains x = false := by
        have h := HC.out
        rw [hkn, ← HL.out, List.take_length] at h
        exact h
      have HM := Lib.hid hm
      clear hm hkn
      go_wp2
      go_ret
      exact ⟨_, rfl, by rw [HB0.out, HM.out]; rfl, rfl⟩
theorem contains_any (A : Option Addr) (n c B : Nat) (l : List Int) (x : Int) (w : World) (hA : IntsAt w B A n l) (hn : n ≤ 100000) :
    Calls Tryz.prog 75 #[.slice A n c, .int .i64 x] w fun e w' => e = .returned (.bool (l.contains x)) ∧ w = w' := by
  have HI := Lib.hid (index_any A n c B l x w hA hn)
  clear hA
  go_enter Tryz.func75, Tryz.ntmps75
  go_wp2_with fail
  refine HI.out.mono ?_
  rintro e w1 ⟨z, rfl, hz, rfl⟩
  have HZ := Lib.hid hz
  clear hz
  go_wp2
  go_ret
  exact ⟨by rw [← HZ.out]; rfl, rfl⟩

/-- the bytes of a block of one byte. -/
def fillS (x : Int) : ByteArray := ⟨(List.replicate 128 (UInt8.ofNat x.toNat)).toArray⟩
theorem fillS_size (x : Int) : (fillS x).size = 128 := by
  show (List.replicate 128 (UInt8.ofNat x.toNat)).toArray.size = 128
  simp
def FillAt (w : World) (g : Nat) (u : UInt8) (k : Nat) : Prop := w.heap[g]? = some (.cells (Lib.byteCells (List.replicate k u ++ List.replicate (128 - k) 0)).toArray 5 (0, 0))
theorem FillAt.set {w : World} {g : Nat} {u : UInt8} {k : Nat} (h : FillAt w g u k) (hk : k < 128) : FillAt (w.setCell ⟨g, k, none⟩ (.int .u8 (u.toNat : Int))) g u (k + 1) := by
  unfold FillAt at *
  rw [Sl.heap_setCell_same w g k _ h]
  congr 2
  apply Array.ext'
  simp only [Array.toList_setIfInBounds]
  apply List.ext_getElem?
  intro j
  simp only [Lib.byteCells, List.getElem?_set, List.getElem?_map, List.length_map, List.length_append, List.length_replicate]
  by_cases e : k = j
  · subst e
    rw [if_pos rfl, if_pos (by omega), List.getElem?_append_left (by simp), List.getElem?_replicate, if_pos (by omega)]
    rfl
  · rw [if_neg e]
    congr 1
    by_cases hj : j < k
    · rw [List.getElem?_append_left (by simpa using hj), List.getElem?_append_left (by simp; omega)]
      simp [hj, Nat.lt_succ_of_lt hj]
    · rw [List.getElem?_append_right (by simp; omega), List.getElem?_append_right (by simp; omega)]
      simp only [List.length_replicate, List.getElem?_replicate]
      have : (j - k < 128 - k) ↔ (j - (k + 1) < 128 - (k + 1)) := by omega
      simp only [this]
theorem FillAt.cell {w : World} {g : Nat} {u : UInt8} {k : Nat} (h : FillAt w g u k) (hk : k < 128) : ∃ v, w.cell? ⟨g, k, none⟩ = some v := by
  rw [cell_of_row w g k _ 5 _ h, List.getElem?_toArray]
  rw [List.getElem?_eq_getElem (by simp [Lib.byteCells]; omega)]
  exact ⟨_, rfl⟩
theorem FillAt.fz {w : World} {g : Nat} {u : UInt8} {k : Nat} (h : FillAt w g u k) (j : Nat) : w.frozen? ⟨g, j, none⟩ = false := by
  unfold FillAt at h
  simp [World.frozen?, h]

theorem two_u64 {a b a' b' : Int} (h : a = a') (h2 : b = b') : Ending.returned (.tuple #[.int .u64 a, .int .u64 b]) = Ending.returned (.tuple #[.int .u64 a', .int .u64 b']) := by rw [h, h2]
theorem mul64_one (n : Nat) (w : World) (hn : n ≤ 60) :
    Calls Tryz.prog 153 #[.int .u64 1, .int .u64 n] w fun e w' => e = .returned (.tuple #[.int .u64 0, .int .u64 n]) ∧ w = w' := by
  obtain ⟨m, rfl⟩ : ∃ m : Fin 61, n = m.val := ⟨⟨n, by omega⟩, rfl⟩
  clear hn
  go_enter Tryz.func153, Tryz.ntmps153
  go_wp2
  go_ret2
  refine ⟨two_u64 ?_ ?_, rfl⟩
  · revert m; decide +kernel
  · revert m; decide +kernel
theorem mul_one64 (n : Nat) (w : World) (hn : n ≤ 60) :
    Calls Tryz.prog 148 #[.int .u64 1, .int .u64 n] w fun e w' => e = .returned (.tuple #[.int .u64 0, .int .u64 n]) ∧ w = w' := by
  go_enter Tryz.func148, Tryz.ntmps148
  go_wp2_with fail
  refine (mul64_one n _ hn).mono ?_
  rintro e w1 ⟨rfl, rfl⟩
  go_wp2
  go_ret2
  exact ⟨rfl, rfl⟩

/-- slices.Repeat of one int: n of them, a new row. -/
theorem rep_splice (n d : Nat) (x : Int) (m : Nat) (hm : d + m ≤ n) : splice (List.replicate d x ++ List.replicate (n - d) 0) d (List.replicate m x) = List.replicate (d + m) x ++ List.replicate (n - (d + m)) 0 := by
  have e1 : (List.replicate d x ++ List.replicate (n - d) (0 : Int)).take d = List.replicate d x := by
    rw [List.take_append_of_le_length (by simp)]; simp
  have e2 : (List.replicate d x ++ List.replicate (n - d) (0 : Int)).drop (d + m) = List.replicate (n - (d + m)) 0 := by
    rw [List.drop_append, List.drop_replicate, List.drop_replicate, List.length_replicate]
    rw [show d - (d + m) = 0 by omega, show n - d - (d + m - d) = n - (d + m) by omega]; rfl
  simp only [splice, List.length_replicate, e1, e2]
  rw [← List.append_assoc, ← List.replicate_append_replicate]
set_option maxRecDepth 100000 in
set_option maxHeartbeats 2000000 in
theorem repeat_any (A : Option Addr) (c B : Nat) (x : Int) (n : Nat) (w : World) (hA : IntsAt w B A 1 [x]) (hB : B ≤ w.heap.size) (hn : n ≤ 60) :
    Calls Tryz.prog 133 #[.slice A 1 c, .int .i64 n] w fun e w' => e = .returned (.slice (some ⟨w.heap.size, 0, none⟩) n n) ∧ IntRow w' w.heap.size (List.replicate n x) ∧ Below w.heap.size w w' := by
  have hmk := make_ints n (by omega)
  have hx : Fit x := hA.2.1 x (by simp)
  have hrow := IntRow.new w (List.replicate n 0)
  have hA1 : IntsAt (w.alloc (.cells (ints (List.replicate n 0)).toArray 3)) B A 1 [x] := hA.alloc hB _
  obtain ⟨w1, hc1, hr1, hg1, hs1⟩ := copy_ints _ w.heap.size 0 n n B A 1 c (List.replicate n 0) [x] hrow (by simp) hA1
  have hb1 : Below w.heap.size w w1 := ((Below.refl _ _).alloc (Nat.le_refl _) _).grown hg1 (by simp) (fun j hj => by cases hj; omega)
  have hr1' : IntRow w1 w.heap.size (List.replicate (Nat.min 1 n) x ++ List.replicate (n - Nat.min 1 n) 0) := by
    have e := rep_splice n 0 x (Nat.min 1 n) (by have h := Nat.min_le_right 1 n; rw [Nat.zero_add]; exact h)
    simp only [Nat.zero_add, List.replicate_zero, List.nil_append, Nat.sub_zero] at e
    rw [← e]
    have e2 : List.take (Nat.min 1 n) [x] = List.replicate (Nat.min 1 n) x := by
      rcases Nat.eq_zero_or_pos n with h0 | h0
      · subst h0; rfl
      · have : Nat.min 1 n = 1 := Nat.min_eq_left h0
        rw [this]; rfl
    rw [← e2]; exact hr1
  have HR := Lib.hid hr1'
  have HB1 := Lib.hid hb1
  obtain ⟨d1, hd1⟩ : ∃ d1, d1 = Nat.min 1 n := ⟨_, rfl⟩
  have hd1n : d1 ≤ n := by rw [hd1]; exact Nat.min_le_right 1 n
  have hd10 : d1 = 0 → n = 0 := by
    intro h; rw [hd1] at h
    rcases Nat.eq_zero_or_pos n with h0 | h0
    · exact h0
    · have : Nat.min 1 n = 1 := Nat.min_eq_left h0
      omega
  rw [← hd1] at HR hc1
  generalize (ints (List.replicate n 0)).toArray = M at *
  have HD := Lib.hid hd10
  have hn0 : ((n : Int) < 0) = False := by simp
  have hng : decide ((n : Int) < 0) = false := by simp
  clear hA hrow hA1 hr1 hr1' hg1 hs1 hb1 hd1 hd10 hn0
  go_enter Tryz.func133, Tryz.ntmps133
  go_wp2_with fail
  refine (mul_one64 n _ hn).mono ?_
  rintro e w3 ⟨rfl, rfl⟩
  go_wp2
  go_loopw [8] (fun j wr => ∃ d : Nat, d1 ≤ d ∧ d ≤ n ∧ j = .int .i64 (d : Int) ∧ IntRow wr w.heap.size (List.replicate d x ++ List.replicate (n - d) 0) ∧ Below w.heap.size w wr) (fun j _ => n - (intOf j).toNat)
  case atStart => exact ⟨d1, Nat.le_refl _, hd1n, rfl, HR.out, HB1.out⟩
  case round =>
    obtain ⟨d, h1d, hdn, rfl, hr, hb⟩ := hrel
    by_cases h1 : d < n
    · have hlt : (d : Int) < (n : Int) := by omega
      have hne : ¬ n = d := by omega
      have hd0 : 0 < d := by
        rcases Nat.eq_zero_or_pos d with h0 | h0
        · have := HD.out (by omega); omega
        · exact h0
      have hrd : IntRow wr.drew w.heap.size (List.replicate d x ++ List.replicate (n - d) 0) := hr
      have hsub := hrd.sub (B := wr.drew.heap.size) (fun z hz => by
        rcases List.mem_append.1 hz with h | h
        · rw [List.eq_of_mem_replicate h]; exact hx
        · rw [List.eq_of_mem_replicate h]; unfold Fit; omega) hrd.lt 0 d (by simp)
      have e1 : ((List.replicate d x ++ List.replicate (n - d) (0 : Int)).drop 0).take d = List.replicate d x := by
        rw [List.drop_zero, List.take_append_of_le_length (by simp)]; simp
      rw [e1] at hsub
      obtain ⟨m, hm⟩ : ∃ m, m = Nat.min d (n - d) := ⟨_, rfl⟩
      have hm1 : m ≤ n - d := by rw [hm]; exact Nat.min_le_right _ _
      have hm2 : m ≤ d := by rw [hm]; exact Nat.min_le_left _ _
      have hm3 : 0 < m := by rw [hm]; exact Nat.lt_min.2 ⟨hd0, by omega⟩
      obtain ⟨w2, hc2, hr2, hg2, hs2⟩ := copy_ints wr.drew w.heap.size d (n - d) (n - d) _ _ d n _ _ hrd (by simp) hsub
      rw [← hm] at hc2 hr2
      have e2 : List.take m (List.replicate d x) = List.replicate m x := by rw [List.take_replicate, Nat.min_eq_left hm2]
      rw [e2, rep_splice n d x m (by omega)] at hr2
      have HR2 := Lib.hid hr2
      have HB2 : Hid (Below w.heap.size w w2) := (Below.drew hb).grown hg2 hb.size (fun j hj => by cases hj; omega)
      have HM := Lib.hid hm1
      have HM3 := Lib.hid hm3
      have hsum : IntKind.i64.wrap ((d : Int) + (m : Int)) = ((d + m : Nat) : Int) := by
        rw [IntWalk.i64_in _ (by omega)]; push_cast; rfl
      clear hr hb hrd hsub e1 hm hm1 hm2 hm3 hr2 hg2 hs2 e2 hd0
      go_wp2_with fail
      go_region
      all_goals
        go_wp2
        go_roundw
        case rel => exact ⟨d + m, by omega, by have := HM.out; omega, rfl, HR2.out, HB2.out⟩
        case measure => have := HM3.out; have := HM.out; simp only [intOf]; omega
    · have hnlt : ¬ (d : Int) < (n : Int) := by omega
      have e : d = n := by omega
      subst e
      have HRR := Lib.hid hr
      have HBB := Lib.hid hb
      clear hr hb
      go_wp2
      go_ret
      refine ⟨rfl, ?_, HBB.out⟩
      have := HRR.out
      rw [Nat.sub_self] at this
      simpa using this
theorem own_new (w : World) (xs : List Value) (e : TypeId) (n size : Nat) (hn : xs.length = n * size) (hm : n ≤ maxLen) :
    (w.alloc (.cells xs.toArray e)).ownsRow w.heap.size e size (.slice (some ⟨w.heap.size, 0, none⟩) n n) n xs :=
  ⟨hn, Or.inr ⟨_, n, xs.toArray, rfl, Nat.le_refl _, heap_alloc_new w _, Nat.le_refl _, hm, by simp [hn], by simp [← hn]⟩⟩
theorem IntRow.own {w : World} {g base : Nat} {l : List Int} (h : IntRow w g l) (hb : base ≤ g) (hm : l.length ≤ maxLen) : w.ownsRow base 3 1 (.slice (some ⟨g, 0, none⟩) l.length l.length) l.length (Lg.ints l) :=
  ⟨by simp [ints_len], Or.inr ⟨g, l.length, _, rfl, hb, h, Nat.le_refl _, hm, by simp [ints_len], by simp [← ints_len]⟩⟩
theorem ownI_below {w w' : World} {base C n sz : Nat} {e : TypeId} {v : Value} {xs : List Value} (h : w.ownsRow base e sz v n xs) (hb : Below C w w') (hC : w.heap.size ≤ C) : w'.ownsRow base e sz v n xs := own_below h hb hC
theorem hdW_fit (n : Nat) : ∀ z ∈ hdW n, Fit z := by
  intro z hz
  rcases List.mem_cons.1 hz with h | h
  · rw [h]; decide
  · rw [List.eq_of_mem_replicate h]; decide
set_option maxHeartbeats 1000000 in
theorem hdW_any (n : Nat) (w : World) (hn : n ≤ 40) :
    Calls Tryz.prog 114 #[.int .i64 n] w fun e w' => ∃ A c, e = .returned (.slice A (n + 1) c) ∧ IntsAt w' w'.heap.size A (n + 1) (hdW n) ∧ Below w.heap.size w w' := by
  have HO : Hid ((w.alloc (.cells #[.int .i64 1] 3)).ownsRow w.heap.size 3 1 (.slice (some ⟨w.heap.size, 0, none⟩) 1 1) 1 (ints [1])) := own_new w (ints [1]) 3 1 1 rfl (by decide)
  have HR : Hid (IntRow ((w.alloc (.cells #[.int .i64 1] 3)).alloc (.cells #[.int .i64 2] 3)) (w.alloc (.cells #[.int .i64 1] 3)).heap.size [2]) := IntRow.new _ [2]
  have HB : Hid (Below w.heap.size w ((w.alloc (.cells #[.int .i64 1] 3)).alloc (.cells #[.int .i64 2] 3))) := ((Below.refl _ _).alloc (Nat.le_refl _) _).alloc (by simp) _
  have HO2 := Lib.hid (HO.out.alloc (.cells #[.int .i64 2] 3))
  have hR := (HR.out.ints (B := ((w.alloc (.cells #[.int .i64 1] 3)).alloc (.cells #[.int .i64 2] 3)).heap.size) (by decide) HR.out.lt)
  have HRP := Lib.hid (repeat_any _ 1 _ 2 n _ hR (Nat.le_refl _) (by omega))
  have hs : (w.alloc (.cells #[.int .i64 1] 3)).heap.size = w.heap.size + 1 := by simp
  have hs2 : ((w.alloc (.cells #[.int .i64 1] 3)).alloc (.cells #[.int .i64 2] 3)).heap.size = w.heap.size + 1 + 1 := by simp
  have HS2 := Lib.hid hs2
  rw [hs, hs2] at HRP
  clear hR HR HO hs hs2
  go_enter Tryz.func114, Tryz.ntmps114
  go_wp2_with fail
  refine HRP.out.mono ?_
  rintro e w1 ⟨rfl, hr, hb⟩
  rw [← HS2.out] at hb
  have HO3 := Lib.hid (own_below HO2.out hb (Nat.le_refl _))
  have HI := hr.ints (B := w1.heap.size) (by intro z hz; rw [List.eq_of_mem_replicate hz]; decide) hr.lt
  rw [List.length_replicate] at HI
  have HI2 := Lib.hid HI
  have HB2 := Lib.hid (HB.out.trans (hb.mono HB.out.size))
  clear hr hb HI HO2 HRP HB
  go_wp2_with (at_builtin; refine joinI_law rfl (.tmp 3) (.tmp 6) rfl w.heap.size _ (.slice (some ⟨w.heap.size, 0, none⟩) 1 1) [1] rfl _ _ n n (List.replicate n 2) rfl HO3.out HI2.out (by simp; omega) HB2.out.size ?_)
  intro v' w2 ho hb
  obtain ⟨A, c, rfl, hc⟩ := own_sliceI ho
  have ho' : w2.ownsRow w.heap.size 3 1 (.slice A (hdW n).length c) (hdW n).length (ints (hdW n)) := by rw [hdW_len]; exact ho
  have HF := IntsAt.of_own ho' rfl (hdW_fit n)
  rw [hdW_len] at HF
  have HF2 := Lib.hid HF
  have HB3 := Lib.hid (HB2.out.trans hb)
  clear HF ho'
  go_wp2
  go_ret
  exact ⟨_, _, rfl, HF2.out, HB3.out⟩
end Go.Proofs.YtgdlfiejjnjcpaaGreat.Lg

namespace Go.Proofs.YtgdlfiejjnjcpaaGreat.Lg
open Go.RowKit
open Sl (St SlabAt)

theorem cons_fit {l : List Int} {n : Nat} (h : ∀ z ∈ l, Fit z) (hn : n ≤ 1000) : ∀ z ∈ (n : Int) :: l, Fit z := by
  intro z hz
  rcases List.mem_cons.1 hz with e | e
  · rw [e]; unfold Fit; omega
  · exact h z e
set_option maxHeartbeats 2000000 in
theorem head_any (A : Option Addr) (n c B : Nat) (l : List Int) (w : World) (hA : IntsAt w B A n l) (hB : B ≤ w.heap.size) (hn : n ≤ 40) :
    Calls Tryz.prog 116 #[.slice A n c] w fun e w' => e = .returned (.string (headB l)) ∧ Below w.heap.size w w' := by
  have hl := hA.len
  have HO : Hid ((w.alloc (.cells #[.int .i64 n] 3)).ownsRow w.heap.size 3 1 (.slice (some ⟨w.heap.size, 0, none⟩) 1 1) 1 (ints [(n : Int)])) := own_new w (ints [(n : Int)]) 3 1 1 rfl (by decide)
  have HA := Lib.hid (hA.alloc hB (.cells #[.int .i64 n] 3))
  have HB : Hid (Below w.heap.size w (w.alloc (.cells #[.int .i64 n] 3))) := (Below.refl _ _).alloc (Nat.le_refl _) _
  have HP := Lib.hid (head_pad (bl := l) (by omega))
  have HCF := Lib.hid (cons_fit (n := n) hA.2.1 (by omega))
  have HSZ : Hid ((strOfNums (writeR (hdW l.length) (l.length :: l)).1).size ≤ 200) := by
    show _ ≤ _
    have := write_len l.length (l.length :: l)
    rw [strOf_size]; omega
  rw [hl] at HP HSZ
  have HL := Lib.hid hl
  generalize headB l = bk at *
  clear hA hl
  go_enter Tryz.func116, Tryz.ntmps116
  go_wp2_with (at_builtin; refine joinI_law rfl (.tmp 10) (.tmp 11) rfl w.heap.size _ (.slice (some ⟨w.heap.size, 0, none⟩) 1 1) [(n : Int)] rfl _ A n c l rfl HO.out HA.out (by simp; omega) HB.out.size ?_)
  intro v' w2 ho hb
  obtain ⟨A2, c2, rfl, hc⟩ := own_sliceI ho
  have ho' : w2.ownsRow w.heap.size 3 1 (.slice A2 ((n : Int) :: l).length c2) ((n : Int) :: l).length (ints ((n : Int) :: l)) := ho
  have HV := IntsAt.of_own ho' rfl HCF.out
  have e2 : ((n : Int) :: l).length = n + 1 := by simp [HL.out]
  rw [e2] at HV
  have HV2 := Lib.hid HV
  have HB2 := Lib.hid (HB.out.trans hb)
  rw [HL.out]
  clear HV ho ho' hb e2 HO HA HB
  go_wp2_with fail
  refine (hdW_any n _ hn).mono ?_
  rintro e w3 ⟨A3, c3, rfl, h3, b3⟩
  have HB3 := Lib.hid (HB2.out.trans (b3.mono HB2.out.size))
  have HW := Lib.hid (write_any A3 A2 (n + 1) c3 (n + 1) c2 w3.heap.size (hdW n) ((n : Int) :: l) w3 h3 ((HV2.out.below b3 (Nat.le_refl _)).more b3.size) (Nat.le_refl _) (by omega) (by omega))
  clear h3 b3
  have HPD := Lib.hid (fun v : World => Sl.pad_any (strOfNums (writeR (hdW n) ((n : Int) :: l)).1) 128 v (by have := HSZ.out; omega) (by omega))
  rw [HP.out] at HPD
  generalize writeR (hdW n) ((n : Int) :: l) = wr at *
  go_wp2_with fail
  refine HW.out.mono ?_
  rintro e w4 ⟨rfl, b4⟩
  have HB4 := Lib.hid (HB3.out.trans (b4.mono HB3.out.size))
  clear b4
  go_wp2_with fail
  refine (HPD.out _).mono ?_
  rintro e w5 ⟨rfl, b5⟩
  have HB5 := Lib.hid (HB4.out.trans (b5.mono HB4.out.size))
  clear b5
  go_wp2
  go_ret
  exact ⟨rfl, HB5.out⟩

theorem IntRow.set {w : World} {g k : Nat} {l : List Int} (h : IntRow w g l) (z : Int) : IntRow (w.setCell ⟨g, k, none⟩ (.int .i64 z)) g (l.set k z) := by
  unfold IntRow at *
  rw [Sl.heap_setCell_same w g k _ h]
  congr 2
  apply Array.ext'
  simp [Lg.ints, List.map_set]
theorem IntRow.fz {w : World} {g : Nat} {l : List Int} (h : IntRow w g l) (k : Nat) : w.frozen? ⟨g, k, none⟩ = false := by
  unfold IntRow at h
  simp [World.frozen?, h]
/-- the first k of l, and zeros behind them. -/
def part (l : List Int) (k : Nat) : List Int := l.take k ++ List.replicate (l.length - k) 0
theorem part_set {l : List Int} {k : Nat} (h : k < l.length) : (part l k).set k (l.getD k 0) = part l (k + 1) := by
  apply List.ext_getElem?
  intro j
  unfold part
  rw [List.getElem?_set]
  by_cases e : k = j
  · subst e
    rw [if_pos rfl, if_pos (by simp; omega), List.getElem?_append_left (by simp; omega), List.getElem?_take_of_lt (by omega)]
    simp [List.getD, h]
  · rw [if_neg e]
    by_cases hj : j < k
    · rw [List.getElem?_append_left (by simp; omega), List.getElem?_append_left (by simp; omega), List.getElem?_take_of_lt hj, List.getElem?_take_of_lt (by omega)]
    · rw [List.getElem?_append_right (by simp; omega), List.getElem?_append_right (by simp; omega)]
      simp only [List.getElem?_replicate, List.length_take]
      have : (j - min k l.length < l.length - k) ↔ (j - min (k + 1) l.length < l.length - (k + 1)) := by omega
      simp only [this]
theorem part_0 (l : List Int) : part l 0 = List.replicate l.length 0 := by simp [part]
theorem part_all (l : List Int) : part l l.length = l := by simp [part]
theorem part_len (l : List Int) {k : Nat} (h : k ≤ l.length) : (part l k).length = l.length := by simp [part]; omega

set_option maxHeartbeats 4000000 in
theorem changeable_any (p pd pm : Nat) (σ : St) (A : Option Addr) (n c B : Nat) (l : List Int) (w : World) (hS : SlabAt w p pd pm σ) (hA : IntsAt w B A n l) (hn : n ≤ 1000) (hnc : n ≤ c) :
    Calls Tryz.prog 115 #[.pointer (some ⟨p, 0, none⟩), .slice A n c] w fun e w' => e = .returned (.bool (chB σ.dur.length l)) ∧ w = w' := by
  have HL := Lib.hid hA.len
  have HA := Lib.hid hA
  have HS := Lib.hid (Sl.size_any p pd pm σ w hS)
  have hN := hS.len
  generalize σ.dur.length = N at *
  obtain ⟨b0, hb0⟩ : ∃ b0, b0 = chB N l := ⟨_, rfl⟩
  rw [← hb0]
  have HB0 := Lib.hid hb0
  clear hA hS hb0
  go_enter Tryz.func115, Tryz.ntmps115
  go_wp2
  go_loopw [5, 6, 7, 8, 11] (fun _ _ _ _ j wr => ∃ k : Nat, k ≤ n ∧ j = .int .i64 (k : Int) ∧ (∀ i, i < k → okAt N l i = true) ∧ wr = w) (fun _ _ _ _ j _ => n - (intOf j).toNat)
  case atStart => exact ⟨0, by omega, rfl, fun i hi => by omega, rfl⟩
  case round =>
    obtain ⟨k, hk, rfl, hok, rfl⟩ := hrel
    have HOK := Lib.hid hok
    clear hok
    by_cases h1 : k < n
    · have hlt : (k : Int) < (n : Int) := by omega
      have x0 : (0 : Int) ≤ (k : Int) := by omega
      have x1 : ¬ (c : Int) < (k : Int) := by omega
      obtain ⟨b, o, rfl, hb, hcell⟩ := HA.out.at_ h1
      have HC := Lib.hid (fun y : Int => contains_any _ k c B (l.take k) y wr (IntsAt.take HA.out k (by omega)) (by omega))
      have HT := Lib.hid (okAt_t (N := N) (l := l) (k := k))
      have HNO := Lib.hid (fun h => chB_no (N := N) (l := l) (k := k) (by rw [HL.out]; exact h1) h)
      have HF : Hid (∀ h : ¬ okAt N l k = true, b0 = false) := fun h => by rw [HB0.out]; exact HNO.out (by simpa using h)
      have HKK : Hid (l.take k = (l.take k)) := rfl
      generalize l.getD k 0 = y at *
      have HQ : Hid (∀ h : okAt N l k = true, ∀ i, i < k + 1 → okAt N l i = true) := fun h i hi => by
        by_cases e : i = k
        · rw [e]; exact h
        · exact HOK.out i (by omega)
      clear HKK HOK HNO
      cases g0 : decide ((0 : Int) ≤ y) <;> cases g1 : decide ((1 : Int) ≤ y) <;> cases gN : decide (y < (N : Int)) <;> cases g2 : decide (y < 42) <;> cases gc : (l.take k).contains y
      all_goals try (exfalso; simp only [decide_eq_true_eq, decide_eq_false_iff_not] at g0 g1 gN g2; omega)
      all_goals
        have GC := Lib.hid gc
        clear gc
        go_wp2_with (first
          | (go_at_call 54; refine HS.out.mono ?_; rintro e w3 ⟨rfl, rfl⟩)
          | (go_at_call 75; refine (HC.out _).mono ?_; rintro e w3 ⟨rfl, rfl⟩; rw [GC.out]))
        first
          | (go_ret
             rw [HF.out (fun h => by
               have h2 := HT.out.1 h
               rw [GC.out] at h2
               simp only [decide_eq_true_eq, decide_eq_false_iff_not] at g0 g1 gN g2
               first | omega | (obtain ⟨_, _, _, h3⟩ := h2; cases h3))]
             exact ⟨rfl, by first | rfl | trivial⟩)
          | (go_roundw
             case rel =>
               refine ⟨k + 1, h1, by push_cast; rfl, HQ.out (HT.out.2 ?_), by first | rfl | trivial⟩
               simp only [decide_eq_true_eq, decide_eq_false_iff_not] at g0 g1 gN g2
               exact ⟨by omega, by omega, by omega, GC.out⟩
             case measure => simp only [intOf]; omega)
    · have hnlt : ¬ (k : Int) < (n : Int) := by omega
      have e : k = n := by omega
      have hm : b0 = true := by rw [HB0.out]; exact chB_t.2 fun i hi => HOK.out i (by rw [HL.out] at hi; omega)
      have HM := Lib.hid hm
      clear hm e
      go_wp2
      go_ret
      exact ⟨by rw [HM.out]; rfl, by first | rfl | trivial⟩
end Go.Proofs.YtgdlfiejjnjcpaaGreat.Lg

namespace Go.Proofs.YtgdlfiejjnjcpaaGreat.Lg
open Go.RowKit
open Sl (St SlabAt)

/-- the answer of readHead. -/
def RetH (w : World) (s : ByteArray) (N : Nat) (e : Ending) (w' : World) : Prop :=
  ∃ A n c z, e = .returned (.tuple #[.slice A n c, .int .i64 z]) ∧ Below w.heap.size w w' ∧ (hdOk s N = false → z = 15) ∧ (hdOk s N = true → z = 0 ∧ n ≤ c ∧ IntsAt w' w'.heap.size A n (hdL s))
theorem RetH.bad {w w' : World} {s : ByteArray} {N : Nat} {A : Option Addr} {n c : Nat} (h : hdOk s N = false) (hb : Below w.heap.size w w') : RetH w s N (.returned (.tuple #[.slice A n c, .int .i64 15])) w' :=
  ⟨A, n, c, 15, rfl, hb, fun _ => rfl, fun h' => by rw [h] at h'; cases h'⟩
theorem RetH.good {w w' : World} {s : ByteArray} {N : Nat} {A : Option Addr} {n c : Nat} (h : hdOk s N = true) (hb : Below w.heap.size w w') (hn : n ≤ c) (hA : IntsAt w' w'.heap.size A n (hdL s)) : RetH w s N (.returned (.tuple #[.slice A n c, .int .i64 0])) w' :=
  by
  refine ⟨A, n, c, 0, rfl, hb, fun h' => ?_, fun _ => ⟨rfl, hn, hA⟩⟩
  rw [h] at h'; cases h'
theorem lists_eq (a b : ByteArray) : (a.toList == b.toList) = decide (a = b) := by
  rw [Bool.eq_iff_iff, ByteArray.toList_eq, ByteArray.toList_eq]
  simp only [beq_iff_eq, decide_eq_true_eq]
  exact ⟨fun h => ByteArray.ext (Array.ext' h), fun h => by rw [h]⟩
theorem hd_fit (s : ByteArray) : ∀ z ∈ hdL s, Fit z := fun z hz => by have := hdL_bd s z hz; unfold Fit; omega

set_option maxHeartbeats 4000000 in
set_option maxRecDepth 100000 in
theorem readHead_any (p pd pm : Nat) (σ : St) (s : ByteArray) (w : World) (hS : SlabAt w p pd pm σ) (hr : σ.read 1 = s) (hs : s.size = 128) :
    Calls Tryz.prog 87 #[.pointer (some ⟨p, 0, none⟩)] w fun e w' => RetH w s σ.dur.length e w' := by
  have HRD := Lib.hid (Sl.read_any p pd pm σ 1 w hS)
  rw [hr] at HRD
  have hp := hS.lt_p
  have hd := hS.lt_d
  have hm := hS.lt_m
  have HS := Lib.hid hS
  have H0 := Lib.hid (read_cnt hs)
  have H1 := Lib.hid (read_hd hs)
  have HSS : Hid (s.size ≤ 1000) := by show _ ≤ _; omega
  have hc := (cnt_nat s).2
  have HHL := Lib.hid (hdL_len s)
  clear hr hS
  go_enter Tryz.func87, Tryz.ntmps87
  go_wp2_with fail
  refine HRD.out.mono ?_
  rintro e w1 ⟨rfl, b1⟩
  have HB1 := Lib.hid b1
  clear HRD b1
  go_wp2_with fail
  refine (hdW_any 0 _ (by omega)).mono ?_
  rintro e w2 ⟨A2, c2, rfl, h2, b2⟩
  have HB2 := Lib.hid (HB1.out.trans (b2.mono HB1.out.size))
  have HR0 := Lib.hid (read_any A2 (0 + 1) c2 _ (hdW 0) s w2 h2 (Nat.le_refl _) (by omega) (by have := HSS.out; omega))
  rw [H0.out] at HR0
  clear h2 b2 H0
  go_wp2_with fail
  refine HR0.out.mono ?_
  rintro e w3 ⟨A3, n3, c3, rfl, hn3, h3, b3⟩
  have HB3 := Lib.hid (HB2.out.trans (b3.mono HB2.out.size))
  have hn1 : n3 = 1 := h3.len.symm
  subst hn1
  obtain ⟨b, o, rfl, hb, hcell⟩ := h3.at_ (k := 0) (by omega)
  have hcell2 : w3.cell? ⟨b, o, none⟩ = some (.int .i64 (cntH s : Int)) := hcell
  clear b3 hcell HR0
  by_cases h40 : cntH s ≤ 40
  · have hg : decide ((40 : Int) < (cntH s : Int)) = false := by simp; omega
    have H1' := Lib.hid (H1.out h40)
    have HOK : Hid (hdOk s σ.dur.length = (chB σ.dur.length (hdL s) && decide (headB (hdL s) = s))) := by show _ = _; unfold hdOk; rw [decide_eq_true h40]; rfl
    clear H1
    generalize cntH s = m at *
    go_wp2_with fail
    refine (hdW_any m _ h40).mono ?_
    rintro e w4 ⟨A4, c4, rfl, h4, b4⟩
    have HB4 := Lib.hid (HB3.out.trans (b4.mono HB3.out.size))
    have HR1 := Lib.hid (read_any A4 (m + 1) c4 _ (hdW m) s w4 h4 (Nat.le_refl _) (by omega) (by have := HSS.out; omega))
    rw [H1'.out] at HR1
    clear h4 b4 h3 hcell2
    go_wp2_with fail
    refine HR1.out.mono ?_
    rintro e w5 ⟨A5, n5, c5, rfl, hn5, h5, b5⟩
    have HB5 := Lib.hid (HB4.out.trans (b5.mono HB4.out.size))
    have hn6 : n5 = m + 1 := by rw [← h5.len, List.length_cons, HHL.out]
    subst hn6
    obtain ⟨b', o', rfl, hb', hcell'⟩ := h5.at_ (k := 0) (by omega)
    have H5 := Lib.hid h5
    clear b5 HR1 h5 hcell'
    have x1 : ¬ (c5 : Int) < 1 := by omega
    have x2 : ¬ ((m + 1 : Nat) : Int) < 1 := by omega
    have HCH := Lib.hid (fun (A : Option Addr) (c : Nat) (h : IntsAt w5 w5.heap.size A m (hdL s)) (hc : m ≤ c) => changeable_any p pd pm σ A m c w5.heap.size (hdL s) w5 (HS.out.keptB (Sl.Turns.of_below [] HB5.out)) h (by omega) hc)
    have HHD := Lib.hid (fun (A : Option Addr) (c : Nat) (h : IntsAt w5 w5.heap.size A m (hdL s)) => head_any A m c w5.heap.size (hdL s) w5 h (Nat.le_refl _) h40)
    have hsp : c5 = 1 ∨ ¬ c5 = 1 := by omega
    rcases hsp with rfl | hne
    · obtain rfl : m = 0 := by omega
      have h6 : IntsAt w5 w5.heap.size (some ⟨b', o', none⟩) 0 (hdL s) := by
        have : hdL s = [] := List.eq_nil_of_length_eq_zero HHL.out
        rw [this]; exact IntsAt.nil _ _ _
      have H6 := Lib.hid h6
      have hcap : (0 : Nat) ≤ 0 := Nat.le_refl _
      clear h6
      cases hch : chB σ.dur.length (hdL s) with
      | false =>
        have HOF : Hid (hdOk s σ.dur.length = false) := by show _ = _; rw [HOK.out, hch]; rfl
        have HCX := Lib.hid (HCH.out _ _ H6.out hcap)
        rw [hch] at HCX
        clear hch
        go_wp2_with fail
        refine HCX.out.mono ?_
        rintro e w6 ⟨rfl, rfl⟩
        go_wp2
        go_ret2
        exact RetH.bad HOF.out HB5.out
      | true =>
        have HCX := Lib.hid (HCH.out _ _ H6.out hcap)
        rw [hch] at HCX
        have HHX := Lib.hid (HHD.out _ 0 H6.out)
        have HOK2 : Hid (hdOk s σ.dur.length = decide (headB (hdL s) = s)) := by show _ = _; rw [HOK.out, hch]; rfl
        generalize headB (hdL s) = z at *
        clear hch
        go_wp2_with fail
        refine HCX.out.mono ?_
        rintro e w6 ⟨rfl, rfl⟩
        go_wp2_with fail
        refine HHX.out.mono ?_
        rintro e w7 ⟨rfl, b7⟩
        have HB7 := Lib.hid (HB5.out.trans (b7.mono HB5.out.size))
        have H7 := Lib.hid ((H6.out.below b7 (Nat.le_refl _)).more b7.size)
        clear b7
        by_cases hz : z = s
        · have q1 : (z.toList == s.toList) = true := by rw [hz]; simp
          have q2 : (z.toList != s.toList) = false := by rw [hz]; simp
          have HOT : Hid (hdOk s σ.dur.length = true) := by show _ = _; rw [HOK2.out]; exact decide_eq_true hz
          clear hz
          go_wp2
          go_ret2
          exact RetH.good HOT.out HB7.out hcap H7.out
        · have q1 : (z.toList == s.toList) = false := by rw [lists_eq]; exact decide_eq_false hz
          have q2 : (z.toList != s.toList) = true := by unfold bne; rw [q1]; rfl
          have HOF : Hid (hdOk s σ.dur.length = false) := by show _ = _; rw [HOK2.out]; exact decide_eq_false hz
          clear hz
          go_wp2
          go_ret2
          exact RetH.bad HOF.out HB7.out
    · have h6 : IntsAt w5 w5.heap.size (some ⟨b', o' + 1, none⟩) m (hdL s) := IntsAt.drop H5.out 1 (by omega)
      have H6 := Lib.hid h6
      have hcap : m ≤ c5 - 1 := by omega
      clear h6
      cases hch : chB σ.dur.length (hdL s) with
      | false =>
        have HOF : Hid (hdOk s σ.dur.length = false) := by show _ = _; rw [HOK.out, hch]; rfl
        have HCX := Lib.hid (HCH.out _ _ H6.out hcap)
        rw [hch] at HCX
        clear hch
        go_wp2_with fail
        refine HCX.out.mono ?_
        rintro e w6 ⟨rfl, rfl⟩
        go_wp2
        go_ret2
        exact RetH.bad HOF.out HB5.out
      | true =>
        have HCX := Lib.hid (HCH.out _ _ H6.out hcap)
        rw [hch] at HCX
        have HHX := Lib.hid (HHD.out _ (c5 - 1) H6.out)
        have HOK2 : Hid (hdOk s σ.dur.length = decide (headB (hdL s) = s)) := by show _ = _; rw [HOK.out, hch]; rfl
        generalize headB (hdL s) = z at *
        clear hch
        go_wp2_with fail
        refine HCX.out.mono ?_
        rintro e w6 ⟨rfl, rfl⟩
        go_wp2_with fail
        refine HHX.out.mono ?_
        rintro e w7 ⟨rfl, b7⟩
        have HB7 := Lib.hid (HB5.out.trans (b7.mono HB5.out.size))
        have H7 := Lib.hid ((H6.out.below b7 (Nat.le_refl _)).more b7.size)
        clear b7
        by_cases hz : z = s
        · have q1 : (z.toList == s.toList) = true := by rw [hz]; simp
          have q2 : (z.toList != s.toList) = false := by rw [hz]; simp
          have HOT : Hid (hdOk s σ.dur.length = true) := by show _ = _; rw [HOK2.out]; exact decide_eq_true hz
          clear hz
          go_wp2
          go_ret2
          exact RetH.good HOT.out HB7.out hcap H7.out
        · have q1 : (z.toList == s.toList) = false := by rw [lists_eq]; exact decide_eq_false hz
          have q2 : (z.toList != s.toList) = true := by unfold bne; rw [q1]; rfl
          have HOF : Hid (hdOk s σ.dur.length = false) := by show _ = _; rw [HOK2.out]; exact decide_eq_false hz
          clear hz
          go_wp2
          go_ret2
          exact RetH.bad HOF.out HB7.out
  · have hg : decide ((40 : Int) < (cntH s : Int)) = true := by simp; omega
    have HNO : Hid (hdOk s σ.dur.length = false) := by show _ = _; unfold hdOk; rw [decide_eq_false h40]; rfl
    clear H1
    generalize cntH s = m at *
    go_wp2
    go_ret2
    exact RetH.bad HNO.out HB3.out
end Go.Proofs.YtgdlfiejjnjcpaaGreat.Lg

namespace Go.Proofs.YtgdlfiejjnjcpaaGreat.Lg
open Go.RowKit
open Sl (St SlabAt)

theorem chsCells_get (l : List Ch) (j : Nat) (h : j < l.length * 2) : (chsCells l)[j]? = some (if j % 2 = 0 then .int .i64 (l.getD (j / 2) Ch.z).bk else .string (l.getD (j / 2) Ch.z).dt) := by
  have hk : j / 2 < l.length := by omega
  obtain ⟨h0, h1⟩ := chsCells_at l (j / 2) hk
  by_cases he : j % 2 = 0
  · rw [if_pos he, ← h0]; congr 1; omega
  · rw [if_neg he, ← h1]; congr 1; omega
theorem made_chs (n : Nat) : (madeCells (Value.agg #[.int .i64 0, .string ⟨#[]⟩]).cells (n * 2)).toList = chsCells (List.replicate n Ch.z) := by
  apply List.ext_getElem?
  intro j
  by_cases h : j < n * 2
  · rw [chsCells_get _ _ (by simpa using h)]
    have e : (List.replicate n Ch.z).getD (j / 2) Ch.z = Ch.z := by
      simp only [List.getD, List.getElem?_replicate]
      split <;> rfl
    rw [e]
    by_cases he : j % 2 = 0
    · rw [if_pos he]
      simp [madeCells, Value.cells, h, he, Ch.z]
    · rw [if_neg he]
      have e2 : j % 2 = 1 := by omega
      simp [madeCells, Value.cells, h, e2, Ch.z]
  · rw [List.getElem?_eq_none (by rw [Array.length_toList, size_madeCells]; omega), List.getElem?_eq_none (by rw [chsCells_len]; simpa using h)]
/-- block g is a row of the changes l, known whole. -/
def ChRow (w : World) (g : Nat) (l : List Ch) : Prop := w.heap[g]? = some (.cells (chsCells l).toArray 68 (0, 0))
theorem ChRow.lt {w : World} {g : Nat} {l : List Ch} (h : ChRow w g l) : g < w.heap.size := (Array.getElem?_eq_some_iff.1 h).1
theorem ChRow.cell {w : World} {g : Nat} {l : List Ch} (h : ChRow w g l) (k : Nat) (hk : k < l.length) : w.cell? ⟨g, k * 2, none⟩ = some (.int .i64 (l.getD k Ch.z).bk) ∧ w.cell? ⟨g, k * 2 + 1, none⟩ = some (.string (l.getD k Ch.z).dt) := by
  obtain ⟨h0, h1⟩ := chsCells_at l k hk
  rw [cell_of_row w g _ _ 68 _ h, cell_of_row w g _ _ 68 _ h, List.getElem?_toArray, List.getElem?_toArray]
  exact ⟨h0, h1⟩
theorem ChRow.fz {w : World} {g : Nat} {l : List Ch} (h : ChRow w g l) (k : Nat) : w.frozen? ⟨g, k, none⟩ = false := by
  unfold ChRow at h
  simp [World.frozen?, h]
theorem ChRow.below {w w' : World} {g C : Nat} {l : List Ch} (h : ChRow w g l) (hb : Below C w w') (hg : g < C) : ChRow w' g l := (hb.block g hg).trans h
theorem ChRow.alloc {w : World} {g : Nat} {l : List Ch} (h : ChRow w g l) (o : Obj) : ChRow (w.alloc o) g l := h.below ((Below.refl w.heap.size w).alloc (Nat.le_refl _) o) h.lt
theorem ChRow.new (w : World) (l : List Ch) : ChRow (w.alloc (.cells (chsCells l).toArray 68)) w.heap.size l := heap_alloc_new w _
theorem ChRow.set {w : World} {g k : Nat} {l : List Ch} (h : ChRow w g l) (hk : k < l.length) (s : Ch) : ChRow ((w.setCell ⟨g, k * 2, none⟩ (.int .i64 s.bk)).setCell ⟨g, k * 2 + 1, none⟩ (.string s.dt)) g (l.set k s) := by
  unfold ChRow at *
  rw [Sl.heap_setCell_same _ g _ _ (Sl.heap_setCell_same w g _ _ h)]
  congr 2
  apply Array.ext'
  simp only [Array.toList_setIfInBounds]
  exact chsCells_set l k s hk
theorem ChRow.chs {w : World} {g B : Nat} {l : List Ch} (h : ChRow w g l) (hf : ∀ s ∈ l, s.fit) (hB : g < B) : ChsAt w B (some ⟨g, 0, none⟩) l.length l :=
  ⟨rfl, hf, fun k hk => ⟨g, 0, rfl, hB, by rw [Nat.zero_add]; exact (h.cell k hk).1, by rw [Nat.zero_add]; exact (h.cell k hk).2⟩⟩
/-- 'make([]api.Change, n)', for the walk to take. -/
theorem make_chs (n : Nat) (hn : n ≤ 65536) (W : World) : (Instr.makeSlice 65 (.int .i64 (n : Int)) (.int .i64 (n : Int))).run Tryz.prog W = .ok (.slice (some ⟨W.heap.size, 0, none⟩) n n) (W.alloc (.cells (chsCells (List.replicate n Ch.z)).toArray 68)) := by
  obtain ⟨i0, hi, hz0, hz1, hz2⟩ := info_parts info58
  have h := run_make (P := Tryz.prog) W 65 68 i0 (.agg #[.int .i64 0, .string ⟨#[]⟩]) Tryz.underlying65 hi hz0 .i64 .i64 (n : Int) (n : Int) (by omega) (by omega) (by rw [hz2]; omega) (by omega)
  have e : madeCells (Value.agg #[.int .i64 0, .string ⟨#[]⟩]).cells (n * i0.size) = (chsCells (List.replicate n Ch.z)).toArray := by
    apply Array.toList_inj.1
    rw [hz1, made_chs]
  rw [← e]
  simpa using h
/-- the first k of l, and no changes behind them. -/
def partC (l : List Ch) (k : Nat) : List Ch := l.take k ++ List.replicate (l.length - k) Ch.z
theorem partC_set {l : List Ch} {k : Nat} (h : k < l.length) : (partC l k).set k (l.getD k Ch.z) = partC l (k + 1) := by
  apply List.ext_getElem?
  intro j
  unfold partC
  rw [List.getElem?_set]
  by_cases e : k = j
  · subst e
    rw [if_pos rfl, if_pos (by simp; omega), List.getElem?_append_left (by simp; omega), List.getElem?_take_of_lt (by omega)]
    simp [List.getD, h]
  · rw [if_neg e]
    by_cases hj : j < k
    · rw [List.getElem?_append_left (by simp; omega), List.getElem?_append_left (by simp; omega), List.getElem?_take_of_lt hj, List.getElem?_take_of_lt (by omega)]
    · rw [List.getElem?_append_right (by simp; omega), List.getElem?_append_right (by simp; omega)]
      simp only [List.getElem?_replicate, List.length_take]
      have : (j - min k l.length < l.length - k) ↔ (j - min (k + 1) l.length < l.length - (k + 1)) := by omega
      simp only [this]
theorem partC_0 (l : List Ch) : partC l 0 = List.replicate l.length Ch.z := by simp [partC]
theorem partC_all (l : List Ch) : partC l l.length = l := by simp [partC]
theorem partC_len (l : List Ch) {k : Nat} (h : k ≤ l.length) : (partC l k).length = l.length := by simp [partC]; omega

def movedL (l : List Ch) : List Ch := (List.range l.length).map fun k : Nat => ⟨2 + (k : Int), (l.getD k Ch.z).dt⟩
theorem movedL_len (l : List Ch) : (movedL l).length = l.length := by simp [movedL]
theorem movedL_get (l : List Ch) {k : Nat} (h : k < l.length) : (movedL l).getD k Ch.z = ⟨2 + (k : Int), (l.getD k Ch.z).dt⟩ := by
  simp [movedL, List.getD, h]
def loggedL (D : List ByteArray) (bl : List Int) : List Ch := (List.range bl.length).map fun k : Nat => ⟨bl.getD k 0, D.getD (2 + k) ⟨#[]⟩⟩
theorem loggedL_len (D : List ByteArray) (bl : List Int) : (loggedL D bl).length = bl.length := by simp [loggedL]
theorem loggedL_get (D : List ByteArray) (bl : List Int) {k : Nat} (h : k < bl.length) : (loggedL D bl).getD k Ch.z = ⟨bl.getD k 0, D.getD (2 + k) ⟨#[]⟩⟩ := by
  simp [loggedL, List.getD, h]

set_option maxRecDepth 100000 in
set_option maxHeartbeats 2000000 in
theorem logged_any (p pd pm : Nat) (σ : St) (D : List ByteArray) (A : Option Addr) (n c B : Nat) (l : List Int) (w : World) (hS : SlabAt w p pd pm σ) (hA : IntsAt w B A n l) (hB : B ≤ w.heap.size) (hn : n ≤ 40)
    (hD : ∀ k : Nat, k < n → σ.read (2 + (k : Int)) = D.getD (2 + k) ⟨#[]⟩) :
    Calls Tryz.prog 89 #[.pointer (some ⟨p, 0, none⟩), .slice A n c] w fun e w' => e = .returned (.slice (some ⟨w.heap.size, 0, none⟩) n n) ∧ ChRow w' w.heap.size (loggedL D l) ∧ Below w.heap.size w w' := by
  have hmk := make_chs n (by omega)
  have hlen := hA.len
  have HLB : Hid ((loggedL D l).length = n) := by show _ = _; rw [loggedL_len, hlen]
  have HLL := Lib.hid hlen
  have HR := Lib.hid (ChRow.new w (List.replicate n Ch.z))
  have HB : Hid (Below w.heap.size w (w.alloc (.cells (chsCells (List.replicate n Ch.z)).toArray 68))) := (Below.refl _ _).alloc (Nat.le_refl _) _
  have HA := Lib.hid hA
  have HS := Lib.hid hS
  have HD := Lib.hid hD
  generalize (chsCells (List.replicate n Ch.z)).toArray = M at *
  clear hA hlen hS hD
  go_enter Tryz.func89, Tryz.ntmps89
  go_wp2
  go_loopw [6, 7, 13] (fun _ _ j wr => ∃ k : Nat, k ≤ n ∧ j = .int .i64 (k : Int) ∧ ChRow wr w.heap.size (partC (loggedL D l) k) ∧ Below w.heap.size w wr) (fun _ _ j _ => n - (intOf j).toNat)
  case atStart =>
    refine ⟨0, by omega, rfl, ?_, HB.out⟩
    rw [partC_0, HLB.out]; exact HR.out
  case round =>
    obtain ⟨k, hk, rfl, hr, hb⟩ := hrel
    by_cases h1 : k < n
    · have hlt : (k : Int) < (n : Int) := by omega
      have x0 : (0 : Int) ≤ (k : Int) := by omega
      obtain ⟨b, o, rfl, hbB, hc0⟩ := HA.out.at_ h1
      have d0 := bcell hb hc0 (by show b < _; omega)
      have hkl : k < (partC (loggedL D l) k).length := by rw [partC_len _ (by rw [HLB.out]; exact hk), HLB.out]; exact h1
      have HKL := Lib.hid hkl
      have HRD := Lib.hid (Sl.read_any p pd pm σ (2 + (k : Int)) wr (HS.out.keptB (Sl.Turns.of_below [] hb)))
      rw [HD.out k h1] at HRD
      have HGET := Lib.hid (loggedL_get D l (k := k) (by rw [HLL.out]; exact h1))
      have HSET := Lib.hid (partC_set (l := loggedL D l) (k := k) (by rw [HLB.out]; exact h1))
      have HRR := Lib.hid hr
      have HBB := Lib.hid hb
      generalize l.getD k 0 = z at *
      generalize D.getD (2 + k) ⟨#[]⟩ = s at *
      clear hc0 hr hb hkl HR HB
      go_wp2_with fail
      refine HRD.out.mono ?_
      rintro e w5 ⟨rfl, b5⟩
      have hr5 := HRR.out.below b5 HRR.out.lt
      have HB5 := Lib.hid (HBB.out.trans (b5.mono HBB.out.size))
      have hcell := (hr5.cell k HKL.out).1
      have hcell1 := (hr5.cell k HKL.out).2
      have hfz := hr5.fz (k * 2)
      have hfz1 := hr5.fz (k * 2 + 1)
      have HN : Hid (ChRow ((w5.setCell ⟨w.heap.size, k * 2, none⟩ (.int .i64 z)).setCell ⟨w.heap.size, k * 2 + 1, none⟩ (.string s)) w.heap.size (partC (loggedL D l) (k + 1))) := by
        show ChRow _ _ _
        rw [← HSET.out, HGET.out]
        exact hr5.set HKL.out ⟨z, s⟩
      have HB6 : Hid (Below w.heap.size w ((w5.setCell ⟨w.heap.size, k * 2, none⟩ (.int .i64 z)).setCell ⟨w.heap.size, k * 2 + 1, none⟩ (.string s))) := (HB5.out.setCell (Nat.le_refl _) _).setCell (Nat.le_refl _) _
      generalize (partC (loggedL D l) k).getD k Ch.z = z0 at *
      clear b5 hr5
      go_wp2
      go_roundw
      case rel => exact ⟨k + 1, h1, by push_cast; rfl, HN.out, HB6.out⟩
      case measure => simp only [intOf]; omega
    · have hnlt : ¬ (k : Int) < (n : Int) := by omega
      have e : k = n := by omega
      have hr2 : ChRow wr w.heap.size (loggedL D l) := by rw [e, ← HLB.out, partC_all] at hr; exact hr
      have HRR := Lib.hid hr2
      have HBB := Lib.hid hb
      clear hr hb hr2 e
      go_wp2
      go_ret
      exact ⟨rfl, HRR.out, HBB.out⟩
end Go.Proofs.YtgdlfiejjnjcpaaGreat.Lg

namespace Go.Proofs.YtgdlfiejjnjcpaaGreat.Lg
open Go.RowKit
open Sl (St SlabAt Turns)

set_option maxHeartbeats 2000000 in
theorem inOrder_any (g n c : Nat) (f : Nat → FuncId) (cap : Nat → Array Value) (I : Nat → World → Prop) (w : World) (hn : n ≤ 10)
    (hc : ∀ k w', k < n → I k w' → w'.cell? ⟨g, k, none⟩ = some (.func (.func (f k)) #[] (cap k)))
    (hf : ∀ k, k < n → ∀ w', (callFunc (f k) (cap k)).run Tryz.prog w' = .ok (.enter (f k) (cap k)) w')
    (hs : ∀ k w', k < n → I k w' → Calls Tryz.prog (f k) (cap k) w' fun e w'' => e = .returned (.int .i64 0) ∧ I (k + 1) w'')
    (h0 : I 0 w) : Calls Tryz.prog 117 #[.slice (some ⟨g, 0, none⟩) n c] w fun e w' => e = .returned (.int .i64 0) ∧ I n w' := by
  have HC := Lib.hid hc
  have HS := Lib.hid hs
  have HF := Lib.hid hf
  have H0 := Lib.hid h0
  clear hc hs h0 hf
  go_enter Tryz.func117, Tryz.ntmps117
  go_wp2
  go_loopw [4, 5, 8] (fun _ _ j wr => ∃ k : Nat, k ≤ n ∧ j = .int .i64 (k : Int) ∧ I k wr) (fun _ _ j _ => n - (intOf j).toNat)
  case atStart => exact ⟨0, by omega, rfl, H0.out⟩
  case round =>
    obtain ⟨k, hk, rfl, hi⟩ := hrel
    by_cases h1 : k < n
    · have hlt : (k : Int) < (n : Int) := by omega
      have x0 : (0 : Int) ≤ (k : Int) := by omega
      have hcell := HC.out k wr h1 hi
      have HST := Lib.hid (HS.out k wr h1 hi)
      have hcf := HF.out k h1
      clear hi HC HS HF H0
      generalize f k = fk at *
      generalize cap k = ck at *
      go_wp2_with fail
      refine HST.out.mono ?_
      rintro e w2 ⟨rfl, hi2⟩
      have HI2 := Lib.hid hi2
      clear hi2
      go_wp2
      go_roundw
      case rel => exact ⟨k + 1, h1, by push_cast; rfl, HI2.out⟩
      case measure => simp only [intOf]; omega
    · have hnlt : ¬ (k : Int) < (n : Int) := by omega
      have e : k = n := by omega
      subst e
      have HI2 := Lib.hid hi
      clear hi HC HS HF H0
      go_wp2
      go_ret
      exact ⟨rfl, HI2.out⟩

theorem ChsAt.turns {w w' : World} {B n : Nat} {A : Option Addr} {l : List Ch} {L : List Nat} (h : ChsAt w B A n l) (ht : Turns L w w') (hA : ∀ a, A = some a → a.block ∉ L) : ChsAt w' B A n l :=
  ⟨h.1, h.2.1, fun k hkn => by
    obtain ⟨b, o, e, hb, h1, h2⟩ := h.2.2 k hkn
    have hn := hA _ e
    exact ⟨b, o, e, hb, ht.cell h1 hn, ht.cell h2 hn⟩⟩
/-- a slice lies in none of these blocks. -/
def Out (A : Option Addr) (L : List Nat) : Prop := ∀ a, A = some a → a.block ∉ L

set_option maxRecDepth 100000 in
set_option maxHeartbeats 2000000 in
theorem writeAll_any (p pd pm : Nat) (σ : St) (A : Option Addr) (n c B : Nat) (l : List Ch) (w : World) (hS : SlabAt w p pd pm σ) (hr : σ.stops = false) (hA : ChsAt w B A n l) (hO : Out A [p, pd, pm])
    (hI : InL σ.dur.length l) (hn : n ≤ 1000) (hc : σ.calls ≤ 900000) :
    Calls Tryz.prog 119 #[.pointer (some ⟨p, 0, none⟩), .slice A n c] w fun e w' => e = .returned (.int .i64 0) ∧ SlabAt w' p pd pm (wall σ l) ∧ Turns [p, pd, pm] w w' := by
  have HL := Lib.hid hA.len
  have HA := Lib.hid hA
  have HS := Lib.hid hS
  have HO := Lib.hid hO
  have HIN : Hid (∀ k, k < n → 0 ≤ (l.getD k Ch.z).bk ∧ (l.getD k Ch.z).bk < (σ.dur.length : Int) ∧ (l.getD k Ch.z).dt.size = 128) := fun k hk => by
    have hk' : k < l.length := by rw [hA.len]; exact hk
    have e : l.getD k Ch.z = l[k] := by simp [List.getD, hk']
    rw [e]; exact hI _ (List.getElem_mem hk')
  have HT : Hid (∀ k, k < n → wall σ (l.take (k + 1)) = (wall σ (l.take k)).tick.put (l.getD k Ch.z).bk (l.getD k Ch.z).dt) := fun k hk => by
    have hk' : k < l.length := by rw [hA.len]; exact hk
    have e : l.take (k + 1) = l.take k ++ [l.getD k Ch.z] := by
      rw [List.take_succ_eq_append_getElem hk']; simp [List.getD, hk']
    rw [e, wall_snoc]
  have HLEN := Lib.hid hS.len
  have HTK : Hid (∀ k, (wall σ (l.take k)).dur = σ.dur ∧ (wall σ (l.take k)).stops = false ∧ (wall σ (l.take k)).calls ≤ σ.calls + k) := fun k => by
    obtain ⟨a, b, _, d⟩ := wall_same (l.take k) σ
    refine ⟨a, b.trans hr, ?_⟩
    rw [d, List.length_take]; omega
  have HE : Hid (wall σ (l.take n) = wall σ l) := by show _ = _; rw [← hA.len, List.take_length]
  have H0 : Hid (wall σ (l.take 0) = σ) := rfl
  clear hA hS hO hI hr
  go_enter Tryz.func119, Tryz.ntmps119
  go_wp2
  go_loopw [6, 7, 10] (fun _ _ j wr => ∃ k : Nat, k ≤ n ∧ j = .int .i64 (k : Int) ∧ SlabAt wr p pd pm (wall σ (l.take k)) ∧ Turns [p, pd, pm] w wr) (fun _ _ j _ => n - (intOf j).toNat)
  case atStart => exact ⟨0, by omega, rfl, HS.out, Turns.refl _ _⟩
  case round =>
    obtain ⟨k, hk, rfl, hs, ht⟩ := hrel
    by_cases h1 : k < n
    · have hlt : (k : Int) < (n : Int) := by omega
      have x0 : (0 : Int) ≤ (k : Int) := by omega
      have hA2 := HA.out.turns ht HO.out
      have hfit := hA2.bd k
      obtain ⟨b, o, rfl, hbB, d0, d1⟩ := hA2.at_ h1
      obtain ⟨a1, a2, a3⟩ := HTK.out k
      obtain ⟨i1, i2, i3⟩ := HIN.out k h1
      have HTk := Lib.hid (HT.out k h1)
      have HSN := Lib.hid hs
      have HTN := Lib.hid ht
      obtain ⟨wk, wz⟩ := write_ok a2 i1 (by rw [a1]; exact i2) i3
      have HB : Hid (-9223372036854775808 ≤ (l.getD k Ch.z).bk ∧ (l.getD k Ch.z).bk ≤ 9223372036854775807) := hfit.2
      have HWR : Hid (∀ u t, Calls Tryz.prog 123 #[.pointer (some ⟨p, 0, none⟩), .int .i64 (l.getD k Ch.z).bk, .string (l.getD k Ch.z).dt] (wr.alloc (.cells u t)) fun e w' => e = .returned (.int .i64 0) ∧ SlabAt w' p pd pm (wall σ (l.take (k + 1))) ∧ Turns [p, pd, pm] (wr.alloc (.cells u t)) w') := fun u t => by
        have h := Sl.write_any p pd pm (wall σ (l.take k)) (l.getD k Ch.z).bk (l.getD k Ch.z).dt (wr.alloc (.cells u t)) (HSN.out.keptB (Turns.alloc _ _ _)) (by omega) HB.out (by omega)
        rw [wk, wz, ← HTk.out] at h
        exact h
      generalize (l.getD k Ch.z).bk = z at *
      generalize (l.getD k Ch.z).dt = s at *
      clear hs ht hA2 hfit a1 a2 a3 i1 i2 i3 wk wz HTk HT
      go_wp2_with fail
      refine (HWR.out _ _).mono ?_
      rintro e w5 ⟨rfl, h5, t5⟩
      have H5 := Lib.hid h5
      have T5 := Lib.hid ((HTN.out.trans (Turns.alloc _ _ _)).trans t5)
      clear h5 t5
      go_wp2
      go_roundw
      case rel => exact ⟨k + 1, h1, by push_cast; rfl, H5.out, T5.out⟩
      case measure => simp only [intOf]; omega
    · have hnlt : ¬ (k : Int) < (n : Int) := by omega
      have e : k = n := by omega
      subst e
      rw [HE.out] at hs
      have HSN := Lib.hid hs
      have HTN := Lib.hid ht
      clear hs ht
      go_wp2
      go_ret
      exact ⟨rfl, HSN.out, HTN.out⟩
end Go.Proofs.YtgdlfiejjnjcpaaGreat.Lg

namespace Go.Proofs.YtgdlfiejjnjcpaaGreat.Lg
open Go.RowKit
open Sl (St SlabAt Turns)

theorem cell_lt {w : World} {a : Addr} {v : Value} (h : w.cell? a = some v) : a.block < w.heap.size := by
  rcases Nat.lt_or_ge a.block w.heap.size with hl | hl
  · exact hl
  · unfold World.cell? at h
    rw [Array.getElem?_eq_none hl] at h
    cases h
/-- what the closures hold: the slab, and the changes. -/
def Env (w : World) (g0 g1 p : Nat) (A : Option Addr) (n c : Nat) : Prop := w.cell? ⟨g0, 0, none⟩ = some (.pointer (some ⟨p, 0, none⟩)) ∧ w.cell? ⟨g1, 0, none⟩ = some (.slice A n c)
theorem Env.turns {w w' : World} {g0 g1 p n c : Nat} {A : Option Addr} {L : List Nat} (h : Env w g0 g1 p A n c) (ht : Turns L w w') (h0 : g0 ∉ L) (h1 : g1 ∉ L) : Env w' g0 g1 p A n c := ⟨ht.cell h.1 h0, ht.cell h.2 h1⟩
/-- the answer of a step that ends well. -/
def Step (p pd pm : Nat) (σ : St) (w : World) (e : Ending) (w' : World) : Prop := e = .returned (.int .i64 0) ∧ SlabAt w' p pd pm σ ∧ Turns [p, pd, pm] w w'
theorem flushC (p pd pm : Nat) (σ : St) (w : World) (h : SlabAt w p pd pm σ) (hr : σ.stops = false) (hc : σ.calls ≤ 900000) : Calls Tryz.prog 121 #[.pointer (some ⟨p, 0, none⟩)] w fun e w' => Step p pd pm (fl σ) w e w' := by
  have h := Sl.flush_any p pd pm σ w h (by omega)
  obtain ⟨a, b⟩ := flush_ok hr
  rw [a, b] at h
  exact h
theorem writeC (p pd pm : Nat) (σ : St) (i : Int) (s : ByteArray) (w : World) (h : SlabAt w p pd pm σ) (hr : σ.stops = false) (hc : σ.calls ≤ 900000) (h0 : 0 ≤ i) (h1 : i < (σ.dur.length : Int)) (hs : s.size = 128) : Calls Tryz.prog 123 #[.pointer (some ⟨p, 0, none⟩), .int .i64 i, .string s] w fun e w' => Step p pd pm (σ.tick.put i s) w e w' := by
  have hl := h.len
  have h := Sl.write_any p pd pm σ i s w h (by omega) (by omega) (by omega)
  obtain ⟨a, b⟩ := write_ok hr h0 h1 hs
  rw [a, b] at h
  exact h
theorem flush60 (g0 p pd pm : Nat) (σ : St) (w : World) (h : SlabAt w p pd pm σ) (hr : σ.stops = false) (hc : σ.calls ≤ 900000) (hg : w.cell? ⟨g0, 0, none⟩ = some (.pointer (some ⟨p, 0, none⟩))) : Calls Tryz.prog 120 #[.pointer (some ⟨g0, 0, none⟩)] w fun e w' => Step p pd pm (fl σ) w e w' := by
  have HF := Lib.hid (flushC p pd pm σ w h hr hc)
  clear h
  go_enter Tryz.func120, Tryz.ntmps120
  go_wp2_with fail
  refine HF.out.mono ?_
  rintro e w1 ⟨rfl, h1, t1⟩
  have H1 := Lib.hid h1
  have T1 := Lib.hid t1
  clear h1 t1
  go_wp2
  go_ret
  exact ⟨rfl, H1.out, T1.out⟩
theorem flush62 (g0 p pd pm : Nat) (σ : St) (w : World) (h : SlabAt w p pd pm σ) (hr : σ.stops = false) (hc : σ.calls ≤ 900000) (hg : w.cell? ⟨g0, 0, none⟩ = some (.pointer (some ⟨p, 0, none⟩))) : Calls Tryz.prog 124 #[.pointer (some ⟨g0, 0, none⟩)] w fun e w' => Step p pd pm (fl σ) w e w' := by
  have HF := Lib.hid (flushC p pd pm σ w h hr hc)
  clear h
  go_enter Tryz.func124, Tryz.ntmps124
  go_wp2_with fail
  refine HF.out.mono ?_
  rintro e w1 ⟨rfl, h1, t1⟩
  have H1 := Lib.hid h1
  have T1 := Lib.hid t1
  clear h1 t1
  go_wp2
  go_ret
  exact ⟨rfl, H1.out, T1.out⟩
set_option maxHeartbeats 1000000 in
theorem all59 (g0 g1 p pd pm : Nat) (σ : St) (A : Option Addr) (n c B : Nat) (l : List Ch) (w : World) (hE : Env w g0 g1 p A n c) (hS : SlabAt w p pd pm σ) (hr : σ.stops = false) (hA : ChsAt w B A n l) (hO : Out A [p, pd, pm])
    (hI : InL σ.dur.length l) (hn : n ≤ 1000) (hc : σ.calls ≤ 900000) : Calls Tryz.prog 118 #[.pointer (some ⟨g0, 0, none⟩), .pointer (some ⟨g1, 0, none⟩)] w fun e w' => Step p pd pm (wall σ l) w e w' := by
  have HF := Lib.hid (writeAll_any p pd pm σ A n c B l w hS hr hA hO hI hn hc)
  obtain ⟨e0, e1⟩ := hE
  clear hS hA hO
  go_enter Tryz.func118, Tryz.ntmps118
  go_wp2_with fail
  refine HF.out.mono ?_
  rintro e w1 ⟨rfl, h1, t1⟩
  have H1 := Lib.hid h1
  have T1 := Lib.hid t1
  clear h1 t1
  go_wp2
  go_ret
  exact ⟨rfl, H1.out, T1.out⟩
set_option maxHeartbeats 2000000 in
theorem head61 (g0 p pd pm : Nat) (σ : St) (w : World) (hO0 : g0 ∉ [p, pd, pm]) (hS : SlabAt w p pd pm σ) (hr : σ.stops = false) (hc : σ.calls ≤ 900000) (hl : 1 < σ.dur.length) (hg : w.cell? ⟨g0, 0, none⟩ = some (.pointer (some ⟨p, 0, none⟩))) :
    Calls Tryz.prog 122 #[.pointer (some ⟨g0, 0, none⟩)] w fun e w' => Step p pd pm (σ.tick.put 1 (headB [])) w e w' := by
  have hgl : g0 < w.heap.size := cell_lt hg
  have HH := Lib.hid (head_any none 0 0 w.heap.size [] w.drew (IntsAt.nil _ _ _) (Nat.le_refl _) (by omega))
  have HW := Lib.hid (fun (v : World) (h : SlabAt v p pd pm σ) => writeC p pd pm σ 1 (headB []) v h hr hc (by omega) (by omega) (headB_size (by simp)))
  have HS := Lib.hid hS
  have S0 := Lib.hid hg
  generalize headB [] = z at *
  clear hS
  go_enter Tryz.func122, Tryz.ntmps122
  go_wp2_with fail
  go_region_held3 (fun v' => v'.cell? ⟨g0, 0, none⟩ = some (.pointer (some ⟨p, 0, none⟩)))
    (first | exact S0.out | exact S1.out | exact S3.out)
    (first
      | (go_at_call 123; go_must (go_fit (HW.out _ H1.out))
         rintro e w3 ⟨rfl, h3, t3⟩
         have H3 := Lib.hid h3
         have S3 := Lib.hid (t3.cell S1.out hO0)
         have T3 := Lib.hid (T1.out.trans t3)
         clear h3 t3)
      | (go_at_call 116; go_must (go_fit (HH.out))
         rintro e w2 ⟨rfl, b2⟩
         have T1 := Lib.hid ((Sl.drew_turns [p, pd, pm] w).trans (Turns.of_below [p, pd, pm] b2))
         have H1 := Lib.hid ((HS.out.keptB (Sl.drew_turns [] w)).keptB (Turns.of_below [] b2))
         have S1 := Lib.hid (bcell (C := w.heap.size) b2 (show w.drew.cell? ⟨g0, 0, none⟩ = _ from S0.out) hgl)
         clear b2))
  all_goals
    go_wp2
    go_ret
    exact ⟨rfl, H3.out, T3.out⟩

end Go.Proofs.YtgdlfiejjnjcpaaGreat.Lg

namespace Go.Proofs.YtgdlfiejjnjcpaaGreat.Lg
open Go.RowKit
open Sl (St SlabAt Turns)

/-- the states between the steps of apply. -/
def apSt (σ : St) (l : List Ch) : Nat → St
  | 0 => σ
  | 1 => wall σ l
  | 2 => fl (wall σ l)
  | 3 => (fl (wall σ l)).tick.put 1 (headB [])
  | _ => fl ((fl (wall σ l)).tick.put 1 (headB []))
def applyS (σ : St) (l : List Ch) : St := apSt σ l 4
theorem wall_calls (σ : St) (l : List Ch) : (wall σ l).calls = σ.calls + l.length := (wall_same l σ).2.2.2
theorem apSt_same (σ : St) (l : List Ch) : ∀ k, (apSt σ l k).stops = σ.stops ∧ (apSt σ l k).calls ≤ σ.calls + l.length + 4 ∧ (apSt σ l k).dur.length = σ.dur.length
  | 0 => ⟨rfl, by show σ.calls ≤ _; omega, rfl⟩
  | 1 => by
    obtain ⟨a, b, _, d⟩ := wall_same l σ
    exact ⟨b, by show (wall σ l).calls ≤ _; omega, by show (wall σ l).dur.length = _; rw [a]⟩
  | 2 => by
    obtain ⟨a, b, _, d⟩ := wall_same l σ
    exact ⟨b, by show (wall σ l).calls + 1 ≤ _; omega, by show (wall σ l).img.length = _; rw [Sl.St.img_len, a]⟩
  | 3 => by
    obtain ⟨a, b, _, d⟩ := wall_same l σ
    exact ⟨b, by show (wall σ l).calls + 1 + 1 ≤ _; omega, by show (wall σ l).img.length = _; rw [Sl.St.img_len, a]⟩
  | k + 4 => by
    obtain ⟨a, b, _, d⟩ := wall_same l σ
    refine ⟨b, by show (wall σ l).calls + 1 + 1 + 1 ≤ _; omega, ?_⟩
    show ((fl (wall σ l)).tick.put 1 (headB [])).img.length = _
    rw [Sl.St.img_len]
    show (wall σ l).img.length = _
    rw [Sl.St.img_len, a]

def apF (k : Nat) : FuncId := [118, 120, 122, 124].getD k 0
def apC (b0 b1 : Nat) (k : Nat) : Array Value := [#[.pointer (some ⟨b0, 0, none⟩), .pointer (some ⟨b1, 0, none⟩)], #[.pointer (some ⟨b0, 0, none⟩)], #[.pointer (some ⟨b0, 0, none⟩)], #[.pointer (some ⟨b0, 0, none⟩)]].getD k #[]
theorem apF_run (b0 b1 : Nat) (k : Nat) (hk : k < 4) (w : World) : (callFunc (apF k) (apC b0 b1 k)).run Tryz.prog w = .ok (.enter (apF k) (apC b0 b1 k)) w := by
  rcases (by omega : k = 0 ∨ k = 1 ∨ k = 2 ∨ k = 3) with rfl | rfl | rfl | rfl
  · have h : ∀ C : Array Value, (callFunc 118 C).run Tryz.prog w = .ok (.enter 118 C) w := fun C => by kernel_rfl
    exact h _
  · have h : ∀ C : Array Value, (callFunc 120 C).run Tryz.prog w = .ok (.enter 120 C) w := fun C => by kernel_rfl
    exact h _
  · have h : ∀ C : Array Value, (callFunc 122 C).run Tryz.prog w = .ok (.enter 122 C) w := fun C => by kernel_rfl
    exact h _
  · have h : ∀ C : Array Value, (callFunc 124 C).run Tryz.prog w = .ok (.enter 124 C) w := fun C => by kernel_rfl
    exact h _

set_option maxRecDepth 100000 in
/-- inOrder over the steps of apply. -/
theorem apply_steps (g b0 b1 c0 p pd pm : Nat) (σ : St) (A : Option Addr) (n c B : Nat) (l : List Ch) (w : World) (hS : SlabAt w p pd pm σ) (hr : σ.stops = false) (hA : ChsAt w B A n l) (hO : Out A [p, pd, pm])
    (hI : InL σ.dur.length l) (hn : n ≤ 40) (hc : σ.calls ≤ 800000) (hl : 1 < σ.dur.length) (hE : Env w b0 b1 p A n c) (h0 : b0 ∉ [p, pd, pm]) (h1 : b1 ∉ [p, pd, pm]) (hg : g ∉ [p, pd, pm])
    (hf : ∀ k, k < 4 → w.cell? ⟨g, k, none⟩ = some (.func (.func (apF k)) #[] (apC b0 b1 k))) :
    Calls Tryz.prog 117 #[.slice (some ⟨g, 0, none⟩) 4 c0] w fun e w' => Step p pd pm (applyS σ l) w e w' := by
  have hln := hA.len
  refine (inOrder_any g 4 c0 apF (apC b0 b1) (fun k w' => SlabAt w' p pd pm (apSt σ l k) ∧ Turns [p, pd, pm] w w') w (by omega) ?_ ?_ ?_ ?_).mono ?_
  · intro k w' hk h
    exact h.2.cell (hf k hk) hg
  · exact fun k hk w' => apF_run b0 b1 k hk w'
  · intro k w' hk h
    obtain ⟨hs, ht⟩ := h
    obtain ⟨e1, e2, e3⟩ := apSt_same σ l k
    have hE' := hE.turns ht h0 h1
    rcases (by omega : k = 0 ∨ k = 1 ∨ k = 2 ∨ k = 3) with rfl | rfl | rfl | rfl
    · exact (all59 b0 b1 p pd pm σ A n c B l w' hE' hs hr (hA.turns ht hO) hO hI (by omega) (by omega)).mono fun e w'' h => ⟨h.1, h.2.1, ht.trans h.2.2⟩
    · exact (flush60 b0 p pd pm _ w' hs (e1.trans hr) (by omega) hE'.1).mono fun e w'' h => ⟨h.1, h.2.1, ht.trans h.2.2⟩
    · exact (head61 b0 p pd pm _ w' h0 hs (e1.trans hr) (by omega) (by rw [e3]; exact hl) hE'.1).mono fun e w'' h => ⟨h.1, h.2.1, ht.trans h.2.2⟩
    · exact (flush62 b0 p pd pm _ w' hs (e1.trans hr) (by omega) hE'.1).mono fun e w'' h => ⟨h.1, h.2.1, ht.trans h.2.2⟩
  · exact ⟨hS, Turns.refl _ _⟩
  · intro e w' h
    exact h

set_option maxRecDepth 100000 in
set_option maxHeartbeats 2000000 in
theorem apply_any (p pd pm : Nat) (σ : St) (A : Option Addr) (n c B : Nat) (l : List Ch) (w : World) (hS : SlabAt w p pd pm σ) (hr : σ.stops = false) (hA : ChsAt w B A n l) (hO : Out A [p, pd, pm])
    (hI : InL σ.dur.length l) (hn : n ≤ 40) (hc : σ.calls ≤ 800000) (hl : 1 < σ.dur.length) :
    Calls Tryz.prog 88 #[.pointer (some ⟨p, 0, none⟩), .slice A n c] w fun e w' => Step p pd pm (applyS σ l) w e w' := by
  obtain ⟨FS, hFS⟩ : ∃ FS : Array Value, FS = #[.func (.func 118) #[] #[.pointer (some ⟨w.heap.size, 0, none⟩), .pointer (some ⟨w.heap.size + 1, 0, none⟩)], .func (.func 120) #[] #[.pointer (some ⟨w.heap.size, 0, none⟩)], .func (.func 122) #[] #[.pointer (some ⟨w.heap.size, 0, none⟩)], .func (.func 124) #[] #[.pointer (some ⟨w.heap.size, 0, none⟩)]] := ⟨_, rfl⟩
  obtain ⟨W, hW⟩ : ∃ W : World, W = ((w.alloc (.cells #[.pointer (some ⟨p, 0, none⟩)] 56)).alloc (.cells #[.slice A n c] 65)).alloc (.cells FS 161) := ⟨_, rfl⟩
  have ht : Turns [] w W := by rw [hW]; exact ((Turns.alloc _ _ _).trans (Turns.alloc _ _ _)).trans (Turns.alloc _ _ _)
  have hp := hS.lt_p
  have hd := hS.lt_d
  have hm := hS.lt_m
  have hE : Env W w.heap.size (w.heap.size + 1) p A n c := by
    rw [hW]
    refine ⟨?_, ?_⟩
    · refine bcell ((Below.refl (w.alloc (.cells #[.pointer (some ⟨p, 0, none⟩)] 56)).heap.size _).alloc (by simp) _ |>.alloc (by simp) _) (cell_new w _ 56 0 rfl) (by simp)
    · have h := cell_new (w.alloc (.cells #[.pointer (some ⟨p, 0, none⟩)] 56)) #[.slice A n c] 65 0 (v := .slice A n c) rfl
      have e : (w.alloc (.cells #[.pointer (some ⟨p, 0, none⟩)] 56)).heap.size = w.heap.size + 1 := by simp
      rw [e] at h
      exact bcell ((Below.refl ((w.alloc (.cells #[.pointer (some ⟨p, 0, none⟩)] 56)).alloc (.cells #[.slice A n c] 65)).heap.size _).alloc (Nat.le_refl _) _) h (by simp)
  have hf : ∀ k, k < 4 → W.cell? ⟨w.heap.size + 1 + 1, k, none⟩ = some (.func (.func (apF k)) #[] (apC w.heap.size (w.heap.size + 1) k)) := by
    intro k hk
    have e : ((w.alloc (.cells #[.pointer (some ⟨p, 0, none⟩)] 56)).alloc (.cells #[.slice A n c] 65)).heap.size = w.heap.size + 1 + 1 := by simp
    rw [hW, ← e]
    refine cell_new _ FS 161 k ?_
    rw [hFS]
    rcases (by omega : k = 0 ∨ k = 1 ∨ k = 2 ∨ k = 3) with rfl | rfl | rfl | rfl <;> rfl
  have HST := Lib.hid (apply_steps (w.heap.size + 1 + 1) w.heap.size (w.heap.size + 1) 4 p pd pm σ A n c B l W (hS.keptB ht) hr (hA.turns ht (fun _ _ => by simp)) hO hI hn hc hl hE (by simp; omega) (by simp; omega) (by simp; omega) hf)
  have HT := Lib.hid (ht.mono (L' := [p, pd, pm]) (by simp))
  rw [hW, hFS] at HST
  rw [hW, hFS] at HT
  have hmf : ∀ (fn : Fn) (first cap : Array Value) (w : World), (Instr.makeFunc fn first cap).run Tryz.prog w = .ok (.func fn first cap) w := fun _ _ _ _ => rfl
  clear hS hA hO hE hf ht hW hFS hp hd hm
  go_enter Tryz.func88, Tryz.ntmps88
  go_wp2_with fail
  refine HST.out.mono ?_
  rintro e w1 ⟨rfl, h1, t1⟩
  have H1 := Lib.hid h1
  have T1 := Lib.hid (HT.out.trans t1)
  clear h1 t1
  go_wp2
  go_ret
  exact ⟨rfl, H1.out, T1.out⟩

theorem movedL_in {l : List Ch} {N : Nat} (h : ∀ c ∈ l, c.dt.size = 128) (hn : l.length ≤ 40) (hN : 42 ≤ N) : InL N (movedL l) := by
  intro c hc
  obtain ⟨k, hk, rfl⟩ := List.mem_map.1 hc
  have hkl := List.mem_range.1 hk
  refine ⟨by show (0 : Int) ≤ 2 + (k : Int); omega, by show 2 + (k : Int) < (N : Int); omega, ?_⟩
  have e : l.getD k Ch.z = l[k] := by simp [List.getD, hkl]
  show (l.getD k Ch.z).dt.size = 128
  rw [e]; exact h _ (List.getElem_mem hkl)

/-- the states between the steps of commit. -/
def cmSt (σ : St) (l : List Ch) : Nat → St
  | 0 => σ
  | 1 => wall σ (movedL l)
  | 2 => fl (wall σ (movedL l))
  | 3 => (fl (wall σ (movedL l))).tick.put 1 (headB (bks l))
  | 4 => fl ((fl (wall σ (movedL l))).tick.put 1 (headB (bks l)))
  | _ => applyS (fl ((fl (wall σ (movedL l))).tick.put 1 (headB (bks l)))) l
def commitS (σ : St) (l : List Ch) : St := cmSt σ l 5
theorem cmSt_same (σ : St) (l : List Ch) : ∀ k, k ≤ 4 → (cmSt σ l k).stops = σ.stops ∧ (cmSt σ l k).calls ≤ σ.calls + l.length + 4 ∧ (cmSt σ l k).dur.length = σ.dur.length
  | 0, _ => ⟨rfl, by show σ.calls ≤ _; omega, rfl⟩
  | 1, _ => by
    obtain ⟨a, b, _, d⟩ := wall_same (movedL l) σ
    rw [movedL_len] at d
    exact ⟨b, by show (wall σ (movedL l)).calls ≤ _; omega, by show (wall σ (movedL l)).dur.length = _; rw [a]⟩
  | 2, _ => by
    obtain ⟨a, b, _, d⟩ := wall_same (movedL l) σ
    rw [movedL_len] at d
    exact ⟨b, by show (wall σ (movedL l)).calls + 1 ≤ _; omega, by show (wall σ (movedL l)).img.length = _; rw [Sl.St.img_len, a]⟩
  | 3, _ => by
    obtain ⟨a, b, _, d⟩ := wall_same (movedL l) σ
    rw [movedL_len] at d
    exact ⟨b, by show (wall σ (movedL l)).calls + 1 + 1 ≤ _; omega, by show (wall σ (movedL l)).img.length = _; rw [Sl.St.img_len, a]⟩
  | 4, _ => by
    obtain ⟨a, b, _, d⟩ := wall_same (movedL l) σ
    rw [movedL_len] at d
    refine ⟨b, by show (wall σ (movedL l)).calls + 1 + 1 + 1 ≤ _; omega, ?_⟩
    show ((fl (wall σ (movedL l))).tick.put 1 (headB (bks l))).img.length = _
    rw [Sl.St.img_len]
    show (wall σ (movedL l)).img.length = _
    rw [Sl.St.img_len, a]
  | k + 5, h => by omega

def cmC (b0 b1 : Nat) (k : Nat) : Array Value := [#[.pointer (some ⟨b0, 0, none⟩), .pointer (some ⟨b1, 0, none⟩)], #[.pointer (some ⟨b0, 0, none⟩)], #[.pointer (some ⟨b0, 0, none⟩), .pointer (some ⟨b1, 0, none⟩)], #[.pointer (some ⟨b0, 0, none⟩)], #[.pointer (some ⟨b0, 0, none⟩), .pointer (some ⟨b1, 0, none⟩)]].getD k #[]
end Go.Proofs.YtgdlfiejjnjcpaaGreat.Lg

namespace Go.Proofs.YtgdlfiejjnjcpaaGreat.Lg
open Go.RowKit
open Sl (St SlabAt Turns)

/-! ### the states, in plain words -/
def Whole (D : List ByteArray) : Prop := ∀ s ∈ D, s.size = 128
theorem Whole.get {D : List ByteArray} (h : Whole D) {k : Nat} (hk : k < D.length) : (D.getD k ⟨#[]⟩).size = 128 := by
  have e : D.getD k ⟨#[]⟩ = D[k] := by simp [List.getD, hk]
  rw [e]; exact h _ (List.getElem_mem hk)
theorem Whole.set {D : List ByteArray} (h : Whole D) (k : Nat) {s : ByteArray} (hs : s.size = 128) : Whole (D.set k s) := by
  intro x hx
  rcases List.mem_or_eq_of_mem_set hx with e | e
  · exact h x e
  · rw [e]; exact hs
theorem Whole.setL (l : List Ch) : ∀ {D : List ByteArray}, Whole D → (∀ c ∈ l, c.dt.size = 128) → Whole (setL D l) := by
  induction l with
  | nil => intro D h _; exact h
  | cons c r ih =>
    intro D h hl
    exact ih (h.set _ (hl c (by simp))) (fun d hd => hl d (by simp [hd]))
theorem read_FS {D : List ByteArray} {c k : Nat} (hk : k < D.length) : (FS D c).read (k : Int) = D.getD k ⟨#[]⟩ := by
  unfold Sl.St.read Sl.St.has Sl.St.at FS
  simp [hk]
theorem fl_one {D : List ByteArray} {c : Nat} {s : ByteArray} (hs : s.size = 128) (hl : 1 < D.length) : fl ((FS D c).tick.put 1 s) = FS (D.set 1 s) (c + 2) := by
  have h := fl_wall (D := D) (c := c) (l := [⟨1, s⟩]) (fun x hx => by
    obtain rfl := List.mem_singleton.1 hx
    exact ⟨by show (0 : Int) ≤ 1; decide, by show (1 : Int) < (D.length : Int); omega, hs⟩)
  exact h
theorem z_size : (headB []).size = 128 := headB_size (by simp)
theorem applyS_FS {D : List ByteArray} {c : Nat} {l : List Ch} (hI : InL D.length l) (hl : 1 < D.length) : applyS (FS D c) l = FS ((setL D l).set 1 (headB [])) (c + l.length + 3) := by
  show fl ((fl (wall (FS D c) l)).tick.put 1 (headB [])) = _
  rw [fl_wall hI, fl_one z_size (by rw [setL_len]; exact hl)]
/-- the blocks behind a commit. -/
def cmD (D : List ByteArray) (l : List Ch) : List ByteArray := (setL ((setL D (movedL l)).set 1 (headB (bks l))) l).set 1 (headB [])
theorem commitS_FS {D : List ByteArray} {c : Nat} {l : List Ch} (hI : InL D.length l) (hn : l.length ≤ 40) (hl : 42 ≤ D.length) : commitS (FS D c) l = FS (cmD D l) (c + 2 * l.length + 6) := by
  have hm := movedL_in (N := D.length) (fun c hc => (hI c hc).2.2) hn hl
  have hl1 : (setL D (movedL l)).length = D.length := setL_len _ _
  have hl2 : ((setL D (movedL l)).set 1 (headB (bks l))).length = D.length := by rw [List.length_set, hl1]
  show applyS (fl ((fl (wall (FS D c) (movedL l))).tick.put 1 (headB (bks l)))) l = _
  rw [fl_wall hm, fl_one (headB_size (by rw [bks_len]; exact hn)) (by rw [hl1]; omega), applyS_FS (by rw [hl2]; exact hI) (by rw [hl2]; omega), movedL_len]
  show FS (cmD D l) _ = _
  congr 1
  omega
/-- the blocks behind a recovery, and the calls it takes. -/
def rpD (D : List ByteArray) : List ByteArray := if (hdL (D.getD 1 ⟨#[]⟩)).length = 0 then D else (setL D (loggedL D (hdL (D.getD 1 ⟨#[]⟩)))).set 1 (headB [])
def rpC (D : List ByteArray) (c : Nat) : Nat := if (hdL (D.getD 1 ⟨#[]⟩)).length = 0 then c else c + (hdL (D.getD 1 ⟨#[]⟩)).length + 3
def okD (D : List ByteArray) : Bool := hdOk (D.getD 1 ⟨#[]⟩) D.length
theorem loggedL_in {D : List ByteArray} {bl : List Int} (hw : Whole D) (hl : 42 ≤ D.length) (hn : bl.length ≤ 40) (hc : chB D.length bl = true) : InL D.length (loggedL D bl) := by
  intro c hcc
  obtain ⟨k, hk, rfl⟩ := List.mem_map.1 hcc
  have hkl := List.mem_range.1 hk
  obtain ⟨a, b, _⟩ := okAt_t.1 (chB_t.1 hc k hkl)
  exact ⟨a, b, hw.get (by omega)⟩
theorem hdOk_t {s : ByteArray} {N : Nat} (h : hdOk s N = true) : cntH s ≤ 40 ∧ chB N (hdL s) = true ∧ headB (hdL s) = s := by
  unfold hdOk at h
  simp only [Bool.and_eq_true, decide_eq_true_eq] at h
  exact h

set_option maxRecDepth 100000 in
set_option maxHeartbeats 4000000 in
theorem replay_any (p pd pm : Nat) (D : List ByteArray) (c : Nat) (w : World) (hS : SlabAt w p pd pm (FS D c)) (hw : Whole D) (hl : 64 ≤ D.length) (hc : c ≤ 700000) :
    Calls Tryz.prog 55 #[.pointer (some ⟨p, 0, none⟩)] w fun e w' => Turns [p, pd, pm] w w' ∧ (okD D = false → e = .returned (.int .i64 15) ∧ SlabAt w' p pd pm (FS D c)) ∧
      (okD D = true → e = .returned (.int .i64 0) ∧ SlabAt w' p pd pm (FS (rpD D) (rpC D c))) := by
  have HR := Lib.hid (readHead_any p pd pm (FS D c) (D.getD 1 ⟨#[]⟩) w hS (read_FS (k := 1) (by omega)) (hw.get (by omega)))
  have HS := Lib.hid hS
  have hdl : (FS D c).dur.length = D.length := rfl
  rw [hdl] at HR
  clear hdl
  cases hok : okD D with
  | false =>
    have HOK : Hid (hdOk (D.getD 1 ⟨#[]⟩) D.length = false) := hok
    clear hS hok
    go_enter Tryz.func55, Tryz.ntmps55
    go_wp2_with fail
    refine HR.out.mono ?_
    rintro e w1 ⟨A, n, c1, z, rfl, b1, h15, _⟩
    obtain rfl := h15 HOK.out
    have HB1 := Lib.hid b1
    clear h15 b1
    go_wp2
    go_ret
    exact ⟨Turns.of_below _ HB1.out, fun _ => ⟨rfl, HS.out.keptB (Turns.of_below [] HB1.out)⟩, fun h => by cases h⟩
  | true =>
    have HOK : Hid (hdOk (D.getD 1 ⟨#[]⟩) D.length = true) := hok
    obtain ⟨h40, hch, _⟩ := hdOk_t hok
    have HRD : Hid (rpD D = if (hdL (D.getD 1 ⟨#[]⟩)).length = 0 then D else (setL D (loggedL D (hdL (D.getD 1 ⟨#[]⟩)))).set 1 (headB [])) := rfl
    have HRC : Hid (rpC D c = if (hdL (D.getD 1 ⟨#[]⟩)).length = 0 then c else c + (hdL (D.getD 1 ⟨#[]⟩)).length + 3) := rfl
    have HN : Hid ((hdL (D.getD 1 ⟨#[]⟩)).length ≤ 40) := by show _ ≤ _; rw [hdL_len]; exact h40
    have HIL := Lib.hid (loggedL_in hw (by omega) HN.out hch)
    have hlen := hw
    obtain ⟨bl, hbl⟩ : ∃ bl, bl = hdL (D.getD 1 ⟨#[]⟩) := ⟨_, rfl⟩
    rw [← hbl] at HRD HRC HN HIL
    have HBL := Lib.hid hbl
    have HFIT : Hid (∀ z ∈ loggedL D bl, z.fit) := fun z hz => by
      obtain ⟨k, hk, rfl⟩ := List.mem_map.1 hz
      have hkl := List.mem_range.1 hk
      have h1 := HIL.out _ hz
      have hlN : D.length ≤ 1000 := HS.out.len
      refine ⟨by rw [h1.2.2]; omega, by omega, ?_⟩
      have := h1.2.1
      omega
    have hrd : ∀ k : Nat, k < bl.length → (FS D c).read (2 + (k : Int)) = D.getD (2 + k) ⟨#[]⟩ := fun k hk => by
      have h := read_FS (D := D) (c := c) (k := 2 + k) (by have := HN.out; omega)
      rw [← h]; congr 1
    have HRDD := Lib.hid hrd
    have hDl : 1 < D.length := by omega
    clear hS hok h40 hch hrd hbl hlen
    generalize D.getD 1 ⟨#[]⟩ = s at *
    go_enter Tryz.func55, Tryz.ntmps55
    go_wp2_with fail
    refine HR.out.mono ?_
    rintro e w1 ⟨A, n, c1, z, rfl, b1, _, h0⟩
    obtain ⟨rfl, hnc, hi⟩ := h0 HOK.out
    rw [← HBL.out] at hi
    have HI := Lib.hid hi
    have HB1 := Lib.hid b1
    have H1 := Lib.hid (HS.out.keptB (Turns.of_below [] HB1.out))
    have hn : bl.length = n := hi.len
    have HNN := Lib.hid hn
    clear hi b1 h0 HR hn
    by_cases hz : n = 0
    · subst hz
      have e1 : rpD D = D := by rw [HRD.out, if_pos HNN.out]
      have e2 : rpC D c = c := by rw [HRC.out, if_pos HNN.out]
      have HH1 : Hid (SlabAt w1 p pd pm (FS (rpD D) (rpC D c))) := by
        show SlabAt _ _ _ _ _
        rw [e1, e2]; exact H1.out
      clear e1 e2
      go_wp2
      go_ret
      exact ⟨Turns.of_below _ HB1.out, fun h => (by cases h), fun _ => ⟨rfl, HH1.out⟩⟩
    · have e1 : rpD D = (setL D (loggedL D bl)).set 1 (headB []) := by rw [HRD.out, if_neg (by rw [HNN.out]; exact hz)]
      have e2 : rpC D c = c + bl.length + 3 := by rw [HRC.out, if_neg (by rw [HNN.out]; exact hz)]
      have HAP : Hid (applyS (FS D c) (loggedL D bl) = FS (rpD D) (rpC D c)) := by
        show _ = _
        rw [applyS_FS HIL.out hDl, loggedL_len, e1, e2]
      have hg1 : ((n : Int) == 0) = false := by simp [hz]
      have hn40 : n ≤ 40 := by have := HN.out; rw [HNN.out] at this; exact this
      have HLG := Lib.hid (logged_any p pd pm (FS D c) D A n c1 w1.heap.size bl w1 H1.out HI.out (Nat.le_refl _) hn40 (fun k hk => HRDD.out k (by rw [HNN.out]; exact hk)))
      have hlN : (loggedL D bl).length = n := by rw [loggedL_len, HNN.out]
      have HLN := Lib.hid hlN
      have hp := H1.out.lt_p
      have hd := H1.out.lt_d
      have hm := H1.out.lt_m
      clear e1 e2 hlN
      generalize loggedL D bl = ll at *
      go_wp2_with fail
      refine HLG.out.mono ?_
      rintro e w2 ⟨rfl, r2, b2⟩
      have hi2 := r2.chs (B := w2.heap.size) HFIT.out r2.lt
      rw [HLN.out] at hi2
      have HAY := Lib.hid (apply_any p pd pm (FS D c) (some ⟨w1.heap.size, 0, none⟩) n n w2.heap.size ll w2 (H1.out.keptB (Turns.of_below [] b2)) rfl hi2 (by intro a ha; cases ha; simp; omega) HIL.out hn40 (by show c ≤ 800000; omega) hDl)
      rw [HAP.out] at HAY
      have T2 := Lib.hid ((Turns.of_below [p, pd, pm] HB1.out).trans (Turns.of_below [p, pd, pm] b2))
      clear r2 b2 hi2
      go_wp2_with fail
      refine HAY.out.mono ?_
      rintro e w3 ⟨rfl, h3, t3⟩
      have H3 := Lib.hid h3
      have T3 := Lib.hid (T2.out.trans t3)
      clear h3 t3
      go_wp2
      go_ret
      exact ⟨T3.out, fun h => (by cases h), fun _ => ⟨rfl, H3.out⟩⟩

/-- the cells of a log. -/
def LogAt (w : World) (q p : Nat) (k : Nat) : Prop := w.heap[q]? = some (.cells #[.pointer (some ⟨p, 0, none⟩), .bool false, .int .i64 k] 106 (0, 0))
theorem LogAt.lt {w : World} {q p k : Nat} (h : LogAt w q p k) : q < w.heap.size := (Array.getElem?_eq_some_iff.1 h).1
theorem LogAt.turns {w w' : World} {q p k : Nat} {L : List Nat} (h : LogAt w q p k) (ht : Turns L w w') (hq : q ∉ L) : LogAt w' q p k := (ht.block q h.lt hq).trans h
theorem LogAt.c0 {w : World} {q p k : Nat} (h : LogAt w q p k) : w.cell? ⟨q, 0, none⟩ = some (.pointer (some ⟨p, 0, none⟩)) := by rw [cell_of_row w q 0 _ 106 _ h]; rfl
theorem LogAt.c1 {w : World} {q p k : Nat} (h : LogAt w q p k) : w.cell? ⟨q, 1, none⟩ = some (.bool false) := by rw [cell_of_row w q 1 _ 106 _ h]; rfl
theorem LogAt.c2 {w : World} {q p k : Nat} (h : LogAt w q p k) : w.cell? ⟨q, 2, none⟩ = some (.int .i64 k) := by rw [cell_of_row w q 2 _ 106 _ h]; rfl
theorem LogAt.fz {w : World} {q p k : Nat} (h : LogAt w q p k) (j : Nat) : w.frozen? ⟨q, j, none⟩ = false := by
  unfold LogAt at h
  simp [World.frozen?, h]
theorem LogAt.more {w : World} {q p k : Nat} (h : LogAt w q p k) : LogAt (w.setCell ⟨q, 2, none⟩ (.int .i64 ((k + 1 : Nat) : Int))) q p (k + 1) := by
  unfold LogAt at *
  rw [Sl.heap_setCell_same w q 2 _ h]
  rfl

set_option maxRecDepth 100000 in
set_option maxHeartbeats 2000000 in
theorem open_any (p pd pm : Nat) (D : List ByteArray) (c : Nat) (w : World) (hS : SlabAt w p pd pm (FS D c)) (hw : Whole D) (hc : c ≤ 700000) :
    Calls Tryz.prog 23 #[.pointer (some ⟨p, 0, none⟩)] w fun e w' => Turns [p, pd, pm] w w' ∧ (D.length < 64 → e = .returned (.tuple #[.pointer none, .int .i64 1]) ∧ SlabAt w' p pd pm (FS D c)) ∧
      (64 ≤ D.length → okD D = false → e = .returned (.tuple #[.pointer none, .int .i64 15]) ∧ SlabAt w' p pd pm (FS D c)) ∧
      (64 ≤ D.length → okD D = true → ∃ q, e = .returned (.tuple #[.pointer (some ⟨q, 0, none⟩), .int .i64 0]) ∧ w.heap.size ≤ q ∧ LogAt w' q p 0 ∧ SlabAt w' p pd pm (FS (rpD D) (rpC D c))) := by
  have HSZ := Lib.hid (Sl.size_any p pd pm (FS D c) w hS)
  have hdl : (FS D c).dur.length = D.length := rfl
  rw [hdl] at HSZ
  have HS := Lib.hid hS
  clear hdl
  by_cases hl : 64 ≤ D.length
  · have HRP := Lib.hid (replay_any p pd pm D c w hS hw hl hc)
    have hg : decide ((D.length : Int) < 64) = false := by simp; omega
    have HL := Lib.hid hl
    generalize D.length = N at *
    clear hS hl
    cases hok : okD D with
    | false =>
      have HOK := Lib.hid hok
      clear hok
      go_enter Tryz.func23, Tryz.ntmps23
      go_wp2_with fail
      refine HSZ.out.mono ?_
      rintro e w1 ⟨rfl, rfl⟩
      go_wp2_with fail
      refine HRP.out.mono ?_
      rintro e w2 ⟨t2, hx, _⟩
      obtain ⟨rfl, h2⟩ := hx HOK.out
      have H2 := Lib.hid h2
      have T2 := Lib.hid t2
      clear h2 t2 hx
      go_wp2
      go_ret2
      exact ⟨T2.out, fun h => absurd HL.out (by omega), fun _ _ => ⟨rfl, H2.out⟩, fun _ h => (by cases h)⟩
    | true =>
      have HOK := Lib.hid hok
      clear hok
      go_enter Tryz.func23, Tryz.ntmps23
      go_wp2_with fail
      refine HSZ.out.mono ?_
      rintro e w1 ⟨rfl, rfl⟩
      go_wp2_with fail
      refine HRP.out.mono ?_
      rintro e w2 ⟨t2, _, hx⟩
      obtain ⟨rfl, h2⟩ := hx HOK.out
      have H2 := Lib.hid h2
      have T2 := Lib.hid t2
      clear h2 t2 hx
      go_wp2
      go_ret2
      refine ⟨T2.out.trans (Turns.alloc _ _ _), fun h => absurd HL.out (by omega), fun _ h => (by cases h), fun _ _ => ⟨_, rfl, T2.out.size, ?_, H2.out.keptB (Turns.alloc _ _ _)⟩⟩
      exact heap_alloc_new _ _
  · have hg : decide ((D.length : Int) < 64) = true := by simp; omega
    have HL := Lib.hid hl
    generalize D.length = N at *
    clear hS hl
    go_enter Tryz.func23, Tryz.ntmps23
    go_wp2_with fail
    refine HSZ.out.mono ?_
    rintro e w1 ⟨rfl, rfl⟩
    go_wp2
    go_ret2
    exact ⟨Turns.refl _ _, fun _ => ⟨rfl, HS.out⟩, fun h => absurd h HL.out, fun h => absurd h HL.out⟩
theorem open_nil (w : World) : Calls Tryz.prog 23 #[.pointer none] w fun e w' => e = .returned (.tuple #[.pointer none, .int .i64 1]) ∧ w = w' := by
  go_enter Tryz.func23, Tryz.ntmps23
  go_wp2_with fail
  refine (Sl.size_nil _).mono ?_
  rintro e w1 ⟨rfl, rfl⟩
  go_wp2
  go_ret2
  exact ⟨rfl, rfl⟩
end Go.Proofs.YtgdlfiejjnjcpaaGreat.Lg

namespace Go.Proofs.YtgdlfiejjnjcpaaGreat.Lg
open Go.RowKit
open Sl (St SlabAt Turns)

theorem LogAt.below {w w' : World} {q p k C : Nat} (h : LogAt w q p k) (hb : Below C w w') (hq : q < C) : LogAt w' q p k := (hb.block q hq).trans h
theorem cell_pos (k : Nat) : (((k : Int) + 1)) = ((k + 1 : Nat) : Int) := by push_cast; rfl
theorem lread_any (q k0 p pd pm : Nat) (σ : St) (i : Int) (w : World) (hQ : LogAt w q p k0) (hS : SlabAt w p pd pm σ) :
    Calls Tryz.prog 61 #[.pointer (some ⟨q, 0, none⟩), .int .i64 i] w fun e w' => e = .returned (.string (σ.read i)) ∧ Below w.heap.size w w' := by
  have HR := Lib.hid (Sl.read_any p pd pm σ i w hS)
  have q0 := hQ.c0
  generalize σ.read i = s at *
  clear hQ hS
  go_enter Tryz.func61, Tryz.ntmps61
  go_wp2_with fail
  refine HR.out.mono ?_
  rintro e w1 ⟨rfl, b1⟩
  have HB1 := Lib.hid b1
  clear b1
  go_wp2
  go_ret
  exact ⟨rfl, HB1.out⟩
theorem lsize_any (q k0 p pd pm : Nat) (σ : St) (w : World) (hQ : LogAt w q p k0) (hS : SlabAt w p pd pm σ) :
    Calls Tryz.prog 58 #[.pointer (some ⟨q, 0, none⟩)] w fun e w' => e = .returned (.int .i64 σ.dur.length) ∧ w = w' := by
  have HR := Lib.hid (Sl.size_any p pd pm σ w hS)
  have q0 := hQ.c0
  generalize σ.dur.length = s at *
  clear hQ hS
  go_enter Tryz.func58, Tryz.ntmps58
  go_wp2_with fail
  refine HR.out.mono ?_
  rintro e w1 ⟨rfl, rfl⟩
  go_wp2
  go_ret
  exact ⟨rfl, rfl⟩
theorem lread_nil (i : Int) (w : World) : Calls Tryz.prog 61 #[.pointer none, .int .i64 i] w fun e w' => e = .returned (.string ⟨#[]⟩) ∧ w = w' := by
  go_enter Tryz.func61, Tryz.ntmps61
  go_wp2
  go_ret
  exact ⟨rfl, rfl⟩
theorem lsize_nil (w : World) : Calls Tryz.prog 58 #[.pointer none] w fun e w' => e = .returned (.int .i64 0) ∧ w = w' := by
  go_enter Tryz.func58, Tryz.ntmps58
  go_wp2
  go_ret
  exact ⟨rfl, rfl⟩
end Go.Proofs.YtgdlfiejjnjcpaaGreat.Lg

namespace Go.Proofs.YtgdlfiejjnjcpaaGreat.Lg
open Go.RowKit

theorem take_contains {l : List Int} {i : Nat} (hi : i ≤ l.length) (y : Int) : (l.take i).contains y = false ↔ ∀ j, j < i → l.getD j 0 ≠ y := by
  induction i with
  | zero => simp
  | succ i ih =>
    rw [contains_take (by omega), Bool.or_eq_false_iff, ih (by omega)]
    constructor
    · rintro ⟨h1, h2⟩ j hj
      by_cases e : j = i
      · subst e; intro e2; rw [e2] at h2; simp at h2
      · exact h1 j (by omega)
    · intro h
      refine ⟨fun j hj => h j (by omega), ?_⟩
      have := h i (by omega)
      simpa using fun e => this e.symm

end Go.Proofs.YtgdlfiejjnjcpaaGreat.Lg

namespace Go.Proofs.YtgdlfiejjnjcpaaGreat.Lg
open Go.RowKit
open Sl (St SlabAt Turns RowAt)

/-- the slice at A with n elements reads as the texts ss, and lies below block B. -/
def SsAt (w : World) (B : Nat) (A : Option Addr) (n : Nat) (ss : List ByteArray) : Prop :=
  ss.length = n ∧ ∀ k, k < n → ∃ b o, A = some ⟨b, o, none⟩ ∧ b < B ∧ w.cell? ⟨b, o + k, none⟩ = some (.string (ss.getD k ⟨#[]⟩))
section
variable {w w' : World} {B B' : Nat} {A : Option Addr} {n : Nat} {ss : List ByteArray}
theorem SsAt.len (h : SsAt w B A n ss) : ss.length = n := h.1
theorem SsAt.at_ (h : SsAt w B A n ss) {k : Nat} (hk : k < n) : ∃ b o, A = some ⟨b, o, none⟩ ∧ b < B ∧ w.cell? ⟨b, o + k, none⟩ = some (.string (ss.getD k ⟨#[]⟩)) := h.2 k hk
theorem SsAt.keep (h : SsAt w B A n ss) (hk : ∀ p : Addr, p.block < B → w'.cell? p = w.cell? p) : SsAt w' B A n ss :=
  ⟨h.1, fun k hkn => by
    obtain ⟨b, o, e, hb, h1⟩ := h.2 k hkn
    exact ⟨b, o, e, hb, (hk _ hb).trans h1⟩⟩
theorem SsAt.more (h : SsAt w B A n ss) (hB : B ≤ B') : SsAt w B' A n ss :=
  ⟨h.1, fun k hkn => by
    obtain ⟨b, o, e, hb, hc⟩ := h.2 k hkn
    exact ⟨b, o, e, by omega, hc⟩⟩
theorem SsAt.below {C : Nat} (h : SsAt w B A n ss) (hb : Below C w w') (hBC : B ≤ C) : SsAt w' B A n ss := h.keep fun _ hp => hb.cell (by omega)
theorem SsAt.turns {L : List Nat} (h : SsAt w B A n ss) (ht : Turns L w w') (hA : Out A L) : SsAt w' B A n ss :=
  ⟨h.1, fun k hkn => by
    obtain ⟨b, o, e, hb, hc⟩ := h.2 k hkn
    exact ⟨b, o, e, hb, ht.cell hc (hA ⟨b, o, none⟩ e)⟩⟩
theorem SsAt.strs (h : SsAt w B A n ss) : Sl.StrsAt w A n ss := fun k hk => by
  obtain ⟨b, o, e, _, hc⟩ := h.2 k hk
  exact ⟨b, o, e, hc⟩
end
theorem rowSs {w : World} {g B : Nat} {ss : List ByteArray} (h : RowAt w g ss) (hB : g < B) : SsAt w B (some ⟨g, 0, none⟩) ss.length ss :=
  ⟨rfl, fun k hk => ⟨g, 0, rfl, hB, by rw [Nat.zero_add]; exact h.cell hk⟩⟩
def strs (ss : List ByteArray) : List Value := ss.map Value.string
theorem strs_len (ss : List ByteArray) : (strs ss).length = ss.length := by simp [strs]
theorem strs_get (ss : List ByteArray) (k : Nat) (h : k < ss.length) : (strs ss)[k]? = some (.string (ss.getD k ⟨#[]⟩)) := by simp [strs, List.getD, h]
theorem strs_one (ss : List ByteArray) : ∀ u ∈ strs ss, u.oneCell' = true := by
  intro u hu
  obtain ⟨x, _, rfl⟩ := List.mem_map.1 hu
  rfl
/-- an answer that is a new slice of texts, of the call's own. -/
def RetSs (w : World) (ss : List ByteArray) (e : Ending) (w' : World) : Prop := ∃ v, e = .returned v ∧ w'.ownsRow w.heap.size 9 1 v ss.length (strs ss) ∧ Below w.heap.size w w'
theorem own_sliceS {w : World} {base n : Nat} {v : Value} {xs : List Value} (h : w.ownsRow base 9 1 v n xs) : ∃ A c, v = .slice A n c ∧ n ≤ c ∧ ∀ a, A = some a → base ≤ a.block := by
  rcases h.2 with ⟨rfl, rfl⟩ | ⟨g, cap, cur, rfl, hb, _, hc, _⟩
  · exact ⟨none, 0, rfl, Nat.le_refl _, fun a ha => by cases ha⟩
  · exact ⟨_, cap, rfl, hc, fun a ha => by cases ha; exact hb⟩
theorem own_ss {w : World} {base : Nat} {A : Option Addr} {c : Nat} {ss : List ByteArray} (h : w.ownsRow base 9 1 (.slice A ss.length c) ss.length (strs ss)) : SsAt w w.heap.size A ss.length ss := by
  refine ⟨rfl, fun k hk => ?_⟩
  obtain ⟨g, cap, e, _, hlt⟩ := h.form (by omega)
  have hA : A = some ⟨g, 0, none⟩ := by injection e
  subst hA
  have hcell := h.cells (g := g) rfl _ _ (strs_get ss k hk)
  rw [Go.WideShapes.add_plain] at hcell
  exact ⟨g, 0, rfl, hlt, hcell⟩
theorem ownS_set {w : World} {base g cap : Nat} {ss : List ByteArray} (h : w.ownsRow base 9 1 (.slice (some ⟨g, 0, none⟩) ss.length cap) ss.length (strs ss)) (k : Nat) (s : ByteArray) :
    (w.setCell ⟨g, k, none⟩ (.string s)).ownsRow base 9 1 (.slice (some ⟨g, 0, none⟩) ss.length cap) ss.length (strs (ss.set k s)) := by
  have h1 := (h.stored k (.string s)).1
  have e : (strs ss).set k (.string s) = strs (ss.set k s) := by simp [strs, List.map_set]
  rw [e] at h1
  exact h1
theorem infoS9 : (Tryz.prog.info? 9).map (fun i => (i.zero, i.size, i.bytes)) = some (some (.string ⟨#[]⟩), 1, 16) := Sl.info9
set_option maxRecDepth 100000 in
/-- 'append(nil, image...)', at the list of a plain region's operations. -/
theorem copyS_law {ops : Array Oper} {rest : List Oper} {o : Oper} {a : Act} {Q : Exit → Act → World → Prop} (hgd : o.guard = none) (s x : Operand)
    (ho : o.op = .call { callee := .builtin .append, args := #[s, x], argTypes := #[50, 50] })
    (W : World) (hs : a.eval s = .slice none 0 0) (B : Nat) (A : Option Addr) (n c : Nat) (ss : List ByteArray) (hx : a.eval x = .slice A n c)
    (hA : SsAt W B A n ss) (hn : n ≤ 100000)
    (h : ∀ v' w', w'.ownsRow W.heap.size 9 1 v' ss.length (strs ss) → Below W.heap.size W w' → wpList Tryz.prog ops Q rest (a.put o.dst v') w') :
    wpList Tryz.prog ops Q (o :: rest) a W := by
  obtain ⟨i0, hi, hz0, hz1, hz2⟩ := info_parts infoS9
  cases A with
  | none =>
    have hm : n = 0 := by
      rcases Nat.eq_zero_or_pos n with h0 | h0
      · exact h0
      · obtain ⟨b, o, e, _⟩ := hA.at_ h0; cases e
    subst hm
    have hl2 : ss = [] := List.eq_nil_of_length_eq_zero hA.len
    subst hl2
    refine wpList_plain hgd fun K hK => ?_
    have hrun := run_append_of_nil (P := Tryz.prog) W W.heap.size 50 o.type 9 i0 1 Tryz.underlying50 hi (.slice none 0 0) 0 [] (World.ownsRow_nil _ _ _ _) c
    unfold Oper.wp
    simp [execOp, ho, resolve, invoke, builtin, hs, hx, hrun, Result.andThen]
    exact hK _ _ (h _ W (World.ownsRow_nil _ _ _ _) (Below.refl _ _))
  | some ad =>
    refine wpList_append_own _ hgd s x 50 ho W.heap.size 9 i0 _ 1 16 Tryz.underlying50 hi hz0 hz1 hz2 rfl (by decide) (.slice none 0 0) 0 [] hs (World.ownsRow_nil _ _ _ _) ad n c (strs ss) hx (by rw [strs_len, hA.len, Nat.mul_one])
      ?_ (strs_one ss) (by unfold maxLen; omega) (by omega) (Nat.le_refl _) ?_
    · intro j u hj
      have hlt : j < (strs ss).length := (List.getElem?_eq_some_iff.1 hj).1
      rw [strs_len] at hlt
      obtain ⟨b, o, e1, _, h1⟩ := hA.at_ (k := j) (by rw [← hA.len]; exact hlt)
      injection e1 with e1
      subst e1
      rw [Go.WideShapes.add_plain, h1, ← strs_get ss j hlt, hj]
    · intro v' w' hown' hg _
      refine h v' w' ?_ ?_
      · rw [Nat.zero_add, List.nil_append] at hown'
        rw [hA.len]; exact hown'
      · exact (Below.refl W.heap.size W).grown hg (Nat.le_refl _) (fun k hk => by cases hk)

theorem setL_take {D : List ByteArray} {l : List Ch} {k : Nat} (h : k < l.length) : setL D (l.take (k + 1)) = (setL D (l.take k)).set (l.getD k Ch.z).bk.toNat (l.getD k Ch.z).dt := by
  have e : l.take (k + 1) = l.take k ++ [l.getD k Ch.z] := by
    rw [List.take_succ_eq_append_getElem h]; simp [List.getD, h]
  rw [e, setL_snoc]
end Go.Proofs.YtgdlfiejjnjcpaaGreat.Lg

namespace Go.Proofs.YtgdlfiejjnjcpaaGreat.Lg
open Go.RowKit

/-- two images say the same, but for the log's own blocks. -/
def sameB (a b : List ByteArray) : Bool := decide (a.length = b.length) && (List.range a.length).all fun i : Nat => ownB (i : Int) || decide (a.getD i ⟨#[]⟩ = b.getD i ⟨#[]⟩)
theorem sameB_t {a b : List ByteArray} : sameB a b = true ↔ a.length = b.length ∧ ∀ i, i < a.length → ownB (i : Int) = false → a.getD i ⟨#[]⟩ = b.getD i ⟨#[]⟩ := by
  simp only [sameB, Bool.and_eq_true, decide_eq_true_eq, List.all_eq_true, List.mem_range, Bool.or_eq_true]
  constructor
  · rintro ⟨h1, h2⟩
    refine ⟨h1, fun i hi ho => ?_⟩
    rcases h2 i hi with h | h
    · rw [h] at ho; cases ho
    · exact h
  · rintro ⟨h1, h2⟩
    refine ⟨h1, fun i hi => ?_⟩
    cases ho : ownB (i : Int) with
    | true => exact Or.inl rfl
    | false => exact Or.inr (h2 i hi ho)
theorem quiet_drew {P : Program} {f : FuncId} {args : Array Value} {w : World} {n : Nat} {v : Value}
    (h : Calls P f args (w.drewN n) fun e w' => e = .returned v ∧ Drew (w.drewN n) w') : Calls P f args (w.drewN n) fun e w'' => e = .returned v ∧ ∃ m, w'' = w.drewN m :=
  h.mono fun _ _ ⟨he, m, hm⟩ => ⟨he, n + m, by rw [hm, World.drewN_drewN]⟩
end Go.Proofs.YtgdlfiejjnjcpaaGreat.Lg
