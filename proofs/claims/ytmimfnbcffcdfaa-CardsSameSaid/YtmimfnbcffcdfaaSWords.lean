/-
  WORDS OF MEMORY for the proofs over layer 4: a slice of ints that reads as a list, a slice of spans that reads as a list (nil let in), and what keeps them so. No condition.
-/
import Derived.Test.YtmimfnbcffcdfaaSPlain
import Derived.Test.YtmimfnbcffcdfaaSize
import Derived.Test.YtmimfnbcffcdfaaRows
import Derived.WalkKit
import Derived.WalkSpells
import Derived.WalkLawsBesides
import Derived.Lib.Hide
import Derived.Laws.OwnMore
import Derived.Deep.AppendLies
import Derived.Deep.Draws
namespace Go.Proofs.Ytmimfnbcffcdfaa
open Go.RowKit

abbrev Fit (z : Int) : Prop := -9223372036854775808 ≤ z ∧ z ≤ 9223372036854775807
def Sp.fit (s : Sp) : Prop := Fit s.at_ ∧ Fit s.st ∧ Fit s.len

section
variable {w w' : World} {B B' : Nat} {A : Option Addr} {n : Nat} {zs : List Int}
theorem IntsAt.take (h : IntsAt w B A n zs) (m : Nat) (hm : m ≤ n) : IntsAt w B A m (zs.take m) :=
  ⟨by rw [List.length_take, h.1]; omega, fun z hz => h.2.1 z (List.mem_of_mem_take hz), fun k hk => by
    obtain ⟨b, o, e, hb, hc⟩ := h.2.2 k (by omega)
    refine ⟨b, o, e, hb, hc.trans ?_⟩
    simp [List.getD, List.getElem?_take_of_lt hk]⟩
end
/-- The slice at A with n elements reads as the spans l, and lies below block B. -/
def SpsAt (w : World) (B : Nat) (A : Option Addr) (n : Nat) (l : List Sp) : Prop :=
  l.length = n ∧ (∀ s ∈ l, s.fit) ∧
  ∀ k, k < n → ∃ b o, A = some ⟨b, o, none⟩ ∧ b < B ∧ w.cell? ⟨b, o + k * 3, none⟩ = some (.int .i64 (l.getD k Sp.z).at_) ∧
    w.cell? ⟨b, o + k * 3 + 1, none⟩ = some (.int .i64 (l.getD k Sp.z).st) ∧ w.cell? ⟨b, o + k * 3 + 2, none⟩ = some (.int .i64 (l.getD k Sp.z).len)

section
variable {w w' : World} {B B' : Nat} {A : Option Addr} {n : Nat} {l : List Sp}
theorem SpsAt.len (h : SpsAt w B A n l) : l.length = n := h.1
theorem SpsAt.at_ (h : SpsAt w B A n l) {k : Nat} (hk : k < n) :
    ∃ b o, A = some ⟨b, o, none⟩ ∧ b < B ∧ w.cell? ⟨b, o + k * 3, none⟩ = some (.int .i64 (l.getD k Sp.z).at_) ∧
    w.cell? ⟨b, o + k * 3 + 1, none⟩ = some (.int .i64 (l.getD k Sp.z).st) ∧ w.cell? ⟨b, o + k * 3 + 2, none⟩ = some (.int .i64 (l.getD k Sp.z).len) := h.2.2 k hk
theorem SpsAt.bd (h : SpsAt w B A n l) (k : Nat) : (l.getD k Sp.z).fit := by
  rcases Nat.lt_or_ge k l.length with hl | hl
  · have := h.2.1 l[k] (List.getElem_mem hl)
    simpa [List.getD, List.getElem?_eq_getElem hl] using this
  · simp [List.getD, List.getElem?_eq_none hl, Sp.fit, Sp.z, Fit]
theorem SpsAt.keep (h : SpsAt w B A n l) (hk : ∀ p : Addr, p.block < B → w'.cell? p = w.cell? p) : SpsAt w' B A n l :=
  ⟨h.1, h.2.1, fun k hkn => by
    obtain ⟨b, o, e, hb, h1, h2, h3⟩ := h.2.2 k hkn
    exact ⟨b, o, e, hb, (hk _ hb).trans h1, (hk _ hb).trans h2, (hk _ hb).trans h3⟩⟩
theorem SpsAt.more (h : SpsAt w B A n l) (hB : B ≤ B') : SpsAt w B' A n l :=
  ⟨h.1, h.2.1, fun k hkn => by
    obtain ⟨b, o, e, hb, hc⟩ := h.2.2 k hkn
    exact ⟨b, o, e, by omega, hc⟩⟩
theorem SpsAt.below {C : Nat} (h : SpsAt w B A n l) (hb : Below C w w') (hBC : B ≤ C) : SpsAt w' B A n l :=
  h.keep fun _ hp => hb.cell (by omega)
end

/-! ### rows of the call's own -/
def spCells (s : Sp) : List Value := [.int .i64 s.at_, .int .i64 s.st, .int .i64 s.len]
def spsCells (l : List Sp) : List Value := l.flatMap spCells
theorem spsCells_len : ∀ l : List Sp, (spsCells l).length = l.length * 3
  | [] => rfl
  | s :: r => by
    have := spsCells_len r
    simp only [spsCells, List.flatMap_cons, List.length_append, spCells, List.length_cons, List.length_nil] at this ⊢
    omega
theorem spsCells_snoc (l : List Sp) (s : Sp) : spsCells (l ++ [s]) = spsCells l ++ spCells s := by simp [spsCells]
theorem spsCells_at : ∀ (l : List Sp) (k : Nat), k < l.length → (spsCells l)[k * 3]? = some (.int .i64 (l.getD k Sp.z).at_) ∧ (spsCells l)[k * 3 + 1]? = some (.int .i64 (l.getD k Sp.z).st) ∧ (spsCells l)[k * 3 + 2]? = some (.int .i64 (l.getD k Sp.z).len)
  | s :: r, 0, _ => by simp [spsCells, spCells]
  | s :: r, k + 1, h => by
    have ih := spsCells_at r k (by simpa using h)
    have e : spsCells (s :: r) = .int .i64 s.at_ :: .int .i64 s.st :: .int .i64 s.len :: spsCells r := by simp [spsCells, spCells]
    have e3 : (k + 1) * 3 = k * 3 + 3 := by omega
    rw [e, e3]
    simpa using ih
/-- the last span's length changed. -/
theorem spsCells_last (r : List Sp) (a : Sp) (x : Int) : (spsCells (r ++ [a])).set (r.length * 3 + 2) (.int .i64 x) = spsCells (r ++ [⟨a.at_, a.st, x⟩]) := by
  rw [spsCells_snoc, spsCells_snoc, List.set_append_right _ _ (by rw [spsCells_len]; omega), spsCells_len]
  simp [spCells]
theorem snoc_get (r : List Sp) (a : Sp) : (r ++ [a]).getD r.length Sp.z = a := by simp [List.getD]

theorem SpsAt.of_own {w : World} {base : Nat} {v : Value} {A : Option Addr} {c : Nat} {l : List Sp} (h : w.ownsRow base 48 3 v l.length (spsCells l)) (hv : v = .slice A l.length c) (hf : ∀ s ∈ l, s.fit) : SpsAt w w.heap.size A l.length l := by
  refine ⟨rfl, hf, fun k hk => ?_⟩
  obtain ⟨g, cap, e, _, hlt⟩ := h.form (by omega)
  subst hv
  have hA : A = some ⟨g, 0, none⟩ := by injection e
  subst hA
  obtain ⟨h1, h2, h3⟩ := spsCells_at l k hk
  have hcell := h.cells (g := g) rfl
  refine ⟨g, 0, rfl, hlt, ?_, ?_, ?_⟩
  · have := hcell _ _ h1; rwa [Go.WideShapes.add_plain] at this
  · have := hcell _ _ h2; rw [Go.WideShapes.add_plain] at this; exact this
  · have := hcell _ _ h3; rw [Go.WideShapes.add_plain] at this; exact this

/-- nothing but draws lies between two worlds. -/
def Drew (w w' : World) : Prop := ∃ n, w' = w.drewN n
theorem Drew.refl (w : World) : Drew w w := ⟨0, rfl⟩
theorem Below.drews {B : Nat} {a b c : World} (h : Below B a b) (k : Drew b c) : Below B a c := by
  obtain ⟨n, rfl⟩ := k
  exact ⟨h.os, h.tape, h.output, h.size, h.block⟩

/-- an answer that is a new slice of spans. -/
def RetSps (w : World) (l : List Sp) (e : Ending) (w' : World) : Prop := ∃ A c, e = .returned (.slice A l.length c) ∧ l.length ≤ c ∧ SpsAt w' w'.heap.size A l.length l ∧ Below w.heap.size w w'
/-- an answer that is a new slice of ints. -/
def RetInts (w : World) (zs : List Int) (e : Ending) (w' : World) : Prop := ∃ A c, e = .returned (.slice A zs.length c) ∧ zs.length ≤ c ∧ IntsAt w' w'.heap.size A zs.length zs ∧ Below w.heap.size w w'

end Go.Proofs.Ytmimfnbcffcdfaa
