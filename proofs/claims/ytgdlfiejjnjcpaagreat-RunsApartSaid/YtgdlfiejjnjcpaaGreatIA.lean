/-
  THE FRAME of the rows: a slice of ints, a slice of slices of ints that came in, as lists; a slice of ints is no longer than the form's own reach. No condition.
-/
import Derived.Test.YtgdlfiejjnjcpaaGreatHN
import Derived.ProofKit
import Derived.OpenShut
import Derived.ShutString
import Derived.ChangeOld
import Derived.SizedLaws
import Derived.Deep.Slices
namespace Go.Proofs.YtgdlfiejjnjcpaaGreat.La
set_option maxRecDepth 100000
open Go.ChangeShapes Go.WideShapes Go.ChangeAt Go.RowKit
open Go.ChangeMaps (open_string shut_string)

/-- a list that may be nil. -/
def LstAt (w : World) (B : Nat) (v : Value) : Option (List Int) → Prop
  | none => v = .slice none 0 0
  | some zs => ∃ a c, v = .slice (some a) zs.length c ∧ zs.length ≤ c ∧ IntsAt w B (some a) zs.length zs
theorem LstAt.keep {w w' : World} {B : Nat} {v : Value} {o : Option (List Int)} (h : LstAt w B v o) (hk : ∀ p : Addr, p.block < B → w'.cell? p = w.cell? p) : LstAt w' B v o := by
  cases o with
  | none => exact h
  | some zs => obtain ⟨a, c, e, hc, hi⟩ := h; exact ⟨a, c, e, hc, hi.keep hk⟩
theorem LstAt.more {w : World} {B B' : Nat} {v : Value} {o : Option (List Int)} (h : LstAt w B v o) (hB : B ≤ B') : LstAt w B' v o := by
  cases o with
  | none => exact h
  | some zs => obtain ⟨a, c, e, hc, hi⟩ := h; exact ⟨a, c, e, hc, hi.more hB⟩
theorem LstAt.below {w w' : World} {B C : Nat} {v : Value} {o : Option (List Int)} (h : LstAt w B v o) (hb : Below C w w') (hB : B ≤ C) : LstAt w' B v o := h.keep fun _ hp => hb.cell (by omega)
theorem LstAt.read {w : World} {B : Nat} {v : Value} {o : Option (List Int)} (h : LstAt w B v o) : ∃ A c, v = .slice A (o.getD []).length c ∧ (o.getD []).length ≤ c ∧ IntsAt w B A (o.getD []).length (o.getD []) ∧ (o = none → A = none ∧ c = 0) ∧ (∀ zs, o = some zs → ∃ a, A = some a) := by
  cases o with
  | none => exact ⟨none, 0, h, Nat.le_refl _, Lg.IntsAt.nil _ _ _, fun _ => ⟨rfl, rfl⟩, fun _ e => by cases e⟩
  | some zs => obtain ⟨a, c, e, hc, hi⟩ := h; exact ⟨_, c, e, hc, hi, fun e => (by cases e), fun _ _ => ⟨_, rfl⟩⟩

/-- a slice of lists. -/
def ListsAt (w : World) (B : Nat) (A : Option Addr) (n : Nat) (ls : List (Option (List Int))) : Prop :=
  ls.length = n ∧ ∀ k, k < n → ∃ b o u, A = some ⟨b, o, none⟩ ∧ b < B ∧ w.cell? ⟨b, o + k, none⟩ = some u ∧ LstAt w B u (ls.getD k none)
theorem ListsAt.keep {w w' : World} {B n : Nat} {A : Option Addr} {ls : List (Option (List Int))} (h : ListsAt w B A n ls) (hk : ∀ p : Addr, p.block < B → w'.cell? p = w.cell? p) : ListsAt w' B A n ls :=
  ⟨h.1, fun k hn => by obtain ⟨b, o, u, e, hb, hc, hl⟩ := h.2 k hn; exact ⟨b, o, u, e, hb, (hk ⟨b, o + k, none⟩ hb).trans hc, hl.keep hk⟩⟩
theorem ListsAt.more {w : World} {B B' n : Nat} {A : Option Addr} {ls : List (Option (List Int))} (h : ListsAt w B A n ls) (hB : B ≤ B') : ListsAt w B' A n ls :=
  ⟨h.1, fun k hn => by obtain ⟨b, o, u, e, hb, hc, hl⟩ := h.2 k hn; exact ⟨b, o, u, e, by omega, hc, hl.more hB⟩⟩
theorem ListsAt.below {w w' : World} {B n C : Nat} {A : Option Addr} {ls : List (Option (List Int))} (h : ListsAt w B A n ls) (hb : Below C w w') (hB : B ≤ C) : ListsAt w' B A n ls := h.keep fun _ hp => hb.cell (by omega)
theorem ListsAt.nil (w : World) (B : Nat) (A : Option Addr) : ListsAt w B A 0 [] := ⟨rfl, fun _ h => absurd h (Nat.not_lt_zero _)⟩


theorem own : ownKnob Tryz.prog.godebug = none := by kernel_rfl
theorem laidOut : laidOutB Tryz.prog = true := by kernel_rfl
theorem bytes3 : Tryz.prog.bytesOf 3 = 8 := by kernel_rfl
theorem cells22 : Tryz.prog.cellsOf 27 = 1 := by kernel_rfl

theorem i64_of_wf {n : Int} (h : (Lit.int .i64 n).wf = true) : -9223372036854775808 ≤ n ∧ n ≤ 9223372036854775807 := by
  simpa [Lit.wf, IntKind.min, IntKind.max, IntKind.signed, IntKind.bits] using h

section
variable {H : Type} {enc : TypeId × Value → H} {W : World} {a : Option Addr} {len cap : Nat} {d : DataW H} {p : List MemPlace}

theorem row_open (h : DataW.Trod enc Tryz.prog W 0 (fun _ => true) true 27 (.slice a len cap) d p)
    (hsz : ∀ elems spare, d = .slice elems spare → (elems.length + spare.length) * Tryz.prog.bytesOf 3 ≤ reachBytes) :
    ∃ zs, IntsAt W W.heap.size a len zs ∧ len ≤ 17592186044416 := by
  obtain ⟨fuel, hf⟩ := h
  rcases open_ints Tryz.underlying27 Tryz.underlying3 (by kernel_rfl) hf with ⟨hcs, _⟩ | ⟨x, l, c, zs, hcs, _, hl, hm, hz, hx, hcell, hwz⟩
  · simp [Value.cells] at hcs
    obtain ⟨rfl, rfl, rfl⟩ := hcs
    exact ⟨[], ⟨rfl, by simp, by intro k hk; omega⟩, by omega⟩
  · simp [Value.cells] at hcs
    obtain ⟨rfl, rfl, rfl⟩ := hcs
    have hz' : zs.length = cap := by simpa using hz
    have hd : d = .slice (lits .i64 (zs.take len)) (lits .i64 (zs.drop len)) := by injection hx
    have hs := hsz _ _ hd
    rw [bytes3] at hs
    simp only [lits, List.length_map, List.length_take, List.length_drop, reachBytes] at hs
    refine ⟨zs.take len, ⟨by simp; omega, ?_, ?_⟩, by omega⟩
    · intro z hzm
      exact i64_of_wf (hwz z (List.mem_of_mem_take hzm))
    · intro k hk
      obtain ⟨b, off, rfl, hc⟩ := Go.ints_at hcell (by omega)
      have hk' := hc k (by omega)
      refine ⟨b, off, rfl, World.block_lt_of_cell? W _ hk', ?_⟩
      rw [hk']
      simp [List.getD, hk]

/-- the one cell of a slice of ints. -/
theorem lst_cell {fuel : Nat} {v : Value} {x : DataW H × List MemPlace} (hf : DataW.trod enc Tryz.prog W 0 (fun _ => true) true fuel 27 [v] = some x) : ∃ o, LstAt W W.heap.size v o := by
  rcases open_ints Tryz.underlying27 Tryz.underlying3 (by kernel_rfl) hf with ⟨hcs, _⟩ | ⟨x, len, cap, zs, hcs, _, hl, hm, hz, hx, hcell, hwz⟩
  · simp at hcs
    exact ⟨none, hcs⟩
  · simp at hcs
    subst hcs
    have hz' : zs.length = cap := by simpa using hz
    have e : (zs.take len).length = len := by simp; omega
    refine ⟨some (zs.take len), x, cap, by rw [e], by rw [e]; exact hl, ?_⟩
    rw [e]
    refine ⟨e, ?_, ?_⟩
    · intro z hzm
      exact i64_of_wf (hwz z (List.mem_of_mem_take hzm))
    · intro k hk
      obtain ⟨b, off, rfl, hc⟩ := Go.ints_at hcell (by omega)
      have hk' := hc k (by omega)
      refine ⟨b, off, rfl, World.block_lt_of_cell? W _ hk', ?_⟩
      rw [hk']
      simp [List.getD, hk]

theorem ints_open (h : DataW.Trod enc Tryz.prog W 0 (fun _ => true) true 27 (.slice a len cap) d p) : ∃ zs, IntsAt W W.heap.size a len zs ∧ len ≤ cap := by
  obtain ⟨fuel, hf⟩ := h
  obtain ⟨o, ho⟩ := lst_cell (v := .slice a len cap) hf
  obtain ⟨A, c, e, hc, hi, _⟩ := ho.read
  injection e with e1 e2 e3
  subst e1 e2 e3
  exact ⟨_, hi, hc⟩

theorem lists_open (h : DataW.Trod enc Tryz.prog W 0 (fun _ => true) true 22 (.slice a len cap) d p) : ∃ ls, ListsAt W W.heap.size a len ls := by
  obtain ⟨fuel, hf⟩ := h
  rcases Go.Deep.open_slice1 Tryz.underlying22 cells22 hf with ⟨hcs, _⟩ | ⟨a', len', cap', m, n, V, D, Pl, hcs, _, hl, hmx, hm, _, hx⟩
  · simp [Value.cells] at hcs
    obtain ⟨rfl, rfl, rfl⟩ := hcs
    exact ⟨[], ListsAt.nil _ _ _⟩
  · simp [Value.cells] at hcs
    obtain ⟨rfl, rfl, rfl⟩ := hcs
    simp only [if_true] at hm
    have each : ∀ k, k < len → ∃ o, LstAt W W.heap.size (V k) o := fun k hk => lst_cell (hx k (by omega)).2
    have hspot : 0 < len → a'.spot = none := fun h0 => by
      have := World.cell?_spot (hx 0 (by omega)).1
      simpa [Addr.add] using this
    obtain ⟨f, hf2⟩ := Go.Deep.choose_lt each
    refine ⟨(List.range len).map f, by simp, fun k hk => ?_⟩
    have h1 := (hx k (by omega)).1
    obtain ⟨b, o, spot⟩ := a'
    have hs : spot = none := hspot (by omega)
    subst hs
    rw [add_plain] at h1
    refine ⟨b, o, V k, rfl, World.block_lt_of_cell? W _ h1, h1, ?_⟩
    have : ((List.range len).map f).getD k none = f k := by simp [List.getD, hk]
    rw [this]
    exact hf2 k hk
end
end Go.Proofs.YtgdlfiejjnjcpaaGreat.La