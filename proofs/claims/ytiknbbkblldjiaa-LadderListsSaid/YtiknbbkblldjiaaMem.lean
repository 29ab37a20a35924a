/-
  WORDS OF MEMORY for the proofs over layer 5: a row of ints known whole, lists that may be nil, lists of lists, and what keeps them so; 'make' and 'copy' of ints for the walk to take. No condition.
-/
import Derived.Test.YtiknbbkblldjiaaPad
import Derived.Laws.CopyOwn
import Derived.RangeFuncBox
namespace Go.Proofs.Ytiknbbkblldjiaa
open Go.RowKit

abbrev Fit (z : Int) : Prop := -9223372036854775808 ≤ z ∧ z ≤ 9223372036854775807
def ints (l : List Int) : List Value := l.map (Value.int .i64)
theorem ints_len (l : List Int) : (ints l).length = l.length := by simp [ints]
theorem ints_get (l : List Int) (k : Nat) (h : k < l.length) : (ints l)[k]? = some (.int .i64 (l.getD k 0)) := by
  simp [ints, List.getD, List.getElem?_eq_getElem h]

section
variable {w w' : World} {B B' : Nat} {A : Option Addr} {n : Nat} {zs : List Int}
theorem IntsAt.take (h : IntsAt w B A n zs) (m : Nat) (hm : m ≤ n) : IntsAt w B A m (zs.take m) :=
  ⟨by rw [List.length_take, h.1]; omega, fun z hz => h.2.1 z (List.mem_of_mem_take hz), fun k hk => by
    obtain ⟨b, o, e, hb, hc⟩ := h.2.2 k (by omega)
    refine ⟨b, o, e, hb, hc.trans ?_⟩
    simp [List.getD, List.getElem?_take_of_lt hk]⟩
theorem IntsAt.drop {b o : Nat} (h : IntsAt w B (some ⟨b, o, none⟩) n zs) (m : Nat) (hm : m ≤ n) : IntsAt w B (some ⟨b, o + m, none⟩) (n - m) (zs.drop m) :=
  ⟨by rw [List.length_drop, h.1], fun z hz => h.2.1 z (List.mem_of_mem_drop hz), fun k hk => by
    obtain ⟨b', o', e, hb, hc⟩ := h.2.2 (m + k) (by omega)
    cases e
    refine ⟨b, o + m, rfl, hb, ?_⟩
    rw [Nat.add_assoc]
    refine hc.trans ?_
    simp [List.getD]⟩
theorem IntsAt.nil (w : World) (B : Nat) (A : Option Addr) : IntsAt w B A 0 [] := ⟨rfl, by simp, fun _ h => absurd h (Nat.not_lt_zero _)⟩
theorem IntsAt.fit (h : IntsAt w B A n zs) : ∀ z ∈ zs, Fit z := h.2.1
end

/-- block g is a row of the ints l, known whole. -/
def IntRow (w : World) (g : Nat) (l : List Int) : Prop := w.heap[g]? = some (.cells (ints l).toArray 3 (0, 0))
theorem IntRow.lt {w : World} {g : Nat} {l : List Int} (h : IntRow w g l) : g < w.heap.size := (Array.getElem?_eq_some_iff.1 h).1
theorem IntRow.cell {w : World} {g : Nat} {l : List Int} (h : IntRow w g l) (k : Nat) (hk : k < l.length) : w.cell? ⟨g, k, none⟩ = some (.int .i64 (l.getD k 0)) := by
  rw [cell_of_row w g k _ 3 _ h, List.getElem?_toArray]
  exact ints_get l k hk
theorem IntRow.kept {w w' : World} {g : Nat} {l : List Int} {row : Option Nat} (h : IntRow w g l) (hg : w.grownBy w' row) (hne : some g ≠ row) : IntRow w' g l := (hg.block g h.lt hne).trans h
theorem IntRow.below {w w' : World} {g C : Nat} {l : List Int} (h : IntRow w g l) (hb : Below C w w') (hg : g < C) : IntRow w' g l := (hb.block g hg).trans h
theorem IntRow.alloc {w : World} {g : Nat} {l : List Int} (h : IntRow w g l) (o : Obj) : IntRow (w.alloc o) g l := h.kept (World.grownBy_alloc w o none) (by simp)
theorem IntRow.sub {w : World} {g B : Nat} {l : List Int} (h : IntRow w g l) (hf : ∀ z ∈ l, Fit z) (hB : g < B) (off n : Nat) (hn : off + n ≤ l.length) : IntsAt w B (some ⟨g, off, none⟩) n ((l.drop off).take n) :=
  ⟨by simp; omega, fun z hz => hf z (List.mem_of_mem_drop (List.mem_of_mem_take hz)), fun k hk => ⟨g, off, rfl, hB, (h.cell (off + k) (by omega)).trans (by simp [List.getD, List.getElem?_take_of_lt hk])⟩⟩
theorem IntRow.ints {w : World} {g B : Nat} {l : List Int} (h : IntRow w g l) (hf : ∀ z ∈ l, Fit z) (hB : g < B) : IntsAt w B (some ⟨g, 0, none⟩) l.length l := by
  have := h.sub hf hB 0 l.length (by omega)
  simpa using this
theorem IntRow.new (w : World) (l : List Int) : IntRow (w.alloc (.cells (Ytiknbbkblldjiaa.ints l).toArray 3)) w.heap.size l := World.alloc_heap_new w _

theorem info3 : (Try.prog.info? 3).map (fun i => (i.zero, i.size, i.bytes)) = some (some (.int .i64 0), 1, 8) := by kernel_rfl
theorem info3s : (Try.prog.info? 3).map (·.size) = some 1 := by kernel_rfl
/-- 'make([]int, n)', for the walk to take. -/
theorem make_ints (n : Nat) (hn : n ≤ 65536) (W : World) : (Instr.makeSlice 22 (.int .i64 (n : Int)) (.int .i64 (n : Int))).run Try.prog W = .ok (.slice (some ⟨W.heap.size, 0, none⟩) n n) (W.alloc (.cells (ints (List.replicate n 0)).toArray 3)) := by
  obtain ⟨i0, hi, hz0, hz1, hz2⟩ := info_parts info3
  have h := run_make (P := Try.prog) W 22 3 i0 (.int .i64 0) Try.underlying22 hi hz0 .i64 .i64 (n : Int) (n : Int) (by omega) (by omega) (by rw [hz2]; omega) (by omega)
  have e : madeCells (Value.int .i64 0).cells (n * i0.size) = (ints (List.replicate n 0)).toArray := by
    apply Array.toList_inj.1
    have e1 : (Value.int .i64 0).cells = #[.int .i64 0] := rfl
    rw [hz1, Nat.mul_one, e1, toList_madeCells_one]
    simp [ints]
  rw [← e]
  simpa using h

theorem splice_nil {α : Type} (L : List α) (off : Nat) : splice L off [] = L := by simp [splice]
theorem ints_splice (L : List Int) (off : Nat) (cs : List Int) : ints (splice L off cs) = splice (ints L) off (ints cs) := by simp [splice, ints]
/-- 'copy(dst, src)' of ints, dst lying in a row known whole, for the walk to take. -/
theorem copy_ints (W : World) (g off dl dc B : Nat) (A : Option Addr) (n c : Nat) (L zs : List Int) (hg : IntRow W g L) (hfit : off + dl ≤ L.length) (hs : IntsAt W B A n zs) :
    ∃ W', (Builtin.copy_ #[22, 22] 3 #[.slice (some ⟨g, off, none⟩) dl dc, .slice A n c]).run Try.prog W = .ok (goInt (Nat.min n dl)) W' ∧ IntRow W' g (splice L off (zs.take (Nat.min n dl))) ∧ W.grownBy W' (some g) ∧ W'.heap.size = W.heap.size := by
  by_cases h0 : Nat.min n dl = 0
  · refine ⟨W, ?_, ?_, ⟨rfl, rfl, rfl, Nat.le_refl _, fun _ _ _ => rfl⟩, rfl⟩
    · rw [h0]; exact run_copy_none W 22 22 3 3 _ A dl dc n c Try.underlying22 info3s h0
    · rw [h0, List.take_zero, splice_nil]; exact hg
  · have hm : Nat.min n dl ≤ n := Nat.min_le_left n dl
    have hm2 : Nat.min n dl ≤ dl := Nat.min_le_right n dl
    obtain ⟨b, o, rfl, hb, -⟩ := hs.at_ (k := 0) (by omega)
    have hlen : (zs.take (Nat.min n dl)).length = Nat.min n dl := by rw [List.length_take, hs.len]; omega
    have hrun := run_copy_row (P := Try.prog) W 22 22 3 3 g off dl dc ⟨b, o, none⟩ n c (ints L).toArray 3 (ints (zs.take (Nat.min n dl))) Try.underlying22 info3s hg (by rw [ints_len, hlen])
      (fun j v hj => by
        have hj2 : j < Nat.min n dl := by
          have := (List.getElem?_eq_some_iff.1 hj).1
          rwa [ints_len, hlen] at this
        obtain ⟨b', o', e, _, hc⟩ := hs.at_ (k := j) (by omega)
        cases e
        rw [ints_get _ _ (by rw [hlen]; exact hj2)] at hj
        rw [Go.WideShapes.add_plain, hc, ← hj]
        simp [List.getD, List.getElem?_take_of_lt hj2])
      (by simp [ints_len, hlen]; omega) (fun v hv => by obtain ⟨z, _, rfl⟩ := List.mem_map.1 hv; rfl)
    rw [ints_len, hlen] at hrun
    refine ⟨_, hrun, ?_, ?_, by simp [World.setRow]⟩
    · show _ = _
      rw [setRow_heap W g _ _ 3 _ hg, ints_splice]
      simp [splice, ints_len, hlen]
    · exact ⟨rfl, rfl, rfl, by simp [World.setRow], fun k _ hk => setRow_other W g k _ (fun e => hk (by rw [e]))⟩

/-- an answer that is a new slice of ints, whose row is known whole. -/
def RetRow (w : World) (zs : List Int) (e : Ending) (w' : World) : Prop := ∃ g, w.heap.size ≤ g ∧ e = .returned (.slice (some ⟨g, 0, none⟩) zs.length zs.length) ∧ IntRow w' g zs ∧ Below w.heap.size w w'
/-- an answer that is a slice of ints. -/
def RetInts (w : World) (zs : List Int) (e : Ending) (w' : World) : Prop := ∃ A n c, e = .returned (.slice A n c) ∧ IntsAt w' w'.heap.size A n zs ∧ Below w.heap.size w w'

/-- nothing but draws lies between two worlds. -/
def Drew (w w' : World) : Prop := ∃ n, w' = w.drewN n
theorem Drew.refl (w : World) : Drew w w := ⟨0, rfl⟩
theorem Below.drews {B : Nat} {a b c : World} (h : Below B a b) (k : Drew b c) : Below B a c := by
  obtain ⟨n, rfl⟩ := k
  exact ⟨h.os, h.tape, h.output, h.size, h.block⟩

/-- a list that may be nil. -/
def LstAt (w : World) (B : Nat) (v : Value) : Option (List Int) → Prop
  | none => v = .slice none 0 0
  | some zs => ∃ a c, v = .slice (some a) zs.length c ∧ zs.length ≤ c ∧ IntsAt w B (some a) zs.length zs
theorem LstAt.keep {w w' : World} {B : Nat} {v : Value} {o : Option (List Int)} (h : LstAt w B v o) (hk : ∀ p : Addr, p.block < B → w'.cell? p = w.cell? p) : LstAt w' B v o := by
  cases o with
  | none => exact h
  | some zs => obtain ⟨a, c, e, hc, hi⟩ := h; exact ⟨a, c, e, hc, hi.keep hk⟩
theorem LstAt.more {w : World} {B B' : Nat} {v : Value} {o : Option (List Int)} (h : LstAt w B v o) (hB : B ≤ B') : LstAt w B' v o := by
  cases o with
  | none => exact h
  | some zs => obtain ⟨a, c, e, hc, hi⟩ := h; exact ⟨a, c, e, hc, hi.more hB⟩
theorem LstAt.below {w w' : World} {B C : Nat} {v : Value} {o : Option (List Int)} (h : LstAt w B v o) (hb : Below C w w') (hB : B ≤ C) : LstAt w' B v o := h.keep fun _ hp => hb.cell (by omega)
theorem LstAt.read {w : World} {B : Nat} {v : Value} {o : Option (List Int)} (h : LstAt w B v o) : ∃ A c, v = .slice A (o.getD []).length c ∧ (o.getD []).length ≤ c ∧ IntsAt w B A (o.getD []).length (o.getD []) ∧ (o = none → A = none ∧ c = 0) ∧ (∀ zs, o = some zs → ∃ a, A = some a) := by
  cases o with
  | none => exact ⟨none, 0, h, Nat.le_refl _, IntsAt.nil _ _ _, fun _ => ⟨rfl, rfl⟩, fun _ e => by cases e⟩
  | some zs => obtain ⟨a, c, e, hc, hi⟩ := h; exact ⟨_, c, e, hc, hi, fun e => (by cases e), fun _ _ => ⟨_, rfl⟩⟩

/-- a slice of lists. -/
def ListsAt (w : World) (B : Nat) (A : Option Addr) (n : Nat) (ls : List (Option (List Int))) : Prop :=
  ls.length = n ∧ ∀ k, k < n → ∃ b o u, A = some ⟨b, o, none⟩ ∧ b < B ∧ w.cell? ⟨b, o + k, none⟩ = some u ∧ LstAt w B u (ls.getD k none)
theorem ListsAt.keep {w w' : World} {B n : Nat} {A : Option Addr} {ls : List (Option (List Int))} (h : ListsAt w B A n ls) (hk : ∀ p : Addr, p.block < B → w'.cell? p = w.cell? p) : ListsAt w' B A n ls :=
  ⟨h.1, fun k hn => by obtain ⟨b, o, u, e, hb, hc, hl⟩ := h.2 k hn; exact ⟨b, o, u, e, hb, (hk ⟨b, o + k, none⟩ hb).trans hc, hl.keep hk⟩⟩
theorem ListsAt.more {w : World} {B B' n : Nat} {A : Option Addr} {ls : List (Option (List Int))} (h : ListsAt w B A n ls) (hB : B ≤ B') : ListsAt w B' A n ls :=
  ⟨h.1, fun k hn => by obtain ⟨b, o, u, e, hb, hc, hl⟩ := h.2 k hn; exact ⟨b, o, u, e, by omega, hc, hl.more hB⟩⟩
theorem ListsAt.below {w w' : World} {B n C : Nat} {A : Option Addr} {ls : List (Option (List Int))} (h : ListsAt w B A n ls) (hb : Below C w w') (hB : B ≤ C) : ListsAt w' B A n ls := h.keep fun _ hp => hb.cell (by omega)
theorem ListsAt.nil (w : World) (B : Nat) (A : Option Addr) : ListsAt w B A 0 [] := ⟨rfl, fun _ h => absurd h (Nat.not_lt_zero _)⟩

end Go.Proofs.Ytiknbbkblldjiaa
