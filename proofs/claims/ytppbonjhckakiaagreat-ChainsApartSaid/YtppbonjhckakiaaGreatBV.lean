/-
  WORDS OF MEMORY for the proofs over layer 5: a row of ints known whole, lists that may be nil, lists of lists, and what keeps them so; 'make' and 'copy' of ints for the walk to take. No condition.
  WALKS: allZero, check, copied, Place, pieces, and of the reference: at, Fits, Same. Conditions: at most 1000000000000000 elements (400 for check and Fits, 1000 for copied).
  WALKS: check, Fits, copied, pieces, Same. Conditions: at most 1000000000 elements.
  WALKS: copied, pieces and its function, Same. Conditions: at most 1000 elements for copied, 1000000000000000 for Same.
  THE ITERATOR: the ten pieces of a map of 76 blocks, in order, for every loop body that keeps the iterator's own variable. No condition.
-/
import Derived.Test.YtppbonjhckakiaaGreatBM
import Derived.Laws.CopyOwn
import Derived.RangeFuncBox
import Derived.Deep.QuietTactic
import Derived.BigQuiet
import Derived.OwnWalk
import Derived.RangeFuncNested
import Derived.RangeFuncBound
import Derived.RangeFuncCalls
import Derived.RangeFuncLeaves
import Derived.Shelf.Abstract
import Derived.Shelf.RegionOpen
import Derived.WalkKit
import Derived.OwnWalkIn
import Derived.TacticsInMore
import Derived.LoopNIn
import Derived.LoopIn
namespace Go.Proofs.YtppbonjhckakiaaGreat.La
open Go.RowKit

abbrev Fit (z : Int) : Prop := -9223372036854775808 ≤ z ∧ z ≤ 9223372036854775807
def ints (l : List Int) : List Value := l.map (Value.int .i64)
set_option maxRecDepth 100000 in
theorem ints_len (l : List Int) : (ints l).length = l.length := by simp [ints]
set_option maxRecDepth 100000 in
theorem ints_get (l : List Int) (k : Nat) (h : k < l.length) : (ints l)[k]? = some (.int .i64 (l.getD k 0)) := by
  simp [ints, List.getD, List.getElem?_eq_getElem h]

section
variable {w w' : World} {B B' : Nat} {A : Option Addr} {n : Nat} {zs : List Int}
set_option maxRecDepth 100000 in
theorem IntsAt.take (h : IntsAt w B A n zs) (m : Nat) (hm : m ≤ n) : IntsAt w B A m (zs.take m) :=
  ⟨by rw [List.length_take, h.1]; omega, fun z hz => h.2.1 z (List.mem_of_mem_take hz), fun k hk => by
    obtain ⟨b, o, e, hb, hc⟩ := h.2.2 k (by omega)
    refine ⟨b, o, e, hb, hc.trans ?_⟩
    simp [List.getD, List.getElem?_take_of_lt hk]⟩
set_option maxRecDepth 100000 in
theorem IntsAt.drop {b o : Nat} (h : IntsAt w B (some ⟨b, o, none⟩) n zs) (m : Nat) (hm : m ≤ n) : IntsAt w B (some ⟨b, o + m, none⟩) (n - m) (zs.drop m) :=
  ⟨by rw [List.length_drop, h.1], fun z hz => h.2.1 z (List.mem_of_mem_drop hz), fun k hk => by
    obtain ⟨b', o', e, hb, hc⟩ := h.2.2 (m + k) (by omega)
    cases e
    refine ⟨b, o + m, rfl, hb, ?_⟩
    rw [Nat.add_assoc]
    refine hc.trans ?_
    simp [List.getD]⟩
set_option maxRecDepth 100000 in
theorem IntsAt.nil (w : World) (B : Nat) (A : Option Addr) : IntsAt w B A 0 [] := ⟨rfl, by simp, fun _ h => absurd h (Nat.not_lt_zero _)⟩
set_option maxRecDepth 100000 in
theorem IntsAt.fit (h : IntsAt w B A n zs) : ∀ z ∈ zs, Fit z := h.2.1
end

/-- block g is a row of the ints l, known whole. -/
def IntRow (w : World) (g : Nat) (l : List Int) : Prop := w.heap[g]? = some (.cells (ints l).toArray 3 (0, 0))
set_option maxRecDepth 100000 in
theorem IntRow.lt {w : World} {g : Nat} {l : List Int} (h : IntRow w g l) : g < w.heap.size := (Array.getElem?_eq_some_iff.1 h).1
set_option maxRecDepth 100000 in
theorem IntRow.cell {w : World} {g : Nat} {l : List Int} (h : IntRow w g l) (k : Nat) (hk : k < l.length) : w.cell? ⟨g, k, none⟩ = some (.int .i64 (l.getD k 0)) := by
  rw [cell_of_row w g k _ 3 _ h, List.getElem?_toArray]
  exact ints_get l k hk
set_option maxRecDepth 100000 in
theorem IntRow.kept {w w' : World} {g : Nat} {l : List Int} {row : Option Nat} (h : IntRow w g l) (hg : w.grownBy w' row) (hne : some g ≠ row) : IntRow w' g l := (hg.block g h.lt hne).trans h
set_option maxRecDepth 100000 in
theorem IntRow.below {w w' : World} {g C : Nat} {l : List Int} (h : IntRow w g l) (hb : Below C w w') (hg : g < C) : IntRow w' g l := (hb.block g hg).trans h
set_option maxRecDepth 100000 in
theorem IntRow.alloc {w : World} {g : Nat} {l : List Int} (h : IntRow w g l) (o : Obj) : IntRow (w.alloc o) g l := h.kept (World.grownBy_alloc w o none) (by simp)
set_option maxRecDepth 100000 in
theorem IntRow.sub {w : World} {g B : Nat} {l : List Int} (h : IntRow w g l) (hf : ∀ z ∈ l, Fit z) (hB : g < B) (off n : Nat) (hn : off + n ≤ l.length) : IntsAt w B (some ⟨g, off, none⟩) n ((l.drop off).take n) :=
  ⟨by simp; omega, fun z hz => hf z (List.mem_of_mem_drop (List.mem_of_mem_take hz)), fun k hk => ⟨g, off, rfl, hB, (h.cell (off + k) (by omega)).trans (by simp [List.getD, List.getElem?_take_of_lt hk])⟩⟩
set_option maxRecDepth 100000 in
theorem IntRow.ints {w : World} {g B : Nat} {l : List Int} (h : IntRow w g l) (hf : ∀ z ∈ l, Fit z) (hB : g < B) : IntsAt w B (some ⟨g, 0, none⟩) l.length l := by
  have := h.sub hf hB 0 l.length (by omega)
  simpa using this
set_option maxRecDepth 100000 in
theorem IntRow.new (w : World) (l : List Int) : IntRow (w.alloc (.cells (La.ints l).toArray 3)) w.heap.size l := World.alloc_heap_new w _

set_option maxRecDepth 100000 in
theorem info3 : (Tryz.prog.info? 3).map (fun i => (i.zero, i.size, i.bytes)) = some (some (.int .i64 0), 1, 8) := by kernel_rfl
set_option maxRecDepth 100000 in
theorem info3s : (Tryz.prog.info? 3).map (·.size) = some 1 := by kernel_rfl
set_option maxRecDepth 100000 in
/-- 'make([]int, n)', for the walk to take. -/
theorem make_ints (n : Nat) (hn : n ≤ 65536) (W : World) : (Instr.makeSlice 27 (.int .i64 (n : Int)) (.int .i64 (n : Int))).run Tryz.prog W = .ok (.slice (some ⟨W.heap.size, 0, none⟩) n n) (W.alloc (.cells (ints (List.replicate n 0)).toArray 3)) := by
  obtain ⟨i0, hi, hz0, hz1, hz2⟩ := info_parts info3
  have h := run_make (P := Tryz.prog) W 27 3 i0 (.int .i64 0) Tryz.underlying27 hi hz0 .i64 .i64 (n : Int) (n : Int) (by omega) (by omega) (by rw [hz2]; omega) (by omega)
  have e : madeCells (Value.int .i64 0).cells (n * i0.size) = (ints (List.replicate n 0)).toArray := by
    apply Array.toList_inj.1
    have e1 : (Value.int .i64 0).cells = #[.int .i64 0] := rfl
    rw [hz1, Nat.mul_one, e1, toList_madeCells_one]
    simp [ints]
  rw [← e]
  simpa using h

set_option maxRecDepth 100000 in
theorem splice_nil {α : Type} (L : List α) (off : Nat) : splice L off [] = L := by simp [splice]
set_option maxRecDepth 100000 in
theorem ints_splice (L : List Int) (off : Nat) (cs : List Int) : ints (splice L off cs) = splice (ints L) off (ints cs) := by simp [splice, ints]
set_option maxRecDepth 100000 in
/-- 'copy(dst, src)' of ints, dst lying in a row known whole, for the walk to take. -/
theorem copy_ints (W : World) (g off dl dc B : Nat) (A : Option Addr) (n c : Nat) (L zs : List Int) (hg : IntRow W g L) (hfit : off + dl ≤ L.length) (hs : IntsAt W B A n zs) :
    ∃ W', (Builtin.copy_ #[27, 27] 3 #[.slice (some ⟨g, off, none⟩) dl dc, .slice A n c]).run Tryz.prog W = .ok (goInt (Nat.min n dl)) W' ∧ IntRow W' g (splice L off (zs.take (Nat.min n dl))) ∧ W.grownBy W' (some g) ∧ W'.heap.size = W.heap.size := by
  by_cases h0 : Nat.min n dl = 0
  · refine ⟨W, ?_, ?_, ⟨rfl, rfl, rfl, Nat.le_refl _, fun _ _ _ => rfl⟩, rfl⟩
    · rw [h0]; exact run_copy_none W 27 27 3 3 _ A dl dc n c Tryz.underlying27 info3s h0
    · rw [h0, List.take_zero, splice_nil]; exact hg
  · have hm : Nat.min n dl ≤ n := Nat.min_le_left n dl
    have hm2 : Nat.min n dl ≤ dl := Nat.min_le_right n dl
    obtain ⟨b, o, rfl, hb, -⟩ := hs.at_ (k := 0) (by omega)
    have hlen : (zs.take (Nat.min n dl)).length = Nat.min n dl := by rw [List.length_take, hs.len]; omega
    have hrun := run_copy_row (P := Tryz.prog) W 27 27 3 3 g off dl dc ⟨b, o, none⟩ n c (ints L).toArray 3 (ints (zs.take (Nat.min n dl))) Tryz.underlying27 info3s hg (by rw [ints_len, hlen])
      (fun j v hj => by
        have hj2 : j < Nat.min n dl := by
          have := (List.getElem?_eq_some_iff.1 hj).1
          rwa [ints_len, hlen] at this
        obtain ⟨b', o', e, _, hc⟩ := hs.at_ (k := j) (by omega)
        cases e
        rw [ints_get _ _ (by rw [hlen]; exact hj2)] at hj
        rw [Go.WideShapes.add_plain, hc, ← hj]
        simp [List.getD, List.getElem?_take_of_lt hj2])
      (by simp [ints_len, hlen]; omega) (fun v hv => by obtain ⟨z, _, rfl⟩ := List.mem_map.1 hv; rfl)
    rw [ints_len, hlen] at hrun
    refine ⟨_, hrun, ?_, ?_, by simp [World.setRow]⟩
    · show _ = _
      rw [setRow_heap W g _ _ 3 _ hg, ints_splice]
      simp [splice, ints_len, hlen]
    · exact ⟨rfl, rfl, rfl, by simp [World.setRow], fun k _ hk => setRow_other W g k _ (fun e => hk (by rw [e]))⟩

/-- an answer that is a new slice of ints, whose row is known whole. -/
def RetRow (w : World) (zs : List Int) (e : Ending) (w' : World) : Prop := ∃ g, w.heap.size ≤ g ∧ e = .returned (.slice (some ⟨g, 0, none⟩) zs.length zs.length) ∧ IntRow w' g zs ∧ Below w.heap.size w w'
/-- an answer that is a slice of ints. -/
def RetInts (w : World) (zs : List Int) (e : Ending) (w' : World) : Prop := ∃ A n c, e = .returned (.slice A n c) ∧ IntsAt w' w'.heap.size A n zs ∧ Below w.heap.size w w'

/-- nothing but draws lies between two worlds. -/
def Drew (w w' : World) : Prop := ∃ n, w' = w.drewN n
set_option maxRecDepth 100000 in
theorem Drew.refl (w : World) : Drew w w := ⟨0, rfl⟩
set_option maxRecDepth 100000 in
theorem Below.drews {B : Nat} {a b c : World} (h : Below B a b) (k : Drew b c) : Below B a c := by
  obtain ⟨n, rfl⟩ := k
  exact ⟨h.os, h.tape, h.output, h.size, h.block⟩

/-- a list that may be nil. -/
def LstAt (w : World) (B : Nat) (v : Value) : Option (List Int) → Prop
  | none => v = .slice none 0 0
  | some zs => ∃ a c, v = .slice (some a) zs.length c ∧ zs.length ≤ c ∧ IntsAt w B (some a) zs.length zs
set_option maxRecDepth 100000 in
theorem LstAt.keep {w w' : World} {B : Nat} {v : Value} {o : Option (List Int)} (h : LstAt w B v o) (hk : ∀ p : Addr, p.block < B → w'.cell? p = w.cell? p) : LstAt w' B v o := by
  cases o with
  | none => exact h
  | some zs => obtain ⟨a, c, e, hc, hi⟩ := h; exact ⟨a, c, e, hc, hi.keep hk⟩
set_option maxRecDepth 100000 in
theorem LstAt.more {w : World} {B B' : Nat} {v : Value} {o : Option (List Int)} (h : LstAt w B v o) (hB : B ≤ B') : LstAt w B' v o := by
  cases o with
  | none => exact h
  | some zs => obtain ⟨a, c, e, hc, hi⟩ := h; exact ⟨a, c, e, hc, hi.more hB⟩
set_option maxRecDepth 100000 in
theorem LstAt.below {w w' : World} {B C : Nat} {v : Value} {o : Option (List Int)} (h : LstAt w B v o) (hb : Below C w w') (hB : B ≤ C) : LstAt w' B v o := h.keep fun _ hp => hb.cell (by omega)
set_option maxRecDepth 100000 in
theorem LstAt.read {w : World} {B : Nat} {v : Value} {o : Option (List Int)} (h : LstAt w B v o) : ∃ A c, v = .slice A (o.getD []).length c ∧ (o.getD []).length ≤ c ∧ IntsAt w B A (o.getD []).length (o.getD []) ∧ (o = none → A = none ∧ c = 0) ∧ (∀ zs, o = some zs → ∃ a, A = some a) := by
  cases o with
  | none => exact ⟨none, 0, h, Nat.le_refl _, IntsAt.nil _ _ _, fun _ => ⟨rfl, rfl⟩, fun _ e => by cases e⟩
  | some zs => obtain ⟨a, c, e, hc, hi⟩ := h; exact ⟨_, c, e, hc, hi, fun e => (by cases e), fun _ _ => ⟨_, rfl⟩⟩

/-- a slice of lists. -/
def ListsAt (w : World) (B : Nat) (A : Option Addr) (n : Nat) (ls : List (Option (List Int))) : Prop :=
  ls.length = n ∧ ∀ k, k < n → ∃ b o u, A = some ⟨b, o, none⟩ ∧ b < B ∧ w.cell? ⟨b, o + k, none⟩ = some u ∧ LstAt w B u (ls.getD k none)
set_option maxRecDepth 100000 in
theorem ListsAt.keep {w w' : World} {B n : Nat} {A : Option Addr} {ls : List (Option (List Int))} (h : ListsAt w B A n ls) (hk : ∀ p : Addr, p.block < B → w'.cell? p = w.cell? p) : ListsAt w' B A n ls :=
  ⟨h.1, fun k hn => by obtain ⟨b, o, u, e, hb, hc, hl⟩ := h.2 k hn; exact ⟨b, o, u, e, hb, (hk ⟨b, o + k, none⟩ hb).trans hc, hl.keep hk⟩⟩
set_option maxRecDepth 100000 in
theorem ListsAt.more {w : World} {B B' n : Nat} {A : Option Addr} {ls : List (Option (List Int))} (h : ListsAt w B A n ls) (hB : B ≤ B') : ListsAt w B' A n ls :=
  ⟨h.1, fun k hn => by obtain ⟨b, o, u, e, hb, hc, hl⟩ := h.2 k hn; exact ⟨b, o, u, e, by omega, hc, hl.more hB⟩⟩
set_option maxRecDepth 100000 in
theorem ListsAt.below {w w' : World} {B n C : Nat} {A : Option Addr} {ls : List (Option (List Int))} (h : ListsAt w B A n ls) (hb : Below C w w') (hB : B ≤ C) : ListsAt w' B A n ls := h.keep fun _ hp => hb.cell (by omega)
set_option maxRecDepth 100000 in
theorem ListsAt.nil (w : World) (B : Nat) (A : Option Addr) : ListsAt w B A 0 [] := ⟨rfl, fun _ h => absurd h (Nat.not_lt_zero _)⟩

end Go.Proofs.YtppbonjhckakiaaGreat.La

namespace Go.Proofs.YtppbonjhckakiaaGreat.La
open Go.RowKit

set_option maxRecDepth 100000 in
theorem Drew.trans {a b c : World} (h : Drew a b) (k : Drew b c) : Drew a c := by
  obtain ⟨n, rfl⟩ := h
  obtain ⟨m, rfl⟩ := k
  exact ⟨n + m, World.drewN_drewN _ _ _⟩
set_option maxRecDepth 100000 in
theorem Drew.cells {a b : World} (h : Drew a b) (p : Addr) : b.cell? p = a.cell? p := by
  obtain ⟨n, rfl⟩ := h
  rfl

/-! ### plain -/
def zeroB (zs : List Int) : Bool := decide (∀ k, k < zs.length → zs.getD k 0 = 0)
set_option maxRecDepth 100000 in
theorem zeroB_t {zs : List Int} (h : ∀ k, k < zs.length → zs.getD k 0 = 0) : zeroB zs = true := by simpa [zeroB] using h
set_option maxRecDepth 100000 in
theorem zeroB_f {zs : List Int} {k : Nat} (hk : k < zs.length) (h : zs.getD k 0 ≠ 0) : zeroB zs = false := by
  unfold zeroB
  exact decide_eq_false (fun h' => h (h' k hk))
def rangeB (zs : List Int) : Bool := decide (∀ k, k < zs.length → 0 ≤ zs.getD k 0 ∧ zs.getD k 0 ≤ 65535)
set_option maxRecDepth 100000 in
theorem rangeB_t {zs : List Int} (h : ∀ k, k < zs.length → 0 ≤ zs.getD k 0 ∧ zs.getD k 0 ≤ 65535) : rangeB zs = true := decide_eq_true h
set_option maxRecDepth 100000 in
theorem rangeB_f {zs : List Int} {k : Nat} (hk : k < zs.length) (h : ¬ (0 ≤ zs.getD k 0 ∧ zs.getD k 0 ≤ 65535)) : rangeB zs = false := decide_eq_false (fun h' => h (h' k hk))
/-- why a map may not be told. -/
def fitsE (zs : List Int) : Int := if zeroB (zs.drop 76) = true then (if rangeB zs = true then 0 else 3) else 12
set_option maxRecDepth 100000 in
theorem fitsE_large {zs : List Int} (h : zeroB (zs.drop 76) = false) : fitsE zs = 12 := by unfold fitsE; rw [h]; rfl
set_option maxRecDepth 100000 in
theorem fitsE_range {zs : List Int} (h : zeroB (zs.drop 76) = true) (h2 : rangeB zs = false) : fitsE zs = 3 := by unfold fitsE; rw [h, h2]; rfl
set_option maxRecDepth 100000 in
theorem fitsE_ok {zs : List Int} (h : zeroB (zs.drop 76) = true) (h2 : rangeB zs = true) : fitsE zs = 0 := by unfold fitsE; rw [h, h2]; rfl
def placeK (i : Int) : Int × Int × Int :=
  if i < 0 ∨ 76 ≤ i then (-1, 0, 0) else if i < 4 then (0, i, 0) else if i < 12 then (1, i - 4, 0) else (2, (i - 12) / 8, (i - 12) % 8)
set_option maxRecDepth 100000 in
theorem drop_getD (zs : List Int) (m k : Nat) : (zs.drop m).getD k 0 = zs.getD (m + k) 0 := by simp [List.getD]

/-! ### walks -/
set_option maxRecDepth 100000 in
set_option maxHeartbeats 1000000 in
theorem allZero_any (b : Bool) (A : Option Addr) (n c B : Nat) (zs : List Int) (w : World) (hr : IntsAt w B A n zs) (hn : n ≤ 1000000000000000) (hb : zeroB zs = b) :
    Calls Tryz.prog 69 #[.slice A n c] w fun e w' => e = .returned (.bool b) ∧ w = w' := by
  have HL := Lib.hid hr.len
  have HA := Lib.hid hr
  have HB := Lib.hid hb
  clear hr hb
  go_enter Tryz.func69, Tryz.ntmps69
  go_wp2
  go_loop [4, 7] (fun _ i => ∃ k : Nat, k ≤ n ∧ i = .int .i64 (k : Int) ∧ Hid (∀ j, j < k → zs.getD j 0 = 0)) (fun _ i => n - (intOf i).toNat)
  case atStart => exact ⟨0, by omega, rfl, fun j hj => absurd hj (Nat.not_lt_zero _)⟩
  case round =>
    obtain ⟨k, hk, rfl, hz⟩ := hrel
    by_cases hlt : k < n
    · obtain ⟨b, o, rfl, hbB, h1⟩ := HA.out.at_ hlt
      by_cases h0 : zs.getD k 0 = 0
      · have HZ : Hid (∀ j, j < k + 1 → zs.getD j 0 = 0) := fun j hj => by
          by_cases e : j = k
          · subst e; exact h0
          · exact hz.out j (by omega)
        rw [h0] at h1
        clear h0
        go_wp2
        go_round
        case rel => exact ⟨k + 1, by omega, by go_num, HZ⟩
        case measure => simp [intOf]; omega
      · have HF := Lib.hid (zeroB_f (by rw [HL.out]; exact hlt) h0)
        generalize zs.getD k 0 = z at *
        have h0' : (z != 0) = true := bne_iff_ne.2 h0
        go_wp2
        go_ret
        exact ⟨ret_bool (by rw [← HB.out, HF.out]), rfl⟩
    · have hkn : k = n := by omega
      subst hkn
      have HT := Lib.hid (zeroB_t (zs := zs) (fun j hj => hz.out j (by rw [← HL.out]; exact hj)))
      go_wp2
      go_ret
      exact ⟨ret_bool (by rw [← HB.out, HT.out]), rfl⟩

set_option maxRecDepth 100000 in
set_option maxHeartbeats 1000000 in
theorem at_any (A : Option Addr) (n c B : Nat) (zs : List Int) (i : Nat) (w : World) (hr : IntsAt w B A n zs) (_hn : n ≤ 1000000000000000) (hi : i ≤ 1000000) :
    Calls Tryz.prog 77 #[.slice A n c, .int .i64 (i : Int)] w fun e w' => e = .returned (.int .i64 (zs.getD i 0)) ∧ w = w' := by
  by_cases hlt : i < n
  · obtain ⟨b, o, rfl, hbB, h1⟩ := hr.at_ hlt
    generalize zs.getD i 0 = z at *
    go_enter Tryz.func77, Tryz.ntmps77
    go_wp2
    go_ret
    exact ⟨rfl, rfl⟩
  · have e : zs.getD i 0 = 0 := by
      have := hr.len
      simp [List.getD, List.getElem?_eq_none (show zs.length ≤ i by omega)]
    rw [e]
    go_enter Tryz.func77, Tryz.ntmps77
    go_wp2
    go_ret
    exact ⟨rfl, rfl⟩

set_option maxRecDepth 100000 in
set_option maxHeartbeats 1000000 in
theorem place_any (i : Int) (w : World) (hi : Fit i) :
    Calls Tryz.prog 67 #[.int .i64 i] w fun e w' => e = .returned (.tuple #[.int .i64 (placeK i).1, .int .i64 (placeK i).2.1, .int .i64 (placeK i).2.2]) ∧ w = w' := by
  have HP : Hid (placeK i = if i < 0 ∨ 76 ≤ i then (-1, 0, 0) else if i < 4 then (0, i, 0) else if i < 12 then (1, i - 4, 0) else (2, (i - 12) / 8, (i - 12) % 8)) := by show _ = _; rfl
  generalize placeK i = p at *
  have e1 : ∀ h : i < 0 ∨ 76 ≤ i, p = (-1, 0, 0) := fun h => by rw [HP.out, if_pos h]
  have e2 : ∀ (h : ¬ (i < 0 ∨ 76 ≤ i)) (h2 : i < 4), p = (0, i, 0) := fun h h2 => by rw [HP.out, if_neg h, if_pos h2]
  have e3 : ∀ (h : ¬ (i < 0 ∨ 76 ≤ i)) (h2 : ¬ i < 4) (h3 : i < 12), p = (1, i - 4, 0) := fun h h2 h3 => by rw [HP.out, if_neg h, if_neg h2, if_pos h3]
  have e4 : ∀ (h : ¬ (i < 0 ∨ 76 ≤ i)) (h2 : ¬ i < 4) (h3 : ¬ i < 12), p = (2, (i - 12) / 8, (i - 12) % 8) := fun h h2 h3 => by rw [HP.out, if_neg h, if_neg h2, if_neg h3]
  have E1 := Lib.hid e1
  have E2 := Lib.hid e2
  have E3 := Lib.hid e3
  have E4 := Lib.hid e4
  clear e1 e2 e3 e4 HP
  by_cases c1 : i < 0
  · rw [E1.out (Or.inl c1)]
    go_enter Tryz.func67, Tryz.ntmps67
    go_wp2
    go_ret3
    exact ⟨rfl, rfl⟩
  · by_cases c2 : 76 ≤ i
    · rw [E1.out (Or.inr c2)]
      go_enter Tryz.func67, Tryz.ntmps67
      go_wp2
      go_ret3
      exact ⟨rfl, rfl⟩
    · by_cases c3 : i < 4
      · rw [E2.out (by omega) c3]
        go_enter Tryz.func67, Tryz.ntmps67
        go_wp2
        go_ret3
        exact ⟨rfl, rfl⟩
      · by_cases c4 : i < 12
        · rw [E3.out (by omega) c3 c4]
          go_enter Tryz.func67, Tryz.ntmps67
          go_wp2
          go_ret3
          exact ⟨rfl, rfl⟩
        · rw [E4.out (by omega) c3 c4]
          obtain ⟨m, hm⟩ : ∃ m : Nat, (m : Int) = i - 12 := ⟨(i - 12).toNat, by omega⟩
          have hm2 : m < 64 := by omega
          obtain rfl : i = (m : Int) + 12 := by omega
          have ea : (m : Int) + 12 - 12 = (m : Int) := by omega
          rw [ea]
          clear E1 E2 E3 E4 ea hm hi c1 c2 c3 c4
          go_enter Tryz.func67, Tryz.ntmps67
          go_wp2
          go_ret3
          exact ⟨rfl, rfl⟩
end Go.Proofs.YtppbonjhckakiaaGreat.La

namespace Go.Proofs.YtppbonjhckakiaaGreat.La
open Go.RowKit

set_option maxRecDepth 100000 in
theorem tail_at {w : World} {A : Option Addr} {n B : Nat} (c : Nat) {zs : List Int} (hr : IntsAt w B A n zs) (hc : n ≤ c) (M : Nat) (hM : M = min n 76) : IntsAt w B (if c = M then A else Option.map (fun x => x.add M) A) (n - M) (zs.drop 76) := by
  have hl := hr.len
  by_cases h : n ≤ 76
  · rw [List.drop_eq_nil_of_le (by omega), show n - M = 0 by omega]
    exact IntsAt.nil _ _ _
  · obtain rfl : M = 76 := by omega
    obtain ⟨b, o, rfl, _, _⟩ := hr.at_ (k := 0) (by omega)
    rw [if_neg (by omega)]
    exact IntsAt.drop hr 76 (by omega)

set_option maxRecDepth 100000 in
set_option maxHeartbeats 2000000 in
theorem check_true (A A' : Option Addr) (n c B : Nat) (zs : List Int) (w : World) (HA : Hid (IntsAt w B A n zs)) (hn : n ≤ 1000000000) (hc : n ≤ c) (HL : Hid (zs.length = n)) (HZ : Hid (zeroB (zs.drop 76) = true))
    (hA' : Hid ((if c = (min (n : Int) 76).toNat then A else Option.map (fun x => x.add (min (n : Int) 76).toNat) A) = A'))
    (HT : Hid (Calls Tryz.prog 69 #[.slice A' (n - (min (n : Int) 76).toNat) (c - (min (n : Int) 76).toNat)] w fun e w' => e = .returned (.bool true) ∧ w = w')) :
    Calls Tryz.prog 65 #[.slice A n c] w fun e w' => e = .returned (.int .i64 (fitsE zs)) ∧ w = w' := by
  go_enter Tryz.func65, Tryz.ntmps65
  go_wp2_with (go_at_call 69; rw [hA'.out]; refine HT.out.mono ?_; rintro e w' ⟨rfl, rfl⟩; clear hA')
  go_loop [14] (fun i => ∃ k : Nat, k ≤ n ∧ i = .int .i64 (k : Int) ∧ Hid (∀ j, j < k → 0 ≤ zs.getD j 0 ∧ zs.getD j 0 ≤ 65535)) (fun i => n - (intOf i).toNat)
  case atStart => exact ⟨0, by omega, rfl, fun j hj => absurd hj (Nat.not_lt_zero _)⟩
  case round =>
    obtain ⟨k, hk, rfl, hR⟩ := hrel
    clear HT
    by_cases hlt : k < n
    · obtain ⟨b, o, rfl, hbB, h1⟩ := HA.out.at_ hlt
      by_cases h0 : 0 ≤ zs.getD k 0 ∧ zs.getD k 0 ≤ 65535
      · have HN : Hid (∀ j, j < k + 1 → 0 ≤ zs.getD j 0 ∧ zs.getD j 0 ≤ 65535) := fun j hj => by
          by_cases e : j = k
          · subst e; exact h0
          · exact hR.out j (by omega)
        generalize zs.getD k 0 = z at *
        go_wp2
        go_round
        case rel => exact ⟨k + 1, by omega, by go_num, HN⟩
        case measure => simp [intOf]; omega
      · have HF := Lib.hid (fitsE_range HZ.out (rangeB_f (by rw [HL.out]; exact hlt) h0))
        generalize zs.getD k 0 = z at *
        by_cases h2 : z < 0
        · go_wp2
          go_ret
          exact ⟨ret_int HF.out.symm, rfl⟩
        · have h3 : 65535 < z := by omega
          go_wp2
          go_ret
          exact ⟨ret_int HF.out.symm, rfl⟩
    · have hkn : k = n := by omega
      subst hkn
      have HE := Lib.hid (fitsE_ok HZ.out (rangeB_t (zs := zs) (fun j hj => hR.out j (by rw [← HL.out]; exact hj))))
      go_wp2
      go_ret
      exact ⟨ret_int HE.out.symm, rfl⟩

set_option maxRecDepth 100000 in
set_option maxHeartbeats 2000000 in
theorem check_any (A : Option Addr) (n c B : Nat) (zs : List Int) (w : World) (hr : IntsAt w B A n zs) (hn : n ≤ 1000000000) (hc : n ≤ c) :
    Calls Tryz.prog 65 #[.slice A n c] w fun e w' => e = .returned (.int .i64 (fitsE zs)) ∧ w = w' := by
  have HL := Lib.hid hr.len
  have HA := Lib.hid hr
  cases hz : zeroB (zs.drop 76) with
  | false =>
    have HT := Lib.hid (fun w (h : IntsAt w B A n zs) => allZero_any false (if c = (min (n : Int) 76).toNat then A else Option.map (fun x => x.add (min (n : Int) 76).toNat) A) (n - (min (n : Int) 76).toNat) (c - (min (n : Int) 76).toNat) B (zs.drop 76) w (tail_at c h hc _ (by omega)) (by omega) hz)
    have HE := Lib.hid (fitsE_large hz)
    clear hr hz
    go_enter Tryz.func65, Tryz.ntmps65
    go_wp2_with (go_at_call 69; refine (HT.out _ HA.out).mono ?_; rintro e w' ⟨rfl, rfl⟩)
    all_goals
      go_ret
      exact ⟨ret_int HE.out.symm, rfl⟩
  | true =>
    exact check_true A _ n c B zs w HA hn hc HL hz (show _ = _ from rfl) (allZero_any true _ _ _ B (zs.drop 76) w (tail_at c hr hc _ (by omega)) (by omega) hz)

set_option maxRecDepth 100000 in
set_option maxHeartbeats 2000000 in
theorem rfits_any (A : Option Addr) (n c B : Nat) (zs : List Int) (w : World) (hr : IntsAt w B A n zs) (hn : n ≤ 1000000000) :
    Calls Tryz.prog 43 #[.slice A n c] w fun e w' => e = .returned (.int .i64 (fitsE zs)) ∧ w = w' := by
  have HL := Lib.hid hr.len
  have HA := Lib.hid hr
  clear hr
  go_enter Tryz.func43, Tryz.ntmps43
  go_wp2
  go_loop [3] (fun i => ∃ k : Nat, (k ≤ n ∨ k = 76) ∧ 76 ≤ k ∧ i = .int .i64 (k : Int) ∧ Hid (∀ j, 76 ≤ j → j < k → zs.getD j 0 = 0)) (fun i => n - (intOf i).toNat)
  case atStart => exact ⟨76, by omega, by omega, rfl, fun j hj hj2 => absurd hj2 (by omega)⟩
  case round =>
    obtain ⟨k, hk, hk6, rfl, hz⟩ := hrel
    by_cases hlt : k < n
    · obtain ⟨b, o, rfl, hbB, h1⟩ := HA.out.at_ hlt
      by_cases h0 : zs.getD k 0 = 0
      · have HN : Hid (∀ j, 76 ≤ j → j < k + 1 → zs.getD j 0 = 0) := fun j h6 hj => by
          by_cases e : j = k
          · subst e; exact h0
          · exact hz.out j h6 (by omega)
        rw [h0] at h1
        clear h0
        go_wp2
        go_round
        case rel => exact ⟨k + 1, by omega, by omega, by go_num, HN⟩
        case measure => simp [intOf]; omega
      · have HF : Hid (fitsE zs = 12) := fitsE_large (zeroB_f (k := k - 76) (by rw [List.length_drop, HL.out]; omega) (by rw [drop_getD, show 76 + (k - 76) = k by omega]; exact h0))
        generalize zs.getD k 0 = z at *
        have h0' : (z != 0) = true := bne_iff_ne.2 h0
        go_wp2
        go_ret
        exact ⟨ret_int HF.out.symm, rfl⟩
    · have HZ : Hid (zeroB (zs.drop 76) = true) := zeroB_t (fun j hj => by
        rw [List.length_drop, HL.out] at hj
        rw [drop_getD]
        exact hz.out _ (by omega) (by omega))
      clear hz hk
      go_wp2
      go_loop [4] (fun i => ∃ k : Nat, k ≤ n ∧ i = .int .i64 (k : Int) ∧ Hid (∀ j, j < k → 0 ≤ zs.getD j 0 ∧ zs.getD j 0 ≤ 65535)) (fun i => n - (intOf i).toNat)
      case atStart => exact ⟨0, by omega, rfl, fun j hj => absurd hj (Nat.not_lt_zero _)⟩
      case round =>
        obtain ⟨k, hk, rfl, hR⟩ := hrel
        by_cases hlt : k < n
        · obtain ⟨b, o, rfl, hbB, h1⟩ := HA.out.at_ hlt
          by_cases h0 : 0 ≤ zs.getD k 0 ∧ zs.getD k 0 ≤ 65535
          · have HN : Hid (∀ j, j < k + 1 → 0 ≤ zs.getD j 0 ∧ zs.getD j 0 ≤ 65535) := fun j hj => by
              by_cases e : j = k
              · subst e; exact h0
              · exact hR.out j (by omega)
            generalize zs.getD k 0 = z at *
            go_wp2
            go_round
            case rel => exact ⟨k + 1, by omega, by go_num, HN⟩
            case measure => simp [intOf]; omega
          · have HF := Lib.hid (fitsE_range HZ.out (rangeB_f (by rw [HL.out]; exact hlt) h0))
            generalize zs.getD k 0 = z at *
            by_cases h2 : z < 0
            · go_wp2
              go_ret
              exact ⟨ret_int HF.out.symm, rfl⟩
            · have h3 : 65535 < z := by omega
              go_wp2
              go_ret
              exact ⟨ret_int HF.out.symm, rfl⟩
        · have hkn : k = n := by omega
          subst hkn
          have HE := Lib.hid (fitsE_ok HZ.out (rangeB_t (zs := zs) (fun j hj => hR.out j (by rw [← HL.out]; exact hj))))
          go_wp2
          go_ret
          exact ⟨ret_int HE.out.symm, rfl⟩
end Go.Proofs.YtppbonjhckakiaaGreat.La

namespace Go.Proofs.YtppbonjhckakiaaGreat.La
open Go.RowKit Go.Shelf
attribute [local go_sem] Oper.semAt_some

set_option maxRecDepth 100000 in
set_option maxHeartbeats 1000000 in
theorem same_ints (A A' : Option Addr) (n c c' B B' : Nat) (zs : List Int) (w : World) (hA : IntsAt w B A n zs) (hA' : IntsAt w B' A' n zs) (hn : n ≤ 1000000000000000) :
    Calls Tryz.prog 15 #[.slice A n c, .slice A' n c'] w fun e w' => e = .returned (.bool true) ∧ Drew w w' := by
  have HA := Lib.hid hA
  have HA' := Lib.hid hA'
  clear hA hA'
  go_enter Tryz.func15, Tryz.ntmps15
  go_wp2
  go_loopw [5] (fun i wr => ∃ k : Nat, k ≤ n ∧ i = .int .i64 (k : Int) ∧ Drew w wr) (fun i _ => n - (intOf i).toNat)
  case atStart => exact ⟨0, by omega, rfl, Drew.refl _⟩
  case round =>
    obtain ⟨k, hk, rfl, hd⟩ := hrel
    by_cases hlt : k < n
    · obtain ⟨b, o, rfl, _, h1⟩ := HA.out.at_ hlt
      obtain ⟨b', o', rfl, _, g1⟩ := HA'.out.at_ hlt
      rw [← hd.cells] at h1 g1
      generalize zs.getD k 0 = s at *
      have h0 : (0 : Int) ≤ (k : Int) := by omega
      have hkn : (k : Int) < (n : Int) := by omega
      go_wp2
      go_quiet (fail)
      go_wp2
      go_roundw
      case rel => exact ⟨k + 1, by omega, by go_num, hd.trans ⟨_, rfl⟩⟩
      case measure => simp [intOf]; omega
    · go_wp2
      go_ret
      exact ⟨rfl, hd⟩

set_option maxRecDepth 100000 in
theorem splice_all (L zs : List Int) (h : L.length = zs.length) : splice L 0 zs = zs := by
  simp [splice, List.drop_eq_nil_of_le (Nat.le_of_eq h)]

set_option maxRecDepth 100000 in
set_option maxHeartbeats 1000000 in
theorem copied_any (A : Option Addr) (n c B : Nat) (zs : List Int) (w : World) (hA : IntsAt w B A n zs) (hB : B ≤ w.heap.size) (hn : n ≤ 1000) :
    Calls Tryz.prog 68 #[.slice A n c] w (RetRow w zs) := by
  have hl := hA.len
  subst hl
  have hmk := make_ints zs.length (by omega) w
  obtain ⟨W', hcp, hrow, hgr, -⟩ := copy_ints (w.alloc (.cells (ints (List.replicate zs.length 0)).toArray 3)) w.heap.size 0 zs.length zs.length B A zs.length c (List.replicate zs.length 0) zs (IntRow.new w _) (by simp) (hA.below ((Below.refl _ w).alloc (Nat.le_refl _) _) hB)
  have HROW : Hid (IntRow W' w.heap.size zs) := by
    show IntRow _ _ _
    have e : Nat.min zs.length zs.length = zs.length := Nat.min_self _
    rw [e, List.take_length, splice_all _ _ (by simp)] at hrow
    exact hrow
  have HB : Hid (Below w.heap.size w W') := ((Below.refl _ w).alloc (Nat.le_refl _) _).grown hgr (by simp) (fun k e => by cases e; exact Nat.le_refl _)
  have e2 : goInt (Nat.min zs.length zs.length) = .int .i64 (zs.length : Int) := by rw [show Nat.min zs.length zs.length = zs.length from Nat.min_self _]; rfl
  rw [e2] at hcp
  clear hrow hgr hA e2
  generalize ints (List.replicate zs.length 0) = Z at *
  go_enter Tryz.func68, Tryz.ntmps68
  go_wp2
  go_ret
  exact ⟨w.heap.size, Nat.le_refl _, rfl, HROW.out, HB.out⟩

set_option maxRecDepth 100000 in
set_option maxHeartbeats 1000000 in
theorem pieces_any (A : Option Addr) (n c : Nat) (w : World) :
    Calls Tryz.prog 66 #[.slice A n c] w fun e w' => e = .returned (.func (.func 100) #[] #[.pointer (some ⟨w.heap.size, 0, none⟩)]) ∧ w' = w.alloc (.cells #[.slice A n c] 27) := by
  go_enter Tryz.func66, Tryz.ntmps66
  go_wp2
  go_ret
  exact ⟨rfl, rfl⟩
end Go.Proofs.YtppbonjhckakiaaGreat.La

namespace Go.Proofs.YtppbonjhckakiaaGreat.La
open Go.RowKit Go.Shelf
attribute [local go_sem] Oper.semAt_some

def offP (k : Nat) : Nat := if k = 0 then 0 else 8 * k - 4
def lenP (k : Nat) : Nat := if k = 0 then 4 else 8
set_option maxRecDepth 100000 in
theorem offP_lt (k : Nat) (h : k < 10) : offP k + lenP k ≤ 76 ∧ offP k < 76 ∧ (lenP k = 4 ∨ lenP k = 8) := by
  unfold offP lenP
  by_cases e : k = 0
  · simp [e]
  · simp only [if_neg e]; exact ⟨by omega, by omega, Or.inr trivial⟩
set_option maxRecDepth 100000 in
theorem offP_succ (k : Nat) : offP (k + 1) = offP k + lenP k := by
  unfold offP lenP
  by_cases e : k = 0
  · simp [e]
  · simp only [if_neg e, if_neg (Nat.succ_ne_zero k)]; omega
set_option maxRecDepth 100000 in
theorem lenP_succ (k : Nat) : lenP (k + 1) = 8 := by simp [lenP]
/-- what the k-th round is handed. -/
def pieceV (g : Nat) (x : Fin 10) : Array Value := #[.int .i64 (offP x.1 : Int), .slice (some ⟨g, offP x.1, none⟩) (lenP x.1) (76 - offP x.1)]
def KpB (Bs : Nat) (W W' : World) : Prop := W'.heap[Bs]? = W.heap[Bs]?
def firsts (k : Nat) : List (Fin 10) := (List.finRange 10).take k
set_option maxRecDepth 100000 in
theorem firsts_succ (k : Nat) (h : k < 10) : firsts (k + 1) = firsts k ++ [⟨k, h⟩] := by
  unfold firsts
  rw [List.take_succ_eq_append_getElem (by simpa using h)]
  simp
set_option maxRecDepth 100000 in
theorem firsts_len (k : Nat) (h : k ≤ 10) : (firsts k).length = k := by simp [firsts, h]

set_option maxRecDepth 100000 in
set_option maxHeartbeats 2000000 in
theorem iter_any (F : Fence) (n : Nat) (h36 : F.fn 100) (hro : F.round = none) (hn : 1 ≤ n) (l Bs g : Nat) (J Jx : List (Fin 10) → World → Prop)
    (hY : ∀ pre x W1, J pre W1 → pre.length < 10 → YieldAt F (n - 1) Tryz.prog l (pieceV g x) W1 fun e W' =>
      (e = .returned (.bool true) ∧ J (pre ++ [x]) W' ∧ KpB Bs W1 W') ∨ (e = .returned (.bool false) ∧ Jx (pre ++ [x]) W'))
    (W : World) (hBs : Boxed W Bs 27 (.slice (some ⟨g, 0, none⟩) 76 76)) (h0 : J [] W) :
    CallsIn F n Tryz.prog 100 #[.func (.yield l) #[] #[], .pointer (some ⟨Bs, 0, none⟩)] W fun e W' => (∃ v, e = .returned v) ∧
      ((∃ xs, xs = firsts 10 ∧ J xs W') ∨ (∃ pre, True ∧ Jx pre W')) := by
  refine callsIn_of_wp Tryz.func100 rfl h36 ?_ hro
  simp only [Tryz.ntmps100, List.size_toArray, List.length_cons, List.length_nil, Nat.reduceAdd, Nat.reduceSub, Array.replicate_succ, Array.replicate_zero, List.push_toArray, List.append_toArray, List.nil_append, List.cons_append]
  gi_wp2
  gi_loopw [3, 4] (fun i s wr => ∃ k : Nat, k ≤ 10 ∧ i = .int .i64 (offP k : Int) ∧ s = .int .i64 (lenP k : Int) ∧ J (firsts k) wr ∧ Boxed wr Bs 27 (.slice (some ⟨g, 0, none⟩) 76 76))
    (fun i _ _ => 100 - (intOf i).toNat)
  case atStart => exact ⟨0, by omega, rfl, rfl, h0, hBs⟩
  case round =>
    obtain ⟨k, hk, rfl, rfl, hJ, hbx⟩ := hrel
    have hc := hbx.cell
    by_cases hlt : k < 10
    · obtain ⟨fn, tmps, assign, body, hy, hR⟩ := hY (firsts k) ⟨k, hlt⟩ wr hJ (by rw [firsts_len k (by omega)]; exact hlt)
      have HS := Lib.hid (offP_succ k)
      have HS2 := Lib.hid (lenP_succ k)
      have HF := Lib.hid (firsts_succ k hlt)
      have HBX := Lib.hid hbx
      obtain ⟨hf1, hf2, hf3⟩ := offP_lt k hlt
      simp only [pieceV] at hy
      generalize offP k = f at *
      generalize lenP k = z at *
      have hf4 : (f : Int) < 76 := by omega
      have hf5 : f < 76 := by omega
      have hf6 : ¬ 76 = f := by omega
      gi_wp2
      refine hR.mono ?_
      rintro e W3 (⟨rfl, hJ3, hk3⟩ | ⟨rfl, hJx3⟩)
      · have hb3 : Boxed W3 Bs 27 (.slice (some ⟨g, 0, none⟩) 76 76) := hk3.trans HBX.out
        gi_wp2
        go_roundw
        case rel => exact ⟨k + 1, by omega, by rw [HS.out]; simp, by rw [HS2.out]; rfl, by rw [HF.out]; exact hJ3, hb3⟩
        case measure => simp [intOf]; omega
      · gi_wp2
        refine bodyPost_ret (results_none rfl _ _ _) rfl ?_
        exact ⟨⟨_, rfl⟩, .inr ⟨_, trivial, hJx3⟩⟩
    · obtain rfl : k = 10 := by omega
      rw [show offP 10 = 76 from rfl, show lenP 10 = 8 from rfl]
      gi_wp2
      go_end0
      exact ⟨⟨_, rfl⟩, .inl ⟨_, rfl, hJ⟩⟩

set_option maxRecDepth 100000 in
theorem iter_stops (F : Fence) (n : Nat) (h36 : F.fn 100) (hro : F.round = none) (hn : 1 ≤ n) (Bs g : Nat) (w : World) (hBs : Boxed w Bs 27 (.slice (some ⟨g, 0, none⟩) 76 76)) :
    SeqStopsK F n Tryz.prog 100 #[.pointer (some ⟨Bs, 0, none⟩)] (pieceV g) (KpB Bs) (fun xs => xs = firsts 10) (fun _ => True) 10 w :=
  fun l J Jx W hW _ _ hY h0 => iter_any F n h36 hro hn l Bs g J Jx hY W ((hW.block Bs hBs.lt).trans hBs) h0
set_option maxRecDepth 100000 in
theorem KpB.t {Bs : Nat} {A B C : World} (h : KpB Bs A B) (k : KpB Bs B C) : KpB Bs A C := k.trans h
set_option maxRecDepth 100000 in
theorem KpB.b {Bs : Nat} {w : World} (hB : Bs < w.heap.size) (W : World) (l : Nat) (o o' : Obj) (hl : w.heap.size ≤ l) (_ : W.heap[l]? = some o) (_ : o.isCells = false) (_ : o.isWalk = false) : KpB Bs W (W.putObj l o') :=
  World.putObj_heap_other (by omega)
end Go.Proofs.YtppbonjhckakiaaGreat.La
