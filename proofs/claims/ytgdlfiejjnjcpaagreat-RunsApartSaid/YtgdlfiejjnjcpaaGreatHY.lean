/-
  WALKS: slices.Chunk of ints, and THE ITERATOR: the chunks of three ints, in order, for every loop body that keeps the iterator's own variables. Conditions: at most 14000 of them.
-/
import Derived.Test.YtgdlfiejjnjcpaaGreatSOf
import Derived.RangeFuncNested
import Derived.RangeFuncBound
import Derived.RangeFuncCalls
import Derived.RangeFuncLeaves
import Derived.RangeFuncBox
import Derived.Shelf.Abstract
import Derived.Shelf.RegionOpen
import Derived.WalkKit
import Derived.OwnWalkIn
import Derived.TacticsInMore
import Derived.LoopNIn
import Derived.LoopIn
set_option maxRecDepth 100000
namespace Go.Proofs.YtgdlfiejjnjcpaaGreat.Ci
open Go.RowKit Go.Shelf
attribute [local go_sem] Oper.semAt_some

set_option maxHeartbeats 1000000 in
theorem chunk_any (A : Option Addr) (n c : Nat) (w : World) :
    Calls Tryz.prog 107 #[.slice A n c, .int .i64 3] w fun e w' => e = .returned (.func (.func 139) #[] #[.pointer (some ⟨w.heap.size, 0, none⟩), .pointer (some ⟨w.heap.size + 1, 0, none⟩)]) ∧ w' = (w.alloc (.cells #[.slice A n c] 27)).alloc (.cells #[.int .i64 3] 3) := by
  have n1 : ((w.alloc (.cells #[.slice A n c] 27)).alloc (.cells #[.int .i64 3] 3)).cell? ⟨w.heap.size + 1, 0, none⟩ = some (.int .i64 3) := by
    have := cell_new (w.alloc (.cells #[.slice A n c] 27)) #[.int .i64 3] 3 0 rfl
    rwa [show (w.alloc (.cells #[.slice A n c] 27)).heap.size = w.heap.size + 1 by simp] at this
  go_enter Tryz.func107, Tryz.ntmps107
  go_wp2
  go_ret
  exact ⟨rfl, rfl⟩

/-- how long the k-th chunk is. -/
def lenC (n k : Nat) : Nat := min 3 (n - 3 * k)
/-- what the k-th round is handed. -/
def chunkV (b o n : Nat) {q : Nat} (x : Fin q) : Array Value := #[.slice (some ⟨b, o + 3 * x.1, none⟩) (lenC n x.1) (lenC n x.1)]
def KpC (B1 B2 : Nat) (W W' : World) : Prop := W'.heap[B1]? = W.heap[B1]? ∧ W'.heap[B2]? = W.heap[B2]?
def firstsC (q k : Nat) : List (Fin q) := (List.finRange q).take k
theorem firstsC_succ {q : Nat} (k : Nat) (h : k < q) : firstsC q (k + 1) = firstsC q k ++ [⟨k, h⟩] := by
  unfold firstsC
  rw [List.take_succ_eq_append_getElem (by simpa using h)]
  simp
theorem firstsC_len {q : Nat} (k : Nat) (h : k ≤ q) : (firstsC q k).length = k := by simp [firstsC, h]

set_option maxRecDepth 100000 in
set_option maxHeartbeats 1400000 in
theorem iterC_any (F : Fence) (n : Nat) (h49 : F.fn 139) (hro : F.round = none) (hn : 1 ≤ n) (l B1 B2 b o q m c : Nat) (hc : m ≤ c) (hm : m ≤ 14000) (hqm : ∀ k, k < q ↔ 3 * k < m) (J Jx : List (Fin q) → World → Prop)
    (hJA : ∀ pre (W : World), J pre W → J pre W.drew)
    (hY : ∀ pre x W1, J pre W1 → pre.length < q → YieldAt F (n - 1) Tryz.prog l (chunkV b o m x) W1 fun e W' =>
      (e = .returned (.bool true) ∧ J (pre ++ [x]) W' ∧ KpC B1 B2 W1 W') ∨ (e = .returned (.bool false) ∧ Jx (pre ++ [x]) W'))
    (W : World) (hB1 : Boxed W B1 27 (.slice (some ⟨b, o, none⟩) m c)) (hB2 : Boxed W B2 3 (.int .i64 3)) (h0 : J [] W) :
    CallsIn F n Tryz.prog 139 #[.func (.yield l) #[] #[], .pointer (some ⟨B1, 0, none⟩), .pointer (some ⟨B2, 0, none⟩)] W fun e W' => (∃ v, e = .returned v) ∧
      ((∃ xs, xs = firstsC q q ∧ J xs W') ∨ (∃ pre, True ∧ Jx pre W')) := by
  refine callsIn_of_wp Tryz.func139 rfl h49 ?_ hro
  simp only [Tryz.ntmps139, List.size_toArray, List.length_cons, List.length_nil, Nat.reduceAdd, Nat.reduceSub, Array.replicate_succ, Array.replicate_zero, List.push_toArray, List.append_toArray, List.nil_append, List.cons_append]
  have HQM := Lib.hid hqm
  have hqb : q ≤ 5000 := by
    rcases Nat.lt_or_ge 5000 q with h | h
    · have := (hqm 5000).1 h; omega
    · exact h
  clear hqm
  gi_wp2
  gi_loopw [4, 5] (fun i _ wr => ∃ k : Nat, k ≤ q ∧ i = .int .i64 ((3 * k : Nat) : Int) ∧ J (firstsC q k) wr ∧ Boxed wr B1 27 (.slice (some ⟨b, o, none⟩) m c) ∧ Boxed wr B2 3 (.int .i64 3))
    (fun i _ _ => 50000 - (intOf i).toNat)
  case atStart => exact ⟨0, by omega, rfl, h0, hB1, hB2⟩
  case round =>
    obtain ⟨k, hk, rfl, hJ, hbx, hby⟩ := hrel
    have hc1 := hbx.cell
    have hc2 := hby.cell
    by_cases hlt : k < q
    · obtain ⟨fn, tmps, assign, body, hy, hR⟩ := hY (firstsC q k) ⟨k, hlt⟩ wr.drew (hJA _ _ hJ) (by rw [firstsC_len k (by omega)]; exact hlt)
      have HF := Lib.hid (firstsC_succ k hlt)
      have HBX := Lib.hid hbx
      have HBY := Lib.hid hby
      have d1 : wr.drew.cell? ⟨B1, 0, none⟩ = some (.slice (some ⟨b, o, none⟩) m c) := hc1
      have d2 : wr.drew.cell? ⟨B2, 0, none⟩ = some (.int .i64 3) := hc2
      simp only [chunkV] at hy
      have HX : Hid (3 * (k + 1) = 3 * k + 3) := by show _ = _; omega
      have hxm := (HQM.out k).1 hlt
      have hle : lenC m k = min 3 (m - 3 * k) := rfl
      generalize lenC m k = e at *
      generalize 3 * k = x at *
      have he1 : e ≤ 3 := by omega
      have he2 : e ≤ m - x := by omega
      have he3 : 0 < e := by omega
      have HLE := Lib.hid hle
      clear hle
      have x1 : (0 : Int) ≤ (x : Int) := by omega
      have x2 : (x : Int) < (m : Int) := by omega
      have x3 : ¬ c = x := by omega
      have x4 : (x : Int) ≤ (m : Int) := by omega
      have x5 : (x : Int) + (e : Int) ≤ (m : Int) := by omega
      have x6 : (x : Int) + (e : Int) ≤ (c : Int) := by omega
      have x7 : ((x : Int) + (e : Int)).toNat = x + e := by omega
      have x8 : x ≤ x + e := by omega
      have x9 : x + e ≤ c := by omega
      have x10 : x + e - x = e := by omega
      have x11 : ¬ e = 0 := by omega
      have hmin : min (3 : Int) ((m - x : Nat) : Int) = (e : Int) := by have := HLE.out; omega
      gi_wp2
      refine (fun (hmeet : PLift (?goalMeet : Prop)) => ?bodyMeet) (PLift.up ?restMeet)
      case bodyMeet =>
        gi_region
        all_goals exact hmeet.down
      case restMeet =>
        gi_wp2
        refine hR.mono ?_
        rintro e W3 (⟨rfl, hJ3, hk3⟩ | ⟨rfl, hJx3⟩)
        · have hb3 : Boxed W3 B1 27 (.slice (some ⟨b, o, none⟩) m c) := hk3.1.trans HBX.out
          have hb4 : Boxed W3 B2 3 (.int .i64 3) := hk3.2.trans HBY.out
          have hc3 := hb4.cell
          gi_wp2
          go_roundw
          case rel => exact ⟨k + 1, by omega, by rw [HX.out]; go_num, by rw [HF.out]; exact hJ3, hb3, hb4⟩
          case measure => simp [intOf]; omega
        · gi_wp2
          refine bodyPost_ret (results_none rfl _ _ _) rfl ?_
          exact ⟨⟨_, rfl⟩, .inr ⟨_, trivial, hJx3⟩⟩
    · obtain rfl : k = q := by omega
      have x0 : ¬ 3 * k < m := fun h => hlt ((HQM.out k).2 h)
      have x1 : ¬ ((3 * k : Nat) : Int) < (m : Int) := by omega
      generalize 3 * k = y at *
      gi_wp2
      go_end0
      first
        | exact ⟨⟨_, rfl⟩, .inl ⟨_, rfl, hJ⟩⟩
        | exact ⟨⟨_, rfl⟩, .inl hJ⟩
theorem iterC_none (F : Fence) (n : Nat) (h49 : F.fn 139) (hro : F.round = none) (l B1 B2 : Nat) (A : Option Addr) (c : Nat)
    (W : World) (hB1 : Boxed W B1 27 (.slice A 0 c)) (J : List (Fin 0) → World → Prop) (h0 : J [] W) :
    CallsIn F n Tryz.prog 139 #[.func (.yield l) #[] #[], .pointer (some ⟨B1, 0, none⟩), .pointer (some ⟨B2, 0, none⟩)] W fun e W' => (∃ v, e = .returned v) ∧ J [] W' := by
  refine callsIn_of_wp Tryz.func139 rfl h49 ?_ hro
  simp only [Tryz.ntmps139, List.size_toArray, List.length_cons, List.length_nil, Nat.reduceAdd, Nat.reduceSub, Array.replicate_succ, Array.replicate_zero, List.push_toArray, List.append_toArray, List.nil_append, List.cons_append]
  have hc1 := hB1.cell
  gi_wp2
  gi_loopw [4, 5] (fun i _ wr => i = .int .i64 0 ∧ wr = W) (fun i _ _ => 1)
  case atStart => exact ⟨rfl, rfl⟩
  case round =>
    obtain ⟨rfl, rfl⟩ := hrel
    gi_wp2
    go_end0
    exact ⟨⟨_, rfl⟩, h0⟩

theorem iterC_stops (F : Fence) (n : Nat) (h49 : F.fn 139) (hro : F.round = none) (hn : 1 ≤ n) (B1 B2 b o q m c : Nat) (hc : m ≤ c) (hm : m ≤ 14000) (hqm : ∀ k, k < q ↔ 3 * k < m) (w : World) (hB1 : Boxed w B1 27 (.slice (some ⟨b, o, none⟩) m c)) (hB2 : Boxed w B2 3 (.int .i64 3)) :
    SeqStopsK F n Tryz.prog 139 #[.pointer (some ⟨B1, 0, none⟩), .pointer (some ⟨B2, 0, none⟩)] (chunkV b o m (q := q)) (KpC B1 B2) (fun xs => xs = firstsC q q) (fun _ => True) q w :=
  fun l J Jx W hW hJ _ hY h0 => iterC_any F n h49 hro hn l B1 B2 b o q m c hc hm hqm J Jx
    (fun pre W2 h => hJ pre W2 W2.drew none h ⟨rfl, rfl, rfl, Nat.le_refl _, fun _ _ _ => rfl⟩ (fun r e => by cases e)) hY W ((hW.block B1 hB1.lt).trans hB1) ((hW.block B2 hB2.lt).trans hB2) h0
theorem KpC.t {B1 B2 : Nat} {A B C : World} (h : KpC B1 B2 A B) (k : KpC B1 B2 B C) : KpC B1 B2 A C := ⟨k.1.trans h.1, k.2.trans h.2⟩
theorem KpC.b {B1 B2 : Nat} {w : World} (h1 : B1 < w.heap.size) (h2 : B2 < w.heap.size) (W : World) (l : Nat) (o o' : Obj) (hl : w.heap.size ≤ l) (_ : W.heap[l]? = some o) (_ : o.isCells = false) (_ : o.isWalk = false) : KpC B1 B2 W (W.putObj l o') :=
  ⟨World.putObj_heap_other (by omega), World.putObj_heap_other (by omega)⟩
end Go.Proofs.YtgdlfiejjnjcpaaGreat.Ci
