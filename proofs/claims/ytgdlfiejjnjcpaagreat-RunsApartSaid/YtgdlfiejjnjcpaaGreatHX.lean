/-
  WALKS: slices.Chunk of spans, and THE ITERATOR: the chunks of twenty spans, in order, for every loop body that keeps the iterator's own variables; slices.AppendSeq, slices.Collect over them. Conditions: at most 40000 of them.
-/
import Derived.Test.YtgdlfiejjnjcpaaGreatSOf
import Derived.RangeFuncNested
import Derived.RangeFuncBound
import Derived.RangeFuncCalls
import Derived.RangeFuncLeaves
import Derived.RangeFuncBox
import Derived.Shelf.Abstract
import Derived.Shelf.RegionOpen
import Derived.WalkKit
import Derived.OwnWalkIn
import Derived.TacticsInMore
import Derived.LoopNIn
import Derived.LoopIn
set_option maxRecDepth 100000
namespace Go.Proofs.YtgdlfiejjnjcpaaGreat.Cs
open Go.RowKit Go.Shelf
attribute [local go_sem] Oper.semAt_some
theorem infoL : (Tryz.prog.info? 28).map (fun i => (i.zero, i.size, i.bytes)) = some (some (.slice none 0 0), 1, 24) := by kernel_rfl

set_option maxHeartbeats 1000000 in
theorem chunk_any (A : Option Addr) (n c : Nat) (w : World) :
    Calls Tryz.prog 39 #[.slice A n c, .int .i64 20] w fun e w' => e = .returned (.func (.func 68) #[] #[.pointer (some ⟨w.heap.size, 0, none⟩), .pointer (some ⟨w.heap.size + 1, 0, none⟩)]) ∧ w' = (w.alloc (.cells #[.slice A n c] 28)).alloc (.cells #[.int .i64 20] 3) := by
  have n1 : ((w.alloc (.cells #[.slice A n c] 28)).alloc (.cells #[.int .i64 20] 3)).cell? ⟨w.heap.size + 1, 0, none⟩ = some (.int .i64 20) := by
    have := cell_new (w.alloc (.cells #[.slice A n c] 28)) #[.int .i64 20] 3 0 rfl
    rwa [show (w.alloc (.cells #[.slice A n c] 28)).heap.size = w.heap.size + 1 by simp] at this
  go_enter Tryz.func39, Tryz.ntmps39
  go_wp2
  go_ret
  exact ⟨rfl, rfl⟩

/-- how long the k-th chunk is. -/
def lenC (n k : Nat) : Nat := min 20 (n - 20 * k)
/-- what the k-th round is handed. -/
def chunkV (b o n : Nat) {q : Nat} (x : Fin q) : Array Value := #[.slice (some ⟨b, o + 20 * x.1 * 3, none⟩) (lenC n x.1) (lenC n x.1)]
def KpC (B1 B2 : Nat) (W W' : World) : Prop := W'.heap[B1]? = W.heap[B1]? ∧ W'.heap[B2]? = W.heap[B2]?
def firstsC (q k : Nat) : List (Fin q) := (List.finRange q).take k
theorem firstsC_succ {q : Nat} (k : Nat) (h : k < q) : firstsC q (k + 1) = firstsC q k ++ [⟨k, h⟩] := by
  unfold firstsC
  rw [List.take_succ_eq_append_getElem (by simpa using h)]
  simp
theorem firstsC_len {q : Nat} (k : Nat) (h : k ≤ q) : (firstsC q k).length = k := by simp [firstsC, h]

set_option maxRecDepth 100000 in
set_option maxHeartbeats 4000000 in
theorem iterC_any (F : Fence) (n : Nat) (h49 : F.fn 68) (hro : F.round = none) (hn : 1 ≤ n) (l B1 B2 b o q m c : Nat) (hc : m ≤ c) (hm : m ≤ 40000) (hqm : ∀ k, k < q ↔ 20 * k < m) (J Jx : List (Fin q) → World → Prop)
    (hJA : ∀ pre (W : World), J pre W → J pre W.drew)
    (hY : ∀ pre x W1, J pre W1 → pre.length < q → YieldAt F (n - 1) Tryz.prog l (chunkV b o m x) W1 fun e W' =>
      (e = .returned (.bool true) ∧ J (pre ++ [x]) W' ∧ KpC B1 B2 W1 W') ∨ (e = .returned (.bool false) ∧ Jx (pre ++ [x]) W'))
    (W : World) (hB1 : Boxed W B1 28 (.slice (some ⟨b, o, none⟩) m c)) (hB2 : Boxed W B2 3 (.int .i64 20)) (h0 : J [] W) :
    CallsIn F n Tryz.prog 68 #[.func (.yield l) #[] #[], .pointer (some ⟨B1, 0, none⟩), .pointer (some ⟨B2, 0, none⟩)] W fun e W' => (∃ v, e = .returned v) ∧
      ((∃ xs, xs = firstsC q q ∧ J xs W') ∨ (∃ pre, True ∧ Jx pre W')) := by
  refine callsIn_of_wp Tryz.func68 rfl h49 ?_ hro
  simp only [Tryz.ntmps68, List.size_toArray, List.length_cons, List.length_nil, Nat.reduceAdd, Nat.reduceSub, Array.replicate_succ, Array.replicate_zero, List.push_toArray, List.append_toArray, List.nil_append, List.cons_append]
  have HQM := Lib.hid hqm
  have hqb : q ≤ 5000 := by
    rcases Nat.lt_or_ge 5000 q with h | h
    · have := (hqm 5000).1 h; omega
    · exact h
  clear hqm
  gi_wp2
  gi_loopw [4, 5] (fun i _ wr => ∃ k : Nat, k ≤ q ∧ i = .int .i64 ((20 * k : Nat) : Int) ∧ J (firstsC q k) wr ∧ Boxed wr B1 28 (.slice (some ⟨b, o, none⟩) m c) ∧ Boxed wr B2 3 (.int .i64 20))
    (fun i _ _ => 50000 - (intOf i).toNat)
  case atStart => exact ⟨0, by omega, rfl, h0, hB1, hB2⟩
  case round =>
    obtain ⟨k, hk, rfl, hJ, hbx, hby⟩ := hrel
    have hc1 := hbx.cell
    have hc2 := hby.cell
    by_cases hlt : k < q
    · obtain ⟨fn, tmps, assign, body, hy, hR⟩ := hY (firstsC q k) ⟨k, hlt⟩ wr.drew (hJA _ _ hJ) (by rw [firstsC_len k (by omega)]; exact hlt)
      have HF := Lib.hid (firstsC_succ k hlt)
      have HBX := Lib.hid hbx
      have HBY := Lib.hid hby
      have d1 : wr.drew.cell? ⟨B1, 0, none⟩ = some (.slice (some ⟨b, o, none⟩) m c) := hc1
      have d2 : wr.drew.cell? ⟨B2, 0, none⟩ = some (.int .i64 20) := hc2
      simp only [chunkV] at hy
      have HX : Hid (20 * (k + 1) = 20 * k + 20) := by show _ = _; omega
      have hxm := (HQM.out k).1 hlt
      have hle : lenC m k = min 20 (m - 20 * k) := rfl
      generalize lenC m k = e at *
      generalize 20 * k = x at *
      have he1 : e ≤ 20 := by omega
      have he2 : e ≤ m - x := by omega
      have he3 : 0 < e := by omega
      have HLE := Lib.hid hle
      clear hle
      have x1 : (0 : Int) ≤ (x : Int) := by omega
      have x2 : (x : Int) < (m : Int) := by omega
      have x3 : ¬ c = x := by omega
      have x4 : (x : Int) ≤ (m : Int) := by omega
      have x5 : (x : Int) + (e : Int) ≤ (m : Int) := by omega
      have x6 : (x : Int) + (e : Int) ≤ (c : Int) := by omega
      have x7 : ((x : Int) + (e : Int)).toNat = x + e := by omega
      have x8 : x ≤ x + e := by omega
      have x9 : x + e ≤ c := by omega
      have x10 : x + e - x = e := by omega
      have x11 : ¬ e = 0 := by omega
      have hmin : min (20 : Int) ((m - x : Nat) : Int) = (e : Int) := by have := HLE.out; omega
      gi_wp2
      refine (fun (hmeet : PLift (?goalMeet : Prop)) => ?bodyMeet) (PLift.up ?restMeet)
      case bodyMeet =>
        gi_region
        all_goals exact hmeet.down
      case restMeet =>
        gi_wp2
        refine hR.mono ?_
        rintro e W3 (⟨rfl, hJ3, hk3⟩ | ⟨rfl, hJx3⟩)
        · have hb3 : Boxed W3 B1 28 (.slice (some ⟨b, o, none⟩) m c) := hk3.1.trans HBX.out
          have hb4 : Boxed W3 B2 3 (.int .i64 20) := hk3.2.trans HBY.out
          have hc3 := hb4.cell
          gi_wp2
          go_roundw
          case rel => exact ⟨k + 1, by omega, by rw [HX.out]; go_num, by rw [HF.out]; exact hJ3, hb3, hb4⟩
          case measure => simp [intOf]; omega
        · gi_wp2
          refine bodyPost_ret (results_none rfl _ _ _) rfl ?_
          exact ⟨⟨_, rfl⟩, .inr ⟨_, trivial, hJx3⟩⟩
    · obtain rfl : k = q := by omega
      have x0 : ¬ 20 * k < m := fun h => hlt ((HQM.out k).2 h)
      have x1 : ¬ ((20 * k : Nat) : Int) < (m : Int) := by omega
      generalize 20 * k = y at *
      gi_wp2
      go_end0
      first
        | exact ⟨⟨_, rfl⟩, .inl ⟨_, rfl, hJ⟩⟩
        | exact ⟨⟨_, rfl⟩, .inl hJ⟩
theorem iterC_none (F : Fence) (n : Nat) (h49 : F.fn 68) (hro : F.round = none) (l B1 B2 : Nat) (A : Option Addr) (c : Nat)
    (W : World) (hB1 : Boxed W B1 28 (.slice A 0 c)) (J : List (Fin 0) → World → Prop) (h0 : J [] W) :
    CallsIn F n Tryz.prog 68 #[.func (.yield l) #[] #[], .pointer (some ⟨B1, 0, none⟩), .pointer (some ⟨B2, 0, none⟩)] W fun e W' => (∃ v, e = .returned v) ∧ J [] W' := by
  refine callsIn_of_wp Tryz.func68 rfl h49 ?_ hro
  simp only [Tryz.ntmps68, List.size_toArray, List.length_cons, List.length_nil, Nat.reduceAdd, Nat.reduceSub, Array.replicate_succ, Array.replicate_zero, List.push_toArray, List.append_toArray, List.nil_append, List.cons_append]
  have hc1 := hB1.cell
  gi_wp2
  gi_loopw [4, 5] (fun i _ wr => i = .int .i64 0 ∧ wr = W) (fun i _ _ => 1)
  case atStart => exact ⟨rfl, rfl⟩
  case round =>
    obtain ⟨rfl, rfl⟩ := hrel
    gi_wp2
    go_end0
    exact ⟨⟨_, rfl⟩, h0⟩

theorem iterC_stops (F : Fence) (n : Nat) (h49 : F.fn 68) (hro : F.round = none) (hn : 1 ≤ n) (B1 B2 b o q m c : Nat) (hc : m ≤ c) (hm : m ≤ 40000) (hqm : ∀ k, k < q ↔ 20 * k < m) (w : World) (hB1 : Boxed w B1 28 (.slice (some ⟨b, o, none⟩) m c)) (hB2 : Boxed w B2 3 (.int .i64 20)) :
    SeqStopsK F n Tryz.prog 68 #[.pointer (some ⟨B1, 0, none⟩), .pointer (some ⟨B2, 0, none⟩)] (chunkV b o m (q := q)) (KpC B1 B2) (fun xs => xs = firstsC q q) (fun _ => True) q w :=
  fun l J Jx W hW hJ _ hY h0 => iterC_any F n h49 hro hn l B1 B2 b o q m c hc hm hqm J Jx
    (fun pre W2 h => hJ pre W2 W2.drew none h ⟨rfl, rfl, rfl, Nat.le_refl _, fun _ _ _ => rfl⟩ (fun r e => by cases e)) hY W ((hW.block B1 hB1.lt).trans hB1) ((hW.block B2 hB2.lt).trans hB2) h0
theorem KpC.t {B1 B2 : Nat} {A B C : World} (h : KpC B1 B2 A B) (k : KpC B1 B2 B C) : KpC B1 B2 A C := ⟨k.1.trans h.1, k.2.trans h.2⟩
theorem KpC.b {B1 B2 : Nat} {w : World} (h1 : B1 < w.heap.size) (h2 : B2 < w.heap.size) (W : World) (l : Nat) (o o' : Obj) (hl : w.heap.size ≤ l) (_ : W.heap[l]? = some o) (_ : o.isCells = false) (_ : o.isWalk = false) : KpC B1 B2 W (W.putObj l o') :=
  ⟨World.putObj_heap_other (by omega), World.putObj_heap_other (by omega)⟩

theorem grown_below {w w' : World} (h : Below w.heap.size w w') : w.grownBy w' none := ⟨h.os, h.tape, h.output, h.size, fun k hk _ => h.block k hk⟩
theorem row_tag {w : World} {base n sz : Nat} {e : TypeId} {v : Value} {xs : List Value} (h : w.ownsRow base e sz v n xs) {b : Nat} (hb : v.ownBlock = some b) : ∃ cs, w.heap[b]? = some (.cells cs e (0, 0)) := by
  rcases h.2 with ⟨rfl, -⟩ | ⟨g, cap, cur, rfl, _, hg, _⟩
  · simp [Value.ownBlock] at hb
  · have : g = b := by simpa [Value.ownBlock] using hb
    subst this
    exact ⟨cur, hg⟩
def chunkVal (b o m : Nat) {q : Nat} (x : Fin q) : Value := .slice (some ⟨b, o + 20 * x.1 * 3, none⟩) (lenC m x.1) (lenC m x.1)
theorem chunkVal_one (b o m : Nat) {q : Nat} (x : Fin q) : ∀ u ∈ [chunkVal b o m x], u.oneCell' = true := by
  intro u hu
  obtain rfl : u = chunkVal b o m x := by simpa using hu
  rfl
/-- the end of a round: the page is appended, the row stored in its box. -/
theorem seq_end {w W W6 : World} {N p B1 B2 m : Nat} {v v' : Value} {xs ys : List Value} {u : Value} (hbox : Boxed W p 79 v) (hrow : W.ownsRow N 28 1 v m xs) (hN : N ≤ W.heap.size) (hb : Below w.heap.size w W)
    (hp : w.heap.size ≤ p) (hpN : p < N) (h1 : B1 < N) (h2 : B2 < N) (hp1 : B1 ≠ p) (hp2 : B2 ≠ p)
    (hg : (W.alloc (.cells #[u] 28)).grownBy W6 v.ownBlock) (hr : W6.ownsRow N 28 1 v' (m + 1) ys) :
    KeepsOthers W (W6.setCell ⟨p, 0, none⟩ v') ∧ KpC B1 B2 W (W6.setCell ⟨p, 0, none⟩ v') ∧ Boxed (W6.setCell ⟨p, 0, none⟩ v') p 79 v' ∧ (W6.setCell ⟨p, 0, none⟩ v').ownsRow N 28 1 v' (m + 1) ys ∧
      N ≤ (W6.setCell ⟨p, 0, none⟩ v').heap.size ∧ Below w.heap.size w (W6.setCell ⟨p, 0, none⟩ v') := by
  have hba : Below W.heap.size W (W.alloc (.cells #[u] 28)) := (Below.refl _ _).alloc (Nat.le_refl _) _
  have hga := grown_below hba
  have hrowa := own_below hrow hba (Nat.le_refl _)
  have hlow : ∀ k, k < N → W6.heap[k]? = W.heap[k]? := fun k hk => by
    rw [hg.block k (by have := hba.size; omega) (fun e => by have := (hrowa.lt k e.symm).1; omega)]
    exact hba.block k (by omega)
  have hbox6 : Boxed W6 p 79 v := (hlow p hpN).trans hbox
  refine ⟨((KeepsOthers.of_grownBy hga (fun j o e => by cases e)).trans (KeepsOthers.of_grownBy hg fun j o e ho => ?_)).trans (KeepsOthers.setCell _ _ _), ⟨?_, ?_⟩, hbox6.set v', ?_, ?_, ?_⟩
  · obtain ⟨cs, hcs⟩ := row_tag hrowa e
    rw [hcs] at ho; cases ho; rfl
  · rw [heap_setCell_other _ _ _ _ (by exact hp1)]; exact hlow B1 h1
  · rw [heap_setCell_other _ _ _ _ (by exact hp2)]; exact hlow B2 h2
  · exact hr.kept (grownBy_setCell' _ _ _) (Or.inr fun e => by have := (hr.lt p e).1; omega)
  · have := (grownBy_setCell' W6 p v').size; have := hg.size; have := hba.size; omega
  · exact ((hb.trans (hba.mono hb.size)).grown hg (by have := hba.size; have := hb.size; omega) (fun k e => by have := (hrowa.lt k e).1; have := hb.size; omega)).setCell hp _

/-- the state behind the chunks pre: the row of pages in its box, what lies below. -/
def SeqAt (w : World) (N p b o m : Nat) {q : Nat} (pre : List (Fin q)) (W : World) : Prop :=
  (∃ v, Boxed W p 79 v ∧ W.ownsRow N 28 1 v pre.length (pre.map (chunkVal b o m)) ∧ True) ∧ N ≤ W.heap.size ∧ Below w.heap.size w W
theorem SeqAt.own (w : World) (N p b o m : Nat) {q : Nat} {C : Nat} (hC : w.heap.size ≤ C) : OwnFrom C (SeqAt w N p b o m (q := q)) :=
  ((holdsRow_own N p 79 28 1 (fun pre : List (Fin q) => pre.length) (fun pre => pre.map (chunkVal b o m)) (fun _ _ => True)).from C).and
    (fun _ _ _ _ hs hg hr => ⟨Nat.le_trans hs.1 hg.size, hs.2.grown hg hs.2.size (fun k e => Nat.le_trans hC (hr k e).1)⟩)
def RetVals (w : World) (xs : List Value) (e : Ending) (w' : World) : Prop := ∃ v, e = .returned v ∧ w'.ownsRow w.heap.size 28 1 v xs.length xs ∧ Below w.heap.size w w'

set_option maxRecDepth 100000 in
set_option maxHeartbeats 8000000 in
theorem appendSeq_any (B1 B2 b o q m c : Nat) (hc : m ≤ c) (hm : m ≤ 40000) (hqm : ∀ k, k < q ↔ 20 * k < m) (w : World) (hB1 : Boxed w B1 28 (.slice (some ⟨b, o, none⟩) m c)) (hB2 : Boxed w B2 3 (.int .i64 20)) :
    Calls Tryz.prog 67 #[.slice none 0 0, .func (.func 68) #[] #[.pointer (some ⟨B1, 0, none⟩), .pointer (some ⟨B2, 0, none⟩)]] w (RetVals w ((List.finRange q).map (chunkVal b o m))) := by
  have hl1 := hB1.lt
  have hl2 := hB2.lt
  refine (callsIn_wide (n := 5)).1 ?_
  refine callsIn_of_wp_marks Tryz.func67 rfl trivial ?_ rfl
  simp only [Tryz.ntmps67, List.size_toArray, List.length_cons, List.length_nil, Nat.reduceAdd, Nat.reduceSub, Array.replicate_succ, Array.replicate_zero, List.push_toArray, List.append_toArray, List.nil_append, List.cons_append]
  gi_wp2
  obtain ⟨W0, hW0⟩ : ∃ W0, (w.alloc (.cells #[.slice none 0 0] 79)) = W0 := ⟨_, rfl⟩
  have hsz : W0.heap.size = w.heap.size + 1 := by rw [← hW0]; simp
  have hbP : Boxed W0 w.heap.size 79 (.slice none 0 0) := by rw [← hW0]; exact Boxed.new w 79 _
  have hb1 : Boxed W0 B1 28 (.slice (some ⟨b, o, none⟩) m c) := by rw [← hW0]; exact hB1.alloc _
  have hb2 : Boxed W0 B2 3 (.int .i64 20) := by rw [← hW0]; exact hB2.alloc _
  have hB0 : Below w.heap.size w W0 := by rw [← hW0]; exact (Below.refl _ _).alloc (Nat.le_refl _) _
  rw [hW0]
  clear hW0
  have hszl : w.heap.size < W0.heap.size := by omega
  clear hsz
  refine wpIn_rangeFunc_ownF rfl (by omega) (gf := 68) (lb := #[.pointer (some ⟨B1, 0, none⟩), .pointer (some ⟨B2, 0, none⟩)]) rfl trivial (enters_of Tryz.func68 (by kernel_rfl) rfl)
    (iterC_stops Fence.wide _ trivial rfl (by omega) B1 B2 b o q m c hc hm hqm W0 hb1 hb2) KpC.t (KpC.b (by omega) (by omega)) (Below.refl _ _) (fun _ => rfl)
    (SeqAt w W0.heap.size w.heap.size b o m (q := q)) (fun _ _ _ => False) (SeqAt.own w _ _ b o m (by omega)) (fun _ _ _ _ _ hs _ _ => hs)
    ⟨⟨_, hbP, World.ownsRow_nil _ _ _ _, trivial⟩, Nat.le_refl _, hB0⟩
    (fun x => { tmps := #[.slice none 0 0, .func (.func 68) #[] #[.pointer (some ⟨B1, 0, none⟩), .pointer (some ⟨B2, 0, none⟩)], .pointer (some ⟨w.heap.size, 0, none⟩), undef, .slice none 0 0, chunkVal b o m x, .func (.func 68) #[] #[.pointer (some ⟨B1, 0, none⟩), .pointer (some ⟨B2, 0, none⟩)], chunkVal b o m x, undef, undef, undef, undef, undef], defers := [] })
    ?assign ?body ?done ?stop
  case assign =>
    intro l x W K hK
    simp only [chunkV]
    gi_wp2
    exact hK
  case body =>
    rintro lr pre x W ⟨⟨v, hbox, hrow, -⟩, hsz', hb'⟩ hpq
    have HBOX := Lib.hid hbox
    have HROW := Lib.hid hrow
    have HB := Lib.hid hb'
    have hcell := hbox.cell
    have HLX := Lib.hid (chunkVal_one b o m x)
    have HPRE : Hid (((pre ++ [x]).map (chunkVal b o m)) = pre.map (chunkVal b o m) ++ [chunkVal b o m x]) := by show _ = _; simp
    have HPL : Hid ((pre ++ [x]).length = pre.length + 1) := by show _ = _; simp
    have hpl : pre.length ≤ 100000 := by
      rcases Nat.lt_or_ge 100000 q with h | h
      · have := (hqm 100000).1 h; omega
      · omega
    have HSE := Lib.hid (fun W6 v' ys hg hr => seq_end (w := w) (W := W) (W6 := W6) (N := W0.heap.size) (p := w.heap.size) (B1 := B1) (B2 := B2) (m := pre.length) (v := v) (v' := v') (ys := ys) (u := chunkVal b o m x) hbox hrow hsz' hb' (Nat.le_refl _) (by omega) (by omega) (by omega) (by omega) (by omega) hg hr)
    clear hbox hrow hb'
    simp only [chunkVal] at HLX HPRE HSE HROW ⊢
    generalize pre.map (chunkVal b o m) = xs at *
    generalize o + 20 * x.1 * 3 = ox at *
    generalize lenC m x.1 = e at *
    obtain ⟨i0, hi, hz0, hz1, hz2⟩ := info_parts infoL
    gi_wp2_with (gi_at_builtin; refine wpListIn_append_own _ rfl (.tmp 8) (.tmp 10) 79 rfl W0.heap.size 28 i0 _ 1 24 Tryz.underlying79 hi hz0 hz1 hz2 rfl (by decide) v pre.length xs rfl (HROW.out.alloc _) ⟨W.heap.size, 0, none⟩ 1 1 [.slice (some ⟨b, ox, none⟩) e e] rfl rfl (World.news_of_block (heap_alloc_new W _)) HLX.out (by unfold maxLen; omega) (by omega) (by simp; omega) ?_)
    intro v' w6 ho6 hg6 _
    have HQ := Lib.hid (HSE.out w6 v' _ hg6 ho6)
    have hbx6 : Boxed w6 w.heap.size 79 v := by
      have hb3 := HBOX.out.alloc (.cells #[.slice (some ⟨b, ox, none⟩) e e] 28)
      exact hb3.kept hg6 (hb3.not_row (by decide) (HROW.out.alloc _))
    obtain ⟨A6, c6, rfl, -⟩ := own_sliceE ho6
    have k6 := hbx6.cell
    have f6 := hbx6.frozen
    clear ho6 hg6 hbx6
    gi_wp2
    obtain ⟨q1, q2, q3, q4, q5, q6⟩ := HQ.out
    refine ⟨q1, q2, ⟨_, q3, ?_, trivial⟩, q5, q6⟩
    rw [HPRE.out, HPL.out]
    exact q4
  case done =>
    rintro D xs W hD rfl ⟨⟨v, hbox, hrow, -⟩, hsz', hb'⟩ hK
    have hc0 := hbox.cell
    have e1 : firstsC q q = List.finRange q := by unfold firstsC; rw [List.take_of_length_le (by simp)]
    rw [e1] at hrow
    have HROW := Lib.hid hrow
    have HB := Lib.hid hb'
    clear hrow hb' e1 hbox
    gi_wp2
    refine ⟨by simp, .inl ⟨_, _, rfl, run_takeDeferred hK, ?_⟩⟩
    refine ⟨_, results_tmp rfl _ _ _, v, rfl, ?_, ?_⟩
    · rw [List.length_map]
      exact own_base (HROW.out.kept (grownBy_putObj' W D _) (Or.inr fun e => by obtain ⟨cs, hcs⟩ := row_tag HROW.out e; rw [hK] at hcs; cases hcs)) (by omega)
    · exact HB.out.trans (belowK_b (w := w) (Nat.le_refl _) W D _ _ (by omega) hK rfl rfl)
  case stop =>
    rintro D c pre W _ _ h _
    exact h.elim
theorem iterC_zero (F : Fence) (n : Nat) (h49 : F.fn 68) (hro : F.round = none) (B1 B2 : Nat) (A : Option Addr) (c : Nat) (w : World) (hB1 : Boxed w B1 28 (.slice A 0 c)) :
    SeqStopsK F n Tryz.prog 68 #[.pointer (some ⟨B1, 0, none⟩), .pointer (some ⟨B2, 0, none⟩)] (chunkV 0 0 0 (q := 0)) (KpC B1 B2) (fun xs => xs = []) (fun _ => True) 0 w :=
  fun l J _ W hW _ _ _ h0 => (iterC_none F n h49 hro l B1 B2 A c W ((hW.block B1 hB1.lt).trans hB1) J h0).mono fun _ _ h => ⟨h.1, .inl ⟨[], rfl, h.2⟩⟩
set_option maxRecDepth 100000 in
set_option maxHeartbeats 8000000 in
theorem appendSeq_zero (B1 B2 : Nat) (A : Option Addr) (c : Nat) (w : World) (hB1 : Boxed w B1 28 (.slice A 0 c)) (hB2 : Boxed w B2 3 (.int .i64 20)) :
    Calls Tryz.prog 67 #[.slice none 0 0, .func (.func 68) #[] #[.pointer (some ⟨B1, 0, none⟩), .pointer (some ⟨B2, 0, none⟩)]] w (RetVals w []) := by
  have hl1 := hB1.lt
  have hl2 := hB2.lt
  refine (callsIn_wide (n := 5)).1 ?_
  refine callsIn_of_wp_marks Tryz.func67 rfl trivial ?_ rfl
  simp only [Tryz.ntmps67, List.size_toArray, List.length_cons, List.length_nil, Nat.reduceAdd, Nat.reduceSub, Array.replicate_succ, Array.replicate_zero, List.push_toArray, List.append_toArray, List.nil_append, List.cons_append]
  gi_wp2
  obtain ⟨W0, hW0⟩ : ∃ W0, (w.alloc (.cells #[.slice none 0 0] 79)) = W0 := ⟨_, rfl⟩
  have hsz : W0.heap.size = w.heap.size + 1 := by rw [← hW0]; simp
  have hbP : Boxed W0 w.heap.size 79 (.slice none 0 0) := by rw [← hW0]; exact Boxed.new w 79 _
  have hb1 : Boxed W0 B1 28 (.slice A 0 c) := by rw [← hW0]; exact hB1.alloc _
  have hb2 : Boxed W0 B2 3 (.int .i64 20) := by rw [← hW0]; exact hB2.alloc _
  have hB0 : Below w.heap.size w W0 := by rw [← hW0]; exact (Below.refl _ _).alloc (Nat.le_refl _) _
  rw [hW0]
  clear hW0
  have hszl : w.heap.size < W0.heap.size := by omega
  clear hsz
  refine wpIn_rangeFunc_ownF rfl (by omega) (gf := 68) (lb := #[.pointer (some ⟨B1, 0, none⟩), .pointer (some ⟨B2, 0, none⟩)]) rfl trivial (enters_of Tryz.func68 (by kernel_rfl) rfl)
    (iterC_zero Fence.wide _ trivial rfl B1 B2 A c W0 hb1) KpC.t (KpC.b (by omega) (by omega)) (Below.refl _ _) (fun _ => rfl)
    (SeqAt w W0.heap.size w.heap.size 0 0 0 (q := 0)) (fun _ _ _ => False) (SeqAt.own w _ _ 0 0 0 (by omega)) (fun _ _ _ _ _ hs _ _ => hs)
    ⟨⟨_, hbP, World.ownsRow_nil _ _ _ _, trivial⟩, Nat.le_refl _, hB0⟩
    (fun x => { tmps := #[.slice none 0 0, .func (.func 68) #[] #[.pointer (some ⟨B1, 0, none⟩), .pointer (some ⟨B2, 0, none⟩)], .pointer (some ⟨w.heap.size, 0, none⟩), undef, .slice none 0 0, chunkVal 0 0 0 x, .func (.func 68) #[] #[.pointer (some ⟨B1, 0, none⟩), .pointer (some ⟨B2, 0, none⟩)], chunkVal 0 0 0 x, undef, undef, undef, undef, undef], defers := [] })
    ?assign ?body ?done ?stop
  case assign =>
    intro l x
    exact x.elim0
  case body =>
    intro lr pre x
    exact x.elim0
  case done =>
    rintro D xs W hD rfl ⟨⟨v, hbox, hrow, -⟩, hsz', hb'⟩ hK
    have hc0 := hbox.cell
    have HROW := Lib.hid hrow
    have HB := Lib.hid hb'
    clear hrow hb' hbox
    gi_wp2
    refine ⟨by simp, .inl ⟨_, _, rfl, run_takeDeferred hK, ?_⟩⟩
    refine ⟨_, results_tmp rfl _ _ _, v, rfl, ?_, ?_⟩
    · exact own_base (HROW.out.kept (grownBy_putObj' W D _) (Or.inr fun e => by obtain ⟨cs, hcs⟩ := row_tag HROW.out e; rw [hK] at hcs; cases hcs)) (by omega)
    · exact HB.out.trans (belowK_b (w := w) (Nat.le_refl _) W D _ _ (by omega) hK rfl rfl)
  case stop =>
    rintro D c pre W _ _ h _
    exact h.elim
theorem collect_any (B1 B2 b o q m c : Nat) (hc : m ≤ c) (hm : m ≤ 40000) (hqm : ∀ k, k < q ↔ 20 * k < m) (w : World) (hB1 : Boxed w B1 28 (.slice (some ⟨b, o, none⟩) m c)) (hB2 : Boxed w B2 3 (.int .i64 20)) :
    Calls Tryz.prog 38 #[.func (.func 68) #[] #[.pointer (some ⟨B1, 0, none⟩), .pointer (some ⟨B2, 0, none⟩)]] w (RetVals w ((List.finRange q).map (chunkVal b o m))) := by
  have HA := Lib.hid (appendSeq_any B1 B2 b o q m c hc hm hqm w hB1 hB2)
  clear hB1 hB2 hqm
  generalize (List.finRange q).map (chunkVal b o m) = xs at *
  go_enter Tryz.func38, Tryz.ntmps38
  go_wp2_with (go_at_call 67; refine HA.out.mono ?_; rintro e w2 ⟨v, rfl, ho, hb⟩; have HO := Lib.hid ho; obtain ⟨A2, c2, rfl, -⟩ := own_sliceE ho; clear ho)
  go_ret
  exact ⟨_, rfl, HO.out, hb⟩
theorem collect_zero (B1 B2 : Nat) (A : Option Addr) (c : Nat) (w : World) (hB1 : Boxed w B1 28 (.slice A 0 c)) (hB2 : Boxed w B2 3 (.int .i64 20)) :
    Calls Tryz.prog 38 #[.func (.func 68) #[] #[.pointer (some ⟨B1, 0, none⟩), .pointer (some ⟨B2, 0, none⟩)]] w (RetVals w []) := by
  have HA := Lib.hid (appendSeq_zero B1 B2 A c w hB1 hB2)
  clear hB1 hB2
  go_enter Tryz.func38, Tryz.ntmps38
  go_wp2_with (go_at_call 67; refine HA.out.mono ?_; rintro e w2 ⟨v, rfl, ho, hb⟩; have HO := Lib.hid ho; obtain ⟨A2, c2, rfl, -⟩ := own_sliceE ho; clear ho)
  go_ret
  exact ⟨_, rfl, HO.out, hb⟩
end Go.Proofs.YtgdlfiejjnjcpaaGreat.Cs
