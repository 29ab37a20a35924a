/-
  WALKS: moved, logged: new rows of changes. Conditions: at most 40 changes, at most 1000 blocks.
-/
import Derived.Test.YtpljifeebbeakaaLRead
namespace Go.Proofs.Ytpljifeebbeakaa
open Go.RowKit
open Sl (St SlabAt)

theorem chsCells_get (l : List Ch) (j : Nat) (h : j < l.length * 2) : (chsCells l)[j]? = some (if j % 2 = 0 then .int .i64 (l.getD (j / 2) Ch.z).bk else .string (l.getD (j / 2) Ch.z).dt) := by
  have hk : j / 2 < l.length := by omega
  obtain ⟨h0, h1⟩ := chsCells_at l (j / 2) hk
  by_cases he : j % 2 = 0
  · rw [if_pos he, ← h0]; congr 1; omega
  · rw [if_neg he, ← h1]; congr 1; omega
theorem made_chs (n : Nat) : (madeCells (Value.agg #[.int .i64 0, .string ⟨#[]⟩]).cells (n * 2)).toList = chsCells (List.replicate n Ch.z) := by
  apply List.ext_getElem?
  intro j
  by_cases h : j < n * 2
  · rw [chsCells_get _ _ (by simpa using h)]
    have e : (List.replicate n Ch.z).getD (j / 2) Ch.z = Ch.z := by
      simp only [List.getD, List.getElem?_replicate]
      split <;> rfl
    rw [e]
    by_cases he : j % 2 = 0
    · rw [if_pos he]
      simp [madeCells, Value.cells, h, he, Ch.z]
    · rw [if_neg he]
      have e2 : j % 2 = 1 := by omega
      simp [madeCells, Value.cells, h, e2, Ch.z]
  · rw [List.getElem?_eq_none (by rw [Array.length_toList, size_madeCells]; omega), List.getElem?_eq_none (by rw [chsCells_len]; simpa using h)]
/-- block g is a row of the changes l, known whole. -/
def ChRow (w : World) (g : Nat) (l : List Ch) : Prop := w.heap[g]? = some (.cells (chsCells l).toArray 58 (0, 0))
theorem ChRow.lt {w : World} {g : Nat} {l : List Ch} (h : ChRow w g l) : g < w.heap.size := (Array.getElem?_eq_some_iff.1 h).1
theorem ChRow.cell {w : World} {g : Nat} {l : List Ch} (h : ChRow w g l) (k : Nat) (hk : k < l.length) : w.cell? ⟨g, k * 2, none⟩ = some (.int .i64 (l.getD k Ch.z).bk) ∧ w.cell? ⟨g, k * 2 + 1, none⟩ = some (.string (l.getD k Ch.z).dt) := by
  obtain ⟨h0, h1⟩ := chsCells_at l k hk
  rw [cell_of_row w g _ _ 58 _ h, cell_of_row w g _ _ 58 _ h, List.getElem?_toArray, List.getElem?_toArray]
  exact ⟨h0, h1⟩
theorem ChRow.fz {w : World} {g : Nat} {l : List Ch} (h : ChRow w g l) (k : Nat) : w.frozen? ⟨g, k, none⟩ = false := by
  unfold ChRow at h
  simp [World.frozen?, h]
theorem ChRow.below {w w' : World} {g C : Nat} {l : List Ch} (h : ChRow w g l) (hb : Below C w w') (hg : g < C) : ChRow w' g l := (hb.block g hg).trans h
theorem ChRow.alloc {w : World} {g : Nat} {l : List Ch} (h : ChRow w g l) (o : Obj) : ChRow (w.alloc o) g l := h.below ((Below.refl w.heap.size w).alloc (Nat.le_refl _) o) h.lt
theorem ChRow.new (w : World) (l : List Ch) : ChRow (w.alloc (.cells (chsCells l).toArray 58)) w.heap.size l := heap_alloc_new w _
theorem ChRow.set {w : World} {g k : Nat} {l : List Ch} (h : ChRow w g l) (hk : k < l.length) (s : Ch) : ChRow ((w.setCell ⟨g, k * 2, none⟩ (.int .i64 s.bk)).setCell ⟨g, k * 2 + 1, none⟩ (.string s.dt)) g (l.set k s) := by
  unfold ChRow at *
  rw [Sl.heap_setCell_same _ g _ _ (Sl.heap_setCell_same w g _ _ h)]
  congr 2
  apply Array.ext'
  simp only [Array.toList_setIfInBounds]
  exact chsCells_set l k s hk
theorem ChRow.chs {w : World} {g B : Nat} {l : List Ch} (h : ChRow w g l) (hf : ∀ s ∈ l, s.fit) (hB : g < B) : ChsAt w B (some ⟨g, 0, none⟩) l.length l :=
  ⟨rfl, hf, fun k hk => ⟨g, 0, rfl, hB, by rw [Nat.zero_add]; exact (h.cell k hk).1, by rw [Nat.zero_add]; exact (h.cell k hk).2⟩⟩
/-- 'make([]api.Change, n)', for the walk to take. -/
theorem make_chs (n : Nat) (hn : n ≤ 65536) (W : World) : (Instr.makeSlice 34 (.int .i64 (n : Int)) (.int .i64 (n : Int))).run Try.prog W = .ok (.slice (some ⟨W.heap.size, 0, none⟩) n n) (W.alloc (.cells (chsCells (List.replicate n Ch.z)).toArray 58)) := by
  obtain ⟨i0, hi, hz0, hz1, hz2⟩ := info_parts info58
  have h := run_make (P := Try.prog) W 34 58 i0 (.agg #[.int .i64 0, .string ⟨#[]⟩]) Try.underlying34 hi hz0 .i64 .i64 (n : Int) (n : Int) (by omega) (by omega) (by rw [hz2]; omega) (by omega)
  have e : madeCells (Value.agg #[.int .i64 0, .string ⟨#[]⟩]).cells (n * i0.size) = (chsCells (List.replicate n Ch.z)).toArray := by
    apply Array.toList_inj.1
    rw [hz1, made_chs]
  rw [← e]
  simpa using h
/-- the first k of l, and no changes behind them. -/
def partC (l : List Ch) (k : Nat) : List Ch := l.take k ++ List.replicate (l.length - k) Ch.z
theorem partC_set {l : List Ch} {k : Nat} (h : k < l.length) : (partC l k).set k (l.getD k Ch.z) = partC l (k + 1) := by
  apply List.ext_getElem?
  intro j
  unfold partC
  rw [List.getElem?_set]
  by_cases e : k = j
  · subst e
    rw [if_pos rfl, if_pos (by simp; omega), List.getElem?_append_left (by simp; omega), List.getElem?_take_of_lt (by omega)]
    simp [List.getD, h]
  · rw [if_neg e]
    by_cases hj : j < k
    · rw [List.getElem?_append_left (by simp; omega), List.getElem?_append_left (by simp; omega), List.getElem?_take_of_lt hj, List.getElem?_take_of_lt (by omega)]
    · rw [List.getElem?_append_right (by simp; omega), List.getElem?_append_right (by simp; omega)]
      simp only [List.getElem?_replicate, List.length_take]
      have : (j - min k l.length < l.length - k) ↔ (j - min (k + 1) l.length < l.length - (k + 1)) := by omega
      simp only [this]
theorem partC_0 (l : List Ch) : partC l 0 = List.replicate l.length Ch.z := by simp [partC]
theorem partC_all (l : List Ch) : partC l l.length = l := by simp [partC]
theorem partC_len (l : List Ch) {k : Nat} (h : k ≤ l.length) : (partC l k).length = l.length := by simp [partC]; omega

def movedL (l : List Ch) : List Ch := (List.range l.length).map fun k : Nat => ⟨2 + (k : Int), (l.getD k Ch.z).dt⟩
theorem movedL_len (l : List Ch) : (movedL l).length = l.length := by simp [movedL]
theorem movedL_get (l : List Ch) {k : Nat} (h : k < l.length) : (movedL l).getD k Ch.z = ⟨2 + (k : Int), (l.getD k Ch.z).dt⟩ := by
  simp [movedL, List.getD, h]
def loggedL (D : List ByteArray) (bl : List Int) : List Ch := (List.range bl.length).map fun k : Nat => ⟨bl.getD k 0, D.getD (2 + k) ⟨#[]⟩⟩
theorem loggedL_len (D : List ByteArray) (bl : List Int) : (loggedL D bl).length = bl.length := by simp [loggedL]
theorem loggedL_get (D : List ByteArray) (bl : List Int) {k : Nat} (h : k < bl.length) : (loggedL D bl).getD k Ch.z = ⟨bl.getD k 0, D.getD (2 + k) ⟨#[]⟩⟩ := by
  simp [loggedL, List.getD, h]

set_option maxRecDepth 100000 in
set_option maxHeartbeats 2000000 in
theorem moved_any (A : Option Addr) (n c B : Nat) (l : List Ch) (w : World) (hA : ChsAt w B A n l) (hB : B ≤ w.heap.size) (hn : n ≤ 1000) :
    Calls Try.prog 46 #[.slice A n c] w fun e w' => e = .returned (.slice (some ⟨w.heap.size, 0, none⟩) n n) ∧ ChRow w' w.heap.size (movedL l) ∧ Below w.heap.size w w' := by
  have hmk := make_chs n (by omega)
  have hlen := hA.len
  have HLB : Hid ((movedL l).length = n) := by show _ = _; rw [movedL_len, hlen]
  have HLL := Lib.hid hlen
  have HR := Lib.hid (ChRow.new w (List.replicate n Ch.z))
  have HB : Hid (Below w.heap.size w (w.alloc (.cells (chsCells (List.replicate n Ch.z)).toArray 58))) := (Below.refl _ _).alloc (Nat.le_refl _) _
  have HA := Lib.hid hA
  generalize (chsCells (List.replicate n Ch.z)).toArray = M at *
  clear hA hlen
  go_enter Try.func46, Try.ntmps46
  go_wp2
  go_loopw [4, 5, 11] (fun _ _ j wr => ∃ k : Nat, k ≤ n ∧ j = .int .i64 (k : Int) ∧ ChRow wr w.heap.size (partC (movedL l) k) ∧ Below w.heap.size w wr) (fun _ _ j _ => n - (intOf j).toNat)
  case atStart =>
    refine ⟨0, by omega, rfl, ?_, HB.out⟩
    rw [partC_0, HLB.out]; exact HR.out
  case round =>
    obtain ⟨k, hk, rfl, hr, hb⟩ := hrel
    by_cases h1 : k < n
    · have hlt : (k : Int) < (n : Int) := by omega
      have x0 : (0 : Int) ≤ (k : Int) := by omega
      obtain ⟨b, o, rfl, hbB, hc0, hc1⟩ := HA.out.at_ h1
      have d0 := bcell hb hc0 (by show b < _; omega)
      have d1 := bcell hb hc1 (by show b < _; omega)
      have hkl : k < (partC (movedL l) k).length := by rw [partC_len _ (by rw [HLB.out]; exact hk), HLB.out]; exact h1
      have HN : Hid (∀ u t, ChRow (((wr.alloc (.cells u t)).setCell ⟨w.heap.size, k * 2, none⟩ (.int .i64 (2 + (k : Int)))).setCell ⟨w.heap.size, k * 2 + 1, none⟩ (.string (l.getD k Ch.z).dt)) w.heap.size (partC (movedL l) (k + 1))) := fun u t => by
        rw [← partC_set (by rw [HLB.out]; exact h1), movedL_get _ (by rw [HLL.out]; exact h1)]
        exact (hr.alloc _).set hkl ⟨2 + (k : Int), (l.getD k Ch.z).dt⟩
      have HB2 : Hid (∀ u t, Below w.heap.size w (((wr.alloc (.cells u t)).setCell ⟨w.heap.size, k * 2, none⟩ (.int .i64 (2 + (k : Int)))).setCell ⟨w.heap.size, k * 2 + 1, none⟩ (.string (l.getD k Ch.z).dt))) := fun u t => ((hb.alloc hb.size _).setCell (Nat.le_refl _) _).setCell (Nat.le_refl _) _
      have hcell : ∀ u t, (wr.alloc (.cells u t)).cell? ⟨w.heap.size, k * 2, none⟩ = some (.int .i64 ((partC (movedL l) k).getD k Ch.z).bk) := fun u t => ((hr.alloc _).cell k hkl).1
      have hcell1 : ∀ u t, (wr.alloc (.cells u t)).cell? ⟨w.heap.size, k * 2 + 1, none⟩ = some (.string ((partC (movedL l) k).getD k Ch.z).dt) := fun u t => ((hr.alloc _).cell k hkl).2
      have hfz : ∀ u t, (wr.alloc (.cells u t)).frozen? ⟨w.heap.size, k * 2, none⟩ = false := fun u t => (hr.alloc _).fz _
      have hfz1 : ∀ u t, (wr.alloc (.cells u t)).frozen? ⟨w.heap.size, k * 2 + 1, none⟩ = false := fun u t => (hr.alloc _).fz _
      generalize (l.getD k Ch.z).bk = z at *
      generalize (l.getD k Ch.z).dt = s at *
      generalize (partC (movedL l) k).getD k Ch.z = z0 at *
      clear hc0 hc1 hr hb hkl
      go_wp2
      go_roundw
      case rel => exact ⟨k + 1, h1, by push_cast; rfl, HN.out _ _, HB2.out _ _⟩
      case measure => simp only [intOf]; omega
    · have hnlt : ¬ (k : Int) < (n : Int) := by omega
      have e : k = n := by omega
      have hr2 : ChRow wr w.heap.size (movedL l) := by rw [e, ← HLB.out, partC_all] at hr; exact hr
      have HRR := Lib.hid hr2
      have HBB := Lib.hid hb
      clear hr hb hr2 e
      go_wp2
      go_ret
      exact ⟨rfl, HRR.out, HBB.out⟩

set_option maxRecDepth 100000 in
set_option maxHeartbeats 2000000 in
theorem logged_any (p pd pm : Nat) (σ : St) (D : List ByteArray) (A : Option Addr) (n c B : Nat) (l : List Int) (w : World) (hS : SlabAt w p pd pm σ) (hA : IntsAt w B A n l) (hB : B ≤ w.heap.size) (hn : n ≤ 40)
    (hD : ∀ k : Nat, k < n → σ.read (2 + (k : Int)) = D.getD (2 + k) ⟨#[]⟩) :
    Calls Try.prog 39 #[.pointer (some ⟨p, 0, none⟩), .slice A n c] w fun e w' => e = .returned (.slice (some ⟨w.heap.size, 0, none⟩) n n) ∧ ChRow w' w.heap.size (loggedL D l) ∧ Below w.heap.size w w' := by
  have hmk := make_chs n (by omega)
  have hlen := hA.len
  have HLB : Hid ((loggedL D l).length = n) := by show _ = _; rw [loggedL_len, hlen]
  have HLL := Lib.hid hlen
  have HR := Lib.hid (ChRow.new w (List.replicate n Ch.z))
  have HB : Hid (Below w.heap.size w (w.alloc (.cells (chsCells (List.replicate n Ch.z)).toArray 58))) := (Below.refl _ _).alloc (Nat.le_refl _) _
  have HA := Lib.hid hA
  have HS := Lib.hid hS
  have HD := Lib.hid hD
  generalize (chsCells (List.replicate n Ch.z)).toArray = M at *
  clear hA hlen hS hD
  go_enter Try.func39, Try.ntmps39
  go_wp2
  go_loopw [6, 7, 13] (fun _ _ j wr => ∃ k : Nat, k ≤ n ∧ j = .int .i64 (k : Int) ∧ ChRow wr w.heap.size (partC (loggedL D l) k) ∧ Below w.heap.size w wr) (fun _ _ j _ => n - (intOf j).toNat)
  case atStart =>
    refine ⟨0, by omega, rfl, ?_, HB.out⟩
    rw [partC_0, HLB.out]; exact HR.out
  case round =>
    obtain ⟨k, hk, rfl, hr, hb⟩ := hrel
    by_cases h1 : k < n
    · have hlt : (k : Int) < (n : Int) := by omega
      have x0 : (0 : Int) ≤ (k : Int) := by omega
      obtain ⟨b, o, rfl, hbB, hc0⟩ := HA.out.at_ h1
      have d0 := bcell hb hc0 (by show b < _; omega)
      have hkl : k < (partC (loggedL D l) k).length := by rw [partC_len _ (by rw [HLB.out]; exact hk), HLB.out]; exact h1
      have HKL := Lib.hid hkl
      have HRD := Lib.hid (Sl.read_any p pd pm σ (2 + (k : Int)) wr (HS.out.keptB (Sl.Turns.of_below [] hb)))
      rw [HD.out k h1] at HRD
      have HGET := Lib.hid (loggedL_get D l (k := k) (by rw [HLL.out]; exact h1))
      have HSET := Lib.hid (partC_set (l := loggedL D l) (k := k) (by rw [HLB.out]; exact h1))
      have HRR := Lib.hid hr
      have HBB := Lib.hid hb
      generalize l.getD k 0 = z at *
      generalize D.getD (2 + k) ⟨#[]⟩ = s at *
      clear hc0 hr hb hkl HR HB
      go_wp2_with fail
      refine HRD.out.mono ?_
      rintro e w5 ⟨rfl, b5⟩
      have hr5 := HRR.out.below b5 HRR.out.lt
      have HB5 := Lib.hid (HBB.out.trans (b5.mono HBB.out.size))
      have hcell := (hr5.cell k HKL.out).1
      have hcell1 := (hr5.cell k HKL.out).2
      have hfz := hr5.fz (k * 2)
      have hfz1 := hr5.fz (k * 2 + 1)
      have HN : Hid (ChRow ((w5.setCell ⟨w.heap.size, k * 2, none⟩ (.int .i64 z)).setCell ⟨w.heap.size, k * 2 + 1, none⟩ (.string s)) w.heap.size (partC (loggedL D l) (k + 1))) := by
        show ChRow _ _ _
        rw [← HSET.out, HGET.out]
        exact hr5.set HKL.out ⟨z, s⟩
      have HB6 : Hid (Below w.heap.size w ((w5.setCell ⟨w.heap.size, k * 2, none⟩ (.int .i64 z)).setCell ⟨w.heap.size, k * 2 + 1, none⟩ (.string s))) := (HB5.out.setCell (Nat.le_refl _) _).setCell (Nat.le_refl _) _
      generalize (partC (loggedL D l) k).getD k Ch.z = z0 at *
      clear b5 hr5
      go_wp2
      go_roundw
      case rel => exact ⟨k + 1, h1, by push_cast; rfl, HN.out, HB6.out⟩
      case measure => simp only [intOf]; omega
    · have hnlt : ¬ (k : Int) < (n : Int) := by omega
      have e : k = n := by omega
      have hr2 : ChRow wr w.heap.size (loggedL D l) := by rw [e, ← HLB.out, partC_all] at hr; exact hr
      have HRR := Lib.hid hr2
      have HBB := Lib.hid hb
      clear hr hb hr2 e
      go_wp2
      go_ret
      exact ⟨rfl, HRR.out, HBB.out⟩
end Go.Proofs.Ytpljifeebbeakaa
