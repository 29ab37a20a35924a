/-
  WALKS: slices.Delete of entries and of pages in a row of the call's own. Conditions: at most 100000 elements.
-/
import Derived.Test.YtflijnhgonigjaaPAdd
import Derived.Deep.RegionLaw
set_option linter.unusedVariables false
set_option linter.unusedSimpArgs false
namespace Go.Proofs.Ytflijnhgonigjaa
open Go.RowKit

theorem grownBy_setCells (g : Nat) : ∀ (vs : List Value) (o : Nat) (w : World), w.grownBy (w.setCells g o vs) (some g)
  | [], o, w => World.grownBy.refl w _
  | v :: vs, o, w => by
    have h1 : w.grownBy (w.setCell ⟨g, o, none⟩ v) (some g) := ⟨rfl, rfl, rfl, by simp, fun k _ hk => heap_setCell_other w ⟨g, o, none⟩ k v (fun e => hk (by simp [e]))⟩
    have h2 := grownBy_setCells g vs (o + 1) (w.setCell ⟨g, o, none⟩ v)
    exact ⟨h2.os.trans h1.os, h2.tape.trans h1.tape, h2.output.trans h1.output, Nat.le_trans h1.size h2.size, fun k hk hne => (h2.block k (Nat.lt_of_lt_of_le hk h1.size) hne).trans (h1.block k hk hne)⟩
theorem grownBy_trans {a b c : World} {r : Option Nat} (h : a.grownBy b r) (k : b.grownBy c r) : a.grownBy c r :=
  ⟨k.os.trans h.os, k.tape.trans h.tape, k.output.trans h.output, Nat.le_trans h.size k.size, fun i hi hne => (k.block i (Nat.lt_of_lt_of_le hi h.size) hne).trans (h.block i hi hne)⟩
theorem grownBy_drew {a b : World} {r : Option Nat} (h : a.drew.grownBy b r) : a.grownBy b r := ⟨h.os, h.tape, h.output, h.size, h.block⟩
theorem frozen_own {w : World} {base e sz n g c : Nat} {xs : List Value} (h : w.ownsRow base e sz (.slice (some ⟨g, 0, none⟩) n c) n xs) : ∀ j, w.frozen? ⟨g, j, none⟩ = false := fun j => h.frozenAt j

theorem zeroE : ∀ w, (zeroValue 47).run Try.prog w = .ok (.agg #[.string ⟨#[]⟩, .int .i64 0]) w := Try.zeroValue47
theorem zeroP : ∀ w, (zeroValue 27).run Try.prog w = .ok (.slice none 0 0) w := Try.zeroValue27
theorem zE_one (n : Nat) : ∀ u ∈ (Builtin.zeroCells zE n).toList, u.oneCell' = true := by
  intro u hu
  obtain ⟨i, hi, rfl⟩ := List.getElem_of_mem hu
  have hi2 : i < n * 2 := by rw [zeroCells_len] at hi; exact hi
  simp [Builtin.zeroCells, Value.cells]
  have : i % 2 = 0 ∨ i % 2 = 1 := by omega
  rcases this with h | h <;> simp [h, Value.oneCell']
theorem zP_one (n : Nat) : ∀ u ∈ (Builtin.zeroCells zP n).toList, u.oneCell' = true := by
  intro u hu
  obtain ⟨i, hi, rfl⟩ := List.getElem_of_mem hu
  simp [Builtin.zeroCells, Value.cells, Nat.mod_one, Value.oneCell']

/-- what Delete leaves: the row without what was deleted, all other blocks as they were. -/
def RetDel (w : World) (g n c : Nat) (xs : List Value) (e : Ending) (w' : World) : Prop :=
  e = .returned (.slice (some ⟨g, 0, none⟩) n c) ∧ CellsAt w' g 0 xs ∧ w.grownBy w' (some g)
set_option maxHeartbeats 4000000 in
set_option maxRecDepth 100000 in
theorem deleteE_any (g n i j : Nat) (l : List En) (w : World) (hln : l.length = n) (hn : n ≤ 100000) (hij : i < j) (hj : j ≤ n) (hcs : CellsAt w g 0 (ensCells l)) (hfz : ∀ k, w.frozen? ⟨g, k, none⟩ = false) :
    Calls Try.prog 46 #[rowV g n, .int .i64 i, .int .i64 j] w (RetDel w g (i + (n - j)) n (ensCells (l.take i ++ l.drop j))) := by
  obtain ⟨i0, hi0, hz0, hzs, hzb⟩ := info_parts info43
  have hL := ensCells_len l
  rw [hln] at hL
  obtain ⟨news, hnews⟩ : ∃ news, news = (ensCells l).drop (j * 2) := ⟨_, rfl⟩
  have hlen : news.length = (n - j) * 2 := by rw [hnews, List.length_drop, hL]; omega
  obtain ⟨A, hA, hsrc⟩ : ∃ A : Addr, (if n = j then some (⟨g, 0, none⟩ : Addr) else some ⟨g, j * 2, none⟩) = some A ∧ Hid (∀ t u, news[t]? = some u → w.drew.cell? (A.add t) = some u) := by
    by_cases h : n = j
    · refine ⟨⟨g, 0, none⟩, by simp [h], fun t u hu => ?_⟩
      have h0 : news.length = 0 := by rw [hlen]; omega
      rw [List.length_eq_zero_iff.1 h0] at hu
      simp at hu
    · refine ⟨⟨g, j * 2, none⟩, by simp [h], fun t u hu => ?_⟩
      rw [Go.WideShapes.add_plain]
      rw [hnews] at hu
      have := hcs.drop (j * 2) t u hu
      rwa [Nat.zero_add] at this
  have s2 : Hid (∀ u ∈ news, u.oneCell' = true) := fun u hu => ensCells_one l u (List.mem_of_mem_drop (by rw [← hnews]; exact hu))
  have s3 : Hid (∀ t, t < news.length → (w.drew.cell? ⟨g, 0 + i * 2 + t, none⟩).isSome = true ∧ w.drew.frozen? ⟨g, 0 + i * 2 + t, none⟩ = false) := fun t ht => by
    rw [Nat.zero_add]
    have := hcs.some_ (j := i * 2 + t) (by rw [hL]; omega)
    rw [Nat.zero_add] at this
    exact ⟨this, hfz _⟩
  obtain ⟨W1, hW1⟩ : ∃ W1, W1 = w.drew.setCells g (0 + i * 2) news := ⟨_, rfl⟩
  have hC1 : CellsAt W1 g 0 ((ensCells l).take (i * 2) ++ (news ++ (ensCells l).drop (i * 2 + news.length))) := by
    rw [hW1, Nat.zero_add]
    exact CellsAt.set (w := w.drew) hcs (by rw [hL]; omega)
  have hF1 : ∀ k, W1.frozen? ⟨g, k, none⟩ = false := fun k => by rw [hW1, World.frozen?_setCells]; exact hfz k
  have hl1 : ((ensCells l).take (i * 2) ++ (news ++ (ensCells l).drop (i * 2 + news.length))).length = n * 2 := by
    rw [List.length_append, List.length_append, List.length_take, List.length_drop, hL]; omega
  have hS : ∀ t, t < (n - (i + (n - j))) * (Value.agg #[Value.string ⟨#[]⟩, Value.int .i64 0]).cells.size → (W1.cell? ⟨g, (i + (n - j)) * 2 + t, none⟩).isSome = true := fun t ht => by
    rw [show (Value.agg #[Value.string ⟨#[]⟩, Value.int .i64 0]).cells.size = 2 from rfl] at ht
    have := hC1.some_ (j := (i + (n - j)) * 2 + t) (by rw [hl1]; omega)
    rwa [Nat.zero_add] at this
  have hcl : ∀ ty, (Builtin.clear_ #[27] ty #[.slice (some ⟨g, (i + (n - j)) * 2, none⟩) (n - (i + (n - j))) (n - (i + (n - j)))]).run Try.prog W1 = .ok (.tuple #[]) (W1.setCells g ((i + (n - j)) * 2) (Builtin.zeroCells zE (n - (i + (n - j)))).toList) :=
    fun ty => run_clearN W1 27 47 ty _ Try.underlying27 zeroE zE_one g ((i + (n - j)) * 2) (n - (i + (n - j))) (n - (i + (n - j))) (by omega) hS (fun t _ => hF1 _)
  have HFIN : Hid (CellsAt (W1.setCells g ((i + (n - j)) * 2) (Builtin.zeroCells zE (n - (i + (n - j)))).toList) g 0 (ensCells (l.take i ++ l.drop j))) := by
    have h3 := hC1.set (o := (i + (n - j)) * 2) (vs := (Builtin.zeroCells zE (n - (i + (n - j)))).toList) (by rw [hl1, zeroCells_len, zE_size]; omega)
    have e : ensCells (l.take i ++ l.drop j) = ((ensCells l).take (i * 2) ++ (news ++ (ensCells l).drop (i * 2 + news.length))).take ((i + (n - j)) * 2) := by
      rw [ensCells_append, ensCells_take l i (by omega), ensCells_drop l j (by omega), ← hnews, ← List.append_assoc, List.take_left' (by rw [List.length_append, List.length_take, hL, hlen]; omega)]
    have h4 := h3.take (ensCells (l.take i ++ l.drop j)).length
    rw [← e] at h4
    rw [List.take_left' rfl] at h4
    exact h4
  have HG : Hid (w.grownBy (W1.setCells g ((i + (n - j)) * 2) (Builtin.zeroCells zE (n - (i + (n - j)))).toList) (some g)) := by
    have h1 : w.drew.grownBy W1 (some g) := by rw [hW1]; exact grownBy_setCells g _ _ _
    exact grownBy_trans (grownBy_drew h1) (grownBy_setCells g _ _ _)
  have HW := Lib.hid hW1
  have HCL := Lib.hid hcl
  have HLEN := Lib.hid hlen
  have HSRC := hsrc
  have mixed : Try.prog.follows Departure.mixedOrders = true := by kernel_rfl
  clear hW1 hC1 hF1 hl1 hcl hS hcs hfz hL hnews hlen hsrc hln
  have e1 : (i : Int) < (j : Int) := by omega
  have e2 : (j : Int) ≤ (n : Int) := by omega
  have e3 : ¬ ((i : Int) = (j : Int)) := by omega
  have e4 : (i : Int) ≤ (j : Int) := by omega
  have e5 : (i : Int) ≤ (n : Int) := by omega
  have e6 : ((i : Int) == (j : Int)) = false := by rw [beq_eq_false_iff_ne]; exact e3
  have hic : i ≤ n := by omega
  go_enter Try.func46, Try.ntmps46
  go_wp2_with fail
  go_region_law_o (refine step_append_room rfl (.tmp 22) (.tmp 25) 27 rfl 47 i0 2 Try.underlying27 hi0 hzs g 0 i n (by simp [Act.eval, Act.put]) A (n - j) (n - j) news (by simp [Act.eval, Act.put]) HLEN.out HSRC.out s2.out (by omega) s3.out ?_; rw [← HW.out])
  have hcl := HCL.out
  have hne : ¬ n = i + (n - j) := by omega
  have hb1 : ((i + (n - j) : Nat) : Int) ≤ (n : Int) := by omega
  go_wp2
  go_ret
  exact ⟨rfl, HFIN.out, HG.out⟩
end Go.Proofs.Ytflijnhgonigjaa
