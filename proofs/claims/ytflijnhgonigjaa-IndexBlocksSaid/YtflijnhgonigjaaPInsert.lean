/-
  WALK: slices.Insert of one entry into a row without room. Conditions: at most 100000 entries.
-/
import Derived.Test.YtflijnhgonigjaaPMem
import Derived.Test.YtflijnhgonigjaaPPut
set_option linter.unusedVariables false
set_option linter.unusedSimpArgs false
namespace Go.Proofs.Ytflijnhgonigjaa
open Go.RowKit

abbrev zE : Array Value := (Value.agg #[.string ⟨#[]⟩, .int .i64 0]).cells
theorem zE_size : zE.size = 2 := rfl
/-- what Insert hands back. -/
def RetIns (w : World) (l : List En) (k : Nat) (x : En) (e : Ending) (w' : World) : Prop :=
  ∃ c, e = .returned (.slice (some ⟨w.heap.size, 0, none⟩) (l.length + 1) c) ∧ l.length + 1 ≤ c ∧ CellsAt w' w.heap.size 0 (ensCells (putL l k x)) ∧ w.heap.size < w'.heap.size ∧ Below w.heap.size w w'

theorem ensCells_take (l : List En) (k : Nat) (hk : k ≤ l.length) : ensCells (l.take k) = (ensCells l).take (k * 2) := by
  have h := ensCells_append (l.take k) (l.drop k)
  rw [List.take_append_drop] at h
  rw [h]
  exact (List.take_left' (by rw [ensCells_len, List.length_take]; omega)).symm
theorem ensCells_drop (l : List En) (k : Nat) (hk : k ≤ l.length) : ensCells (l.drop k) = (ensCells l).drop (k * 2) := by
  have h := ensCells_append (l.take k) (l.drop k)
  rw [List.take_append_drop] at h
  conv => rhs; rw [h]
  exact (List.drop_left' (by rw [ensCells_len, List.length_take]; omega)).symm
theorem ensCells_put (l : List En) (k : Nat) (x : En) (hk : k ≤ l.length) : ensCells (putL l k x) = (ensCells l).take (k * 2) ++ (enCells x ++ (ensCells l).drop (k * 2)) := by
  unfold putL
  rw [ensCells_append, ensCells_take l k hk, ← ensCells_drop l k hk]
  rfl

set_option maxHeartbeats 4000000 in
set_option maxRecDepth 100000 in
theorem insert_end (g vb vc : Nat) (l : List En) (x : En) (w : World) (hl : l.length ≤ 100000) (hcs : CellsAt w g 0 (ensCells l)) (hvs : CellsAt w vb 0 (enCells x)) :
    Calls Try.prog 43 #[rowV g l.length, .int .i64 l.length, .slice (some ⟨vb, 0, none⟩) 1 vc] w (RetIns w l l.length x) := by
  obtain ⟨i0, hi0, hz0, hzs, hzb⟩ := info_parts info43
  have hsrc : Src Try.prog i0.size 27 (.slice (some ⟨vb, 0, none⟩) 1 vc) 1 (enCells x) w := by
    rw [hzs]
    exact Src.ofSlice w Try.underlying27 ⟨vb, 0, none⟩ 1 vc (enCells x) rfl (fun j u hj => by rw [Go.WideShapes.add_plain]; exact hvs j u hj) (one_en x)
  have hold : (Builtin.firstCells i0.size l.length (rowV g l.length)).run Try.prog w.drew = .ok (ensCells l).toArray w.drew := by
    rw [hzs]
    exact run_firstCells_some w.drew 2 l.length ⟨g, 0, none⟩ l.length l.length (ensCells l) (ensCells_len l) (fun j v hj => by rw [Go.WideShapes.add_plain]; exact hcs j v hj)
  have hrun : ∀ ty, (Builtin.append_ #[27, 27] ty #[rowV g l.length, .slice (some ⟨vb, 0, none⟩) 1 vc]).run Try.prog w = _ := fun ty =>
    run_append_grow_src w 27 27 ty 47 i0 _ Try.underlying27 hi0 hz0 (some ⟨g, 0, none⟩) l.length l.length (ensCells l) hold _ 1 (enCells x) hsrc (by omega) (by omega) (by rw [hzb]; exact growslice_fits (by omega) (by omega))
  have hcap := grownCap_ge w (l.length + 1) l.length 47
  have HC : Hid (CellsAt (w.drew.alloc (.cells ((ensCells l ++ enCells x).toArray ++ Builtin.zeroCells zE (grownCap w (l.length + 1) l.length 47 - (l.length + 1))) 47)) w.heap.size 0 (ensCells (putL l l.length x))) := fun j u hj => by
    rw [Nat.zero_add, World.cell?_alloc_at (w := w.drew) _ _ w.heap.size j rfl]
    have e : putL l l.length x = l ++ [x] := by unfold putL; rw [List.take_length, List.drop_length]
    rw [e, ensCells_snoc] at hj
    have hlt := (List.getElem?_eq_some_iff.1 hj).1
    rw [Array.getElem?_append_left (by simpa using hlt)]
    simpa using hj
  have HB : Hid (Below w.heap.size w (w.drew.alloc (.cells ((ensCells l ++ enCells x).toArray ++ Builtin.zeroCells zE (grownCap w (l.length + 1) l.length 47 - (l.length + 1))) 47))) :=
    Below.alloc (a := w) (w := w.drew) ⟨rfl, rfl, rfl, Nat.le_refl _, fun _ _ => rfl⟩ (Nat.le_refl _) _
  have HS : Hid (w.heap.size < (w.drew.alloc (.cells ((ensCells l ++ enCells x).toArray ++ Builtin.zeroCells zE (grownCap w (l.length + 1) l.length 47 - (l.length + 1))) 47)).heap.size) := by show _ < _; simp
  have HR := Lib.hid hrun
  clear hrun hold hsrc hcs hvs
  generalize grownCap w (l.length + 1) l.length 47 = G at *
  generalize (.cells ((ensCells l ++ enCells x).toArray ++ Builtin.zeroCells zE (G - (l.length + 1))) 47 : Obj) = ob at *
  generalize hn : l.length = n at *
  have HN := Lib.hid hn
  clear hn
  go_enter Try.func43, Try.ntmps43
  go_wp2_with (at_builtin; refine Lib.wpList_append_run _ rfl _ _ _ _ rfl _ _ rfl rfl _ _ (HR.out _) ?_)
  go_ret
  refine ⟨G, by rw [HN.out]; rfl, by rw [HN.out]; omega, ?_, HS.out, HB.out⟩
  exact HC.out

theorem Below.setCells {B g : Nat} {a w : World} (h : Below B a w) (hg : B ≤ g) (o : Nat) (vs : List Value) : Below B a (w.setCells g o vs) := h.trans (Lib.below_setCells_w hg vs o w)
theorem setCells_size (g : Nat) (w : World) (o : Nat) (vs : List Value) : w.heap.size ≤ (w.setCells g o vs).heap.size := (Lib.below_setCells_w (Nat.zero_le g) vs o w).size
theorem sizeE : (Try.prog.info? 47).map (·.size) = some 2 := by kernel_rfl

set_option maxHeartbeats 4000000 in
set_option maxRecDepth 100000 in
theorem insert_mid (g vb vc i : Nat) (l : List En) (x : En) (w : World) (hl : l.length ≤ 100000) (hi : i < l.length) (hcs : CellsAt w g 0 (ensCells l)) (hvs : CellsAt w vb 0 (enCells x)) :
    Calls Try.prog 43 #[rowV g l.length, .int .i64 i, .slice (some ⟨vb, 0, none⟩) 1 vc] w (RetIns w l i x) := by
  obtain ⟨i0, hi0, hz0, hzs, hzb⟩ := info_parts info43
  obtain ⟨n, hn⟩ : ∃ n, n = l.length := ⟨_, rfl⟩
  have hL := ensCells_len l
  have hgw : g < w.heap.size := hcs.lt (by omega)
  have hvw : vb < w.heap.size := hvs.lt (by show 0 < 2; omega)
  rw [← hn] at hi hl hL
  have hold : (Builtin.firstCells i0.size i (.slice (some ⟨g, 0, none⟩) i n)).run Try.prog w.drew = .ok ((ensCells l).take (i * 2)).toArray w.drew := by
    rw [hzs]
    exact run_firstCells_some w.drew 2 i ⟨g, 0, none⟩ i n ((ensCells l).take (i * 2)) (by rw [List.length_take]; omega) (fun j v hj => by rw [Go.WideShapes.add_plain]; exact hcs.take (i * 2) j v hj)
  have hrz : ∀ ty, (Builtin.append_ #[27, 3] ty #[.slice (some ⟨g, 0, none⟩) i n, .int .i64 ((n : Int) + 1 - (i : Int))]).run Try.prog w =
      .ok (.slice (some ⟨w.heap.size, 0, none⟩) (n + 1) (grownCap w (n + 1) n 47)) (w.drew.alloc (.cells (((ensCells l).take (i * 2)).toArray ++ Builtin.zeroCells zE (n + 1 - i) ++ Builtin.zeroCells zE (grownCap w (n + 1) n 47 - (n + 1))) 47)) := fun ty => by
    have h := Lib.run_append_grow_zeros w 27 3 ty 47 i0 _ .i64 .i64 Try.underlying27 Try.underlying3 hi0 hz0 (some ⟨g, 0, none⟩) i n ((ensCells l).take (i * 2)) hold (n + 1 - i) (by omega) (by omega) (by omega) (by omega) (by rw [hzb]; omega) (by rw [hzb, show i + (n + 1 - i) = n + 1 by omega]; exact growslice_fits (by omega) (by omega))
    rw [show i + (n + 1 - i) = n + 1 by omega] at h
    rw [show (n : Int) + 1 - (i : Int) = ((n + 1 - i : Nat) : Int) by omega]
    exact h
  obtain ⟨G, hG⟩ : ∃ G, G = grownCap w (n + 1) n 47 := ⟨_, rfl⟩
  have hGn : n + 1 ≤ G := by rw [hG]; exact grownCap_ge w _ _ _
  have hG63 : G ≤ 9223372036854775807 := by
    have := grownCap_le_maxLen w (n + 1) n 47 (by unfold maxLen; omega)
    rw [← hG] at this; unfold maxLen at this; omega
  obtain ⟨ROW, hROW⟩ : ∃ ROW : Array Value, ROW = ((ensCells l).take (i * 2)).toArray ++ Builtin.zeroCells zE (n + 1 - i) ++ Builtin.zeroCells zE (G - (n + 1)) := ⟨_, rfl⟩
  rw [← hG] at hrz
  rw [← hROW] at hrz
  have hRl : (n + 1) * 2 ≤ ROW.size := by
    rw [hROW, Array.size_append, Array.size_append, size_zeroCells, size_zeroCells, zE_size, List.size_toArray, List.length_take]; omega
  have hRt : ROW.toList.take (i * 2) = (ensCells l).take (i * 2) := by
    rw [hROW]
    simp only [Array.toList_append, List.append_assoc]
    rw [List.take_append_of_le_length (by rw [List.length_take]; omega), List.take_of_length_le (by rw [List.length_take]; omega)]
  have HRL : Hid (ROW.toList.length = ROW.size) := Array.length_toList
  obtain ⟨W1, hW1⟩ : ∃ W1, W1 = w.drew.alloc (.cells ROW 47) := ⟨_, rfl⟩
  rw [← hW1] at hrz
  have hR1 : CellsAt W1 w.heap.size 0 ROW.toList := fun j u hj => by
    rw [Nat.zero_add, hW1, World.cell?_alloc_at (w := w.drew) ROW _ w.heap.size j rfl, ← Array.getElem?_toList]; exact hj
  have hN : ∀ j, j < (n + 1) * 2 → (W1.cell? ⟨w.heap.size, j, none⟩).isSome = true := fun j hj => by
    have := hR1.some_ (j := j) (by rw [HRL.out]; omega); rwa [Nat.zero_add] at this
  have hNf : ∀ j, W1.frozen? ⟨w.heap.size, j, none⟩ = false := fun j => by rw [hW1]; exact World.frozen?_alloc_at (w := w.drew) ROW _ w.heap.size j rfl
  have hO : CellsAt W1 g 0 (ensCells l) := hcs.keep fun j => by rw [hW1, World.cell?_alloc_past (w := w.drew) _ g j hgw]; rfl
  have hV : CellsAt W1 vb 0 (enCells x) := hvs.keep fun j => by rw [hW1, World.cell?_alloc_past (w := w.drew) _ vb j hvw]; rfl
  have hB1 : Below w.heap.size w W1 := by rw [hW1]; exact Below.alloc (a := w) (w := w.drew) ⟨rfl, rfl, rfl, Nat.le_refl _, fun _ _ => rfl⟩ (Nat.le_refl _) _
  have hS1 : w.heap.size < W1.heap.size := by rw [hW1]; simp
  have hcpA : ∀ ty dc, (Builtin.copy_ #[27, 27] ty #[.slice (some ⟨w.heap.size, i * 2, none⟩) (n + 1 - i) dc, .slice (some ⟨vb, 0, none⟩) 1 vc]).run Try.prog W1 = .ok (goInt (Nat.min 1 (n + 1 - i))) (W1.setCells w.heap.size (i * 2) (enCells x)) := fun ty dc =>
    run_copyN W1 27 ty 47 2 w.heap.size (i * 2) (n + 1 - i) dc vb 0 1 vc (enCells x) Try.underlying27 sizeE (by rw [show Nat.min 1 (n + 1 - i) = 1 from Nat.min_eq_left (by omega)]; rfl) hV
      (fun j hj => hN _ (by have : (enCells x).length = 2 := rfl; omega)) (fun j _ => hNf _) (one_en x)
  obtain ⟨W2, hW2⟩ : ∃ W2, W2 = W1.setCells w.heap.size (i * 2) (enCells x) := ⟨_, rfl⟩
  have hxl : (enCells x).length = 2 := rfl
  have hR2 : CellsAt W2 w.heap.size 0 (ROW.toList.take (i * 2) ++ (enCells x ++ ROW.toList.drop (i * 2 + 2))) := by
    rw [hW2]; exact hR1.set (by rw [HRL.out]; omega)
  have hO2 : CellsAt W2 g 0 (ensCells l) := by rw [hW2]; exact hO.other (by omega)
  have hNf2 : ∀ j, W2.frozen? ⟨w.heap.size, j, none⟩ = false := fun j => by rw [hW2, World.frozen?_setCells]; exact hNf j
  have hB2 : Below w.heap.size w W2 := by rw [hW2]; exact Below.setCells hB1 (Nat.le_refl _) _ _
  have hS2 : w.heap.size < W2.heap.size := by rw [hW2]; exact Nat.lt_of_lt_of_le hS1 (setCells_size _ _ _ _)
  rw [← hW2] at hcpA
  have hl2 : (ROW.toList.take (i * 2) ++ (enCells x ++ ROW.toList.drop (i * 2 + 2))).length = ROW.size := by
    rw [List.length_append, List.length_append, List.length_take, List.length_drop, HRL.out, hxl]; omega
  have hdl : ((ensCells l).drop (i * 2)).length = (n - i) * 2 := by rw [List.length_drop, hL]; omega
  have hcpB : ∀ ty dc sc, (Builtin.copy_ #[27, 27] ty #[.slice (some ⟨w.heap.size, (i + 1) * 2, none⟩) (n + 1 - (i + 1)) dc, .slice (some ⟨g, i * 2, none⟩) (n - i) sc]).run Try.prog W2.drew = .ok (goInt (Nat.min (n - i) (n + 1 - (i + 1)))) (W2.drew.setCells w.heap.size ((i + 1) * 2) ((ensCells l).drop (i * 2))) := fun ty dc sc =>
    run_copyN W2.drew 27 ty 47 2 w.heap.size ((i + 1) * 2) (n + 1 - (i + 1)) dc g (i * 2) (n - i) sc ((ensCells l).drop (i * 2)) Try.underlying27 sizeE (by rw [hdl, show Nat.min (n - i) (n + 1 - (i + 1)) = n - i from Nat.min_eq_left (by omega)])
      (fun j u hj => by have := hO2.drop (i * 2) j u hj; rwa [Nat.zero_add] at this)
      (fun j hj => by have := hR2.some_ (j := (i + 1) * 2 + j) (by rw [hl2]; omega); rw [Nat.zero_add] at this; exact this)
      (fun j _ => hNf2 _) (fun v hv => ensCells_one l v (List.mem_of_mem_drop hv))
  have HFIN : Hid (CellsAt (W2.drew.setCells w.heap.size ((i + 1) * 2) ((ensCells l).drop (i * 2))) w.heap.size 0 (ensCells (putL l i x))) := by
    have h3 := CellsAt.set (w := W2.drew) (g := w.heap.size) (o := (i + 1) * 2) (vs := (ensCells l).drop (i * 2)) hR2 (by rw [hl2, hdl]; omega)
    have e : ensCells (putL l i x) = ((ROW.toList.take (i * 2) ++ (enCells x ++ ROW.toList.drop (i * 2 + 2))).take ((i + 1) * 2)) ++ (ensCells l).drop (i * 2) := by
      have h2 : ROW.toList.take (i * 2) ++ (enCells x ++ ROW.toList.drop (i * 2 + 2)) = (ROW.toList.take (i * 2) ++ enCells x) ++ ROW.toList.drop (i * 2 + 2) := by rw [List.append_assoc]
      rw [h2, List.take_left' (by rw [List.length_append, List.length_take, HRL.out, hxl]; omega), hRt, ensCells_put l i x (by omega), List.append_assoc]
    have h4 := h3.take ((ensCells (putL l i x)).length)
    rw [← List.append_assoc, ← e, List.take_left' rfl] at h4
    exact h4
  have HB3 : Hid (Below w.heap.size w (W2.drew.setCells w.heap.size ((i + 1) * 2) ((ensCells l).drop (i * 2)))) := Below.setCells (w := W2.drew) ⟨hB2.os, hB2.tape, hB2.output, hB2.size, hB2.block⟩ (Nat.le_refl _) _ _
  have HS3 : Hid (w.heap.size < (W2.drew.setCells w.heap.size ((i + 1) * 2) ((ensCells l).drop (i * 2))).heap.size) := Nat.lt_of_lt_of_le hS2 (setCells_size _ W2.drew _ _)
  have HRZ := Lib.hid hrz
  have HCA := Lib.hid hcpA
  have HCB := Lib.hid hcpB
  have HN := Lib.hid hn
  clear hrz hcpA hcpB hW1 hW2 hold hR1 hR2 hO hO2 hV hN hNf hNf2 hB1 hB2 hS1 hS2 hl2 hdl hRt hRl hROW hG hcs hvs hL HRL
  rw [← HN.out]
  clear hn
  have hz2 : ¬ ((i : Int) = (n : Int)) := by omega
  have hb1 : (i : Int) ≤ (n : Int) := by omega
  have hb2 : (i : Int) + 1 ≤ (n : Int) + 1 := by omega
  have hGi : ¬ (G = i) := by omega
  have hGim : ¬ (G = i + 1) := by omega
  have hni : ¬ (n = i) := by omega
  have htn : ((i : Int) + 1).toNat = i + 1 := by omega
  have hw1 : IntKind.i64.wrap ((i : Int) + 1) = (i : Int) + 1 := by rw [IntKind.wrap_i64]; omega
  have hb0 : (0 : Int) ≤ (i : Int) + 1 := by omega
  have mixed : Try.prog.follows Departure.mixedOrders = true := by kernel_rfl
  go_enter Try.func43, Try.ntmps43
  go_wp2_with (at_builtin; refine Lib.wpList_append_run _ rfl _ _ _ _ rfl _ _ rfl rfl _ _ (HRZ.out _) ?_)
  rw [HCA.out 3 (G - i)]
  go_wp2_with fail
  go_region_law_o (refine Go.Proofs.step_copy_runI rfl _ _ 27 27 rfl (.slice (some ⟨w.heap.size, (i + 1) * 2, none⟩) (n + 1 - (i + 1)) (G - (i + 1))) (.slice (some ⟨g, i * 2, none⟩) (n - i) (n - i)) (by simp [Act.eval, Act.put]) (by simp [Act.eval, Act.put]) (HCB.out 3 (G - (i + 1)) (n - i)) ?_)
  go_wp2
  go_ret
  exact ⟨G, by rw [HN.out]; rfl, by rw [← HN.out]; exact hGn, HFIN.out, HS3.out, HB3.out⟩
end Go.Proofs.Ytflijnhgonigjaa
