/-
  WALKS: slices.Clone of entries; slices.Replace of one page by two in a row without room. Conditions: at most 100000 entries, pages.
-/
import Derived.Test.YtflijnhgonigjaaPInsert
set_option linter.unusedVariables false
set_option linter.unusedSimpArgs false
namespace Go.Proofs.Ytflijnhgonigjaa
open Go.RowKit

/-- a copy of entries, in memory of its own. -/
def RetCl (w : World) (l : List En) (e : Ending) (w' : World) : Prop :=
  ∃ g c, e = .returned (.slice (some ⟨g, 0, none⟩) l.length c) ∧ l.length ≤ c ∧ w.heap.size ≤ g ∧ g < w'.heap.size ∧ CellsAt w' g 0 (ensCells l) ∧ Below w.heap.size w w'
set_option maxRecDepth 100000 in
set_option maxHeartbeats 2000000 in
theorem clone72_any (b o n c B : Nat) (l : List En) (w : World) (hA : EnsAt w B (some ⟨b, o, none⟩) n l) (hB : B ≤ w.heap.size) (hn : n ≤ 100000) (h0 : 0 < n) :
    Calls Try.prog 72 #[.slice (some ⟨b, o, none⟩) n c] w (RetCl w l) := by
  have HL := Lib.hid hA.len
  have HA := Lib.hid hA
  clear hA
  have hown0 := World.ownsRow_lit (base := w.heap.size) (e := 47) (size := 2) w #[] 0 (Nat.le_refl _) (by unfold maxLen; omega) rfl
  have HO := Lib.hid hown0
  clear hown0
  have HA1 : Hid (EnsAt (w.alloc (.cells #[] 47)) B (some ⟨b, o, none⟩) n l) := HA.out.keep fun a ha => World.cell?_alloc_lt w _ _ (by omega)
  have hsz : w.heap.size ≤ (w.alloc (.cells #[] 47)).heap.size := by simp
  have heq : ∀ W, (binOp BinOp.eql 27 (Value.slice (some ⟨b, o, none⟩) n c) (Value.slice none 0 0)).run Try.prog W = .ok (.bool false) W := fun W => by kernel_rfl
  go_enter Try.func72, Try.ntmps72
  go_wp2_with (at_builtin; refine join_law rfl (.tmp 5) (.tmp 6) rfl w.heap.size (w.alloc (.cells #[] 47)) _ [] rfl B (some ⟨b, o, none⟩) n c l rfl HO.out HA1.out (by simp; omega) hsz ?_)
  intro v' w6 ho6 b6
  obtain ⟨A6, c6, rfl, hc6⟩ := own_slice ho6
  have HO6 := Lib.hid ho6
  have HB6 : Hid (Below w.heap.size w w6) := ((Below.refl _ _).alloc (Nat.le_refl _) _).trans (b6.mono (Nat.le_refl _))
  have hl0 : 0 < l.length := by rw [HL.out]; exact h0
  clear ho6 b6
  go_wp2
  go_ret
  obtain ⟨g, cap, e, hg, hlt⟩ := HO6.out.form hl0
  injection e with e1 e2
  subst e1
  exact ⟨g, _, rfl, hc6, hg, hlt, CellsAt.of_own HO6.out, HB6.out⟩

abbrev zP : Array Value := (Value.slice none 0 0).cells
theorem zP_size : zP.size = 1 := rfl
theorem sizeP : (Try.prog.info? 27).map (·.size) = some 1 := by kernel_rfl
def RetRep (w : World) (vs : List Value) (e : Ending) (w' : World) : Prop :=
  ∃ c, e = .returned (.slice (some ⟨w.heap.size, 0, none⟩) vs.length c) ∧ vs.length ≤ c ∧ CellsAt w' w.heap.size 0 vs ∧ w.heap.size < w'.heap.size ∧ Below w.heap.size w w'

set_option maxHeartbeats 4000000 in
set_option maxRecDepth 100000 in
theorem replace_end (g vb vc i : Nat) (vs us : List Value) (w : World) (hl : vs.length ≤ 100000) (hi : i + 1 = vs.length) (hu : us.length = 2) (hcs : CellsAt w g 0 vs) (hvs : CellsAt w vb 0 us) (h1u : ∀ u ∈ us, u.oneCell' = true) :
    Calls Try.prog 73 #[rowV g vs.length, .int .i64 i, .int .i64 ((i : Int) + 1), .slice (some ⟨vb, 0, none⟩) 2 vc] w (RetRep w (vs.take i ++ us)) := by
  obtain ⟨i0, hi0, hz0, hzs, hzb⟩ := info_parts info27
  obtain ⟨n, hn⟩ : ∃ n, n = vs.length := ⟨_, rfl⟩
  have hsrc : Src Try.prog i0.size 22 (.slice (some ⟨vb, 0, none⟩) 2 vc) 2 us w := by
    rw [hzs]
    exact Src.ofSlice w Try.underlying22 ⟨vb, 0, none⟩ 2 vc us (by omega) (fun j u hj => by rw [Go.WideShapes.add_plain]; exact hvs j u hj) h1u
  rw [← hn] at hl hi
  have hold : (Builtin.firstCells i0.size i (.slice (some ⟨g, 0, none⟩) i n)).run Try.prog w.drew = .ok (vs.take i).toArray w.drew := by
    rw [hzs]
    exact run_firstCells_some w.drew 1 i ⟨g, 0, none⟩ i n (vs.take i) (by rw [List.length_take]; omega) (fun j v hj => by rw [Go.WideShapes.add_plain]; exact hcs.take i j v hj)
  have hrun : ∀ ty, (Builtin.append_ #[22, 22] ty #[.slice (some ⟨g, 0, none⟩) i n, .slice (some ⟨vb, 0, none⟩) 2 vc]).run Try.prog w = _ := fun ty =>
    run_append_grow_src w 22 22 ty 27 i0 _ Try.underlying22 hi0 hz0 (some ⟨g, 0, none⟩) i n (vs.take i) hold _ 2 us hsrc (by omega) (by omega) (by rw [hzb]; exact growslice_fits (by omega) (by omega))
  have hcap := grownCap_ge w (i + 2) n 27
  have htl : (vs.take i ++ us).length = i + 2 := by rw [List.length_append, List.length_take]; omega
  have HC : Hid (CellsAt (w.drew.alloc (.cells ((vs.take i ++ us).toArray ++ Builtin.zeroCells zP (grownCap w (i + 2) n 27 - (i + 2))) 27)) w.heap.size 0 (vs.take i ++ us)) := fun j u hj => by
    rw [Nat.zero_add, World.cell?_alloc_at (w := w.drew) _ _ w.heap.size j rfl]
    have hlt := (List.getElem?_eq_some_iff.1 hj).1
    rw [Array.getElem?_append_left (by simpa using hlt)]
    simpa using hj
  have HB : Hid (Below w.heap.size w (w.drew.alloc (.cells ((vs.take i ++ us).toArray ++ Builtin.zeroCells zP (grownCap w (i + 2) n 27 - (i + 2))) 27))) :=
    Below.alloc (a := w) (w := w.drew) ⟨rfl, rfl, rfl, Nat.le_refl _, fun _ _ => rfl⟩ (Nat.le_refl _) _
  have HS : Hid (w.heap.size < (w.drew.alloc (.cells ((vs.take i ++ us).toArray ++ Builtin.zeroCells zP (grownCap w (i + 2) n 27 - (i + 2))) 27)).heap.size) := by show _ < _; simp
  have HR := Lib.hid hrun
  have HTL := Lib.hid htl
  have HN := Lib.hid hn
  rw [← HN.out]
  clear hrun hold hsrc hcs hvs htl hn hu
  generalize grownCap w (i + 2) n 27 = G at *
  generalize (.cells ((vs.take i ++ us).toArray ++ Builtin.zeroCells zP (G - (i + 2))) 27 : Obj) = ob at *
  generalize vs.take i ++ us = res at *
  have e1 : ((i : Int) + 1) = (n : Int) := by omega
  have e2 : ¬ ((i : Int) = (n : Int)) := by omega
  have e3 : ((i : Int) + 2) = (n : Int) + 1 := by omega
  have e4 : (i : Int) ≤ (n : Int) := by omega
  have e5 : ¬ ((i : Int) + 2 < (n : Int)) := by omega
  have HE1 := Lib.hid e1
  have e6 : (i : Int) ≤ (i : Int) + 1 := by omega
  have e7 : (i : Int) + 1 ≤ (n : Int) := by omega
  have e8 : ¬ ((i : Int) = (i : Int) + 1) := by omega
  have e9 : (((i : Int) + 1) == (n : Int)) = true := by rw [beq_iff_eq]; omega
  have e10 : ((i : Int) == ((i : Int) + 1)) = false := by rw [beq_eq_false_iff_ne]; omega
  clear e1 e3
  go_enter Try.func73, Try.ntmps73
  go_wp2_with (at_builtin; refine Lib.wpList_append_run _ rfl _ _ _ _ rfl _ _ rfl rfl _ _ (HR.out _) ?_)
  go_ret
  refine ⟨G, by rw [HTL.out]; rfl, by rw [HTL.out]; omega, HC.out, HS.out, HB.out⟩
/-- what the append of zeros and the two copies of Replace do. -/
theorem repl_facts (q g vb vc i n : Nat) (vs us : List Value) (w : World) (hl : vs.length ≤ 100000) (hn : n = vs.length) (hi : i + 1 < vs.length) (hu : us.length = 2) (hcs : CellsAt w g 0 vs) (hvs : CellsAt w vb 0 us) (h1u : ∀ u ∈ us, u.oneCell' = true) (h1v : ∀ u ∈ vs, u.oneCell' = true) :
    ∃ (G : Nat) (W1 W2 : World), n + 1 ≤ G ∧ G ≤ 9223372036854775807 ∧
      (∀ ty, (Builtin.append_ #[22, 3] ty #[.slice (some ⟨g, 0, none⟩) i n, .int .i64 ((n : Int) + 1 - (i : Int))]).run Try.prog (w.drewN q) = .ok (.slice (some ⟨w.heap.size, 0, none⟩) (n + 1) G) W1) ∧
      (∀ ty dc, (Builtin.copy_ #[22, 22] ty #[.slice (some ⟨w.heap.size, i, none⟩) (n + 1 - i) dc, .slice (some ⟨vb, 0, none⟩) 2 vc]).run Try.prog W1 = .ok (goInt (Nat.min 2 (n + 1 - i))) W2) ∧
      (∀ ty dc sc, (Builtin.copy_ #[22, 22] ty #[.slice (some ⟨w.heap.size, i + 2, none⟩) (n + 1 - (i + 2)) dc, .slice (some ⟨g, i + 1, none⟩) (n - (i + 1)) sc]).run Try.prog W2.drew = .ok (goInt (Nat.min (n - (i + 1)) (n + 1 - (i + 2)))) (W2.drew.setCells w.heap.size (i + 2) (vs.drop (i + 1)))) ∧
      CellsAt (W2.drew.setCells w.heap.size (i + 2) (vs.drop (i + 1))) w.heap.size 0 (vs.take i ++ (us ++ vs.drop (i + 1))) ∧
      Below w.heap.size w (W2.drew.setCells w.heap.size (i + 2) (vs.drop (i + 1))) ∧ w.heap.size < (W2.drew.setCells w.heap.size (i + 2) (vs.drop (i + 1))).heap.size := by
  obtain ⟨i0, hi0, hz0, hzs, hzb⟩ := info_parts info27
  have hgw : g < w.heap.size := hcs.lt (by omega)
  have hvw : vb < w.heap.size := hvs.lt (by omega)
  rw [← hn] at hi hl
  have hold : (Builtin.firstCells i0.size i (.slice (some ⟨g, 0, none⟩) i n)).run Try.prog (w.drewN q).drew = .ok (vs.take i).toArray (w.drewN q).drew := by
    rw [hzs]
    exact run_firstCells_some (w.drewN q).drew 1 i ⟨g, 0, none⟩ i n (vs.take i) (by rw [List.length_take]; omega) (fun j v hj => by rw [Go.WideShapes.add_plain]; exact hcs.take i j v hj)
  have hrz : ∀ ty, (Builtin.append_ #[22, 3] ty #[.slice (some ⟨g, 0, none⟩) i n, .int .i64 ((n : Int) + 1 - (i : Int))]).run Try.prog (w.drewN q) =
      .ok (.slice (some ⟨w.heap.size, 0, none⟩) (n + 1) (grownCap (w.drewN q) (n + 1) n 27)) ((w.drewN q).drew.alloc (.cells ((vs.take i).toArray ++ Builtin.zeroCells zP (n + 1 - i) ++ Builtin.zeroCells zP (grownCap (w.drewN q) (n + 1) n 27 - (n + 1))) 27)) := fun ty => by
    have h := Lib.run_append_grow_zeros (w.drewN q) 22 3 ty 27 i0 _ .i64 .i64 Try.underlying22 Try.underlying3 hi0 hz0 (some ⟨g, 0, none⟩) i n (vs.take i) hold (n + 1 - i) (by omega) (by omega) (by omega) (by omega) (by rw [hzb]; omega) (by rw [hzb, show i + (n + 1 - i) = n + 1 by omega]; exact growslice_fits (by omega) (by omega))
    rw [show i + (n + 1 - i) = n + 1 by omega] at h
    rw [show (n : Int) + 1 - (i : Int) = ((n + 1 - i : Nat) : Int) by omega]
    exact h
  obtain ⟨G, hG⟩ : ∃ G, G = grownCap (w.drewN q) (n + 1) n 27 := ⟨_, rfl⟩
  have hGn : n + 1 ≤ G := by rw [hG]; exact grownCap_ge (w.drewN q) _ _ _
  have hG63 : G ≤ 9223372036854775807 := by
    have := grownCap_le_maxLen (w.drewN q) (n + 1) n 27 (by unfold maxLen; omega)
    rw [← hG] at this; unfold maxLen at this; omega
  obtain ⟨ROW, hROW⟩ : ∃ ROW : Array Value, ROW = (vs.take i).toArray ++ Builtin.zeroCells zP (n + 1 - i) ++ Builtin.zeroCells zP (G - (n + 1)) := ⟨_, rfl⟩
  rw [← hG] at hrz
  rw [← hROW] at hrz
  have hRl : n + 1 ≤ ROW.size := by
    rw [hROW, Array.size_append, Array.size_append, size_zeroCells, size_zeroCells, zP_size, List.size_toArray, List.length_take]; omega
  have hRt : ROW.toList.take i = vs.take i := by
    rw [hROW]
    simp only [Array.toList_append, List.append_assoc]
    rw [List.take_append_of_le_length (by rw [List.length_take]; omega), List.take_of_length_le (by rw [List.length_take]; omega)]
  have HRL : Hid (ROW.toList.length = ROW.size) := Array.length_toList
  obtain ⟨W1, hW1⟩ : ∃ W1, W1 = (w.drewN q).drew.alloc (.cells ROW 27) := ⟨_, rfl⟩
  rw [← hW1] at hrz
  have hR1 : CellsAt W1 w.heap.size 0 ROW.toList := fun j u hj => by
    rw [Nat.zero_add, hW1, World.cell?_alloc_at (w := (w.drewN q).drew) ROW _ w.heap.size j rfl, ← Array.getElem?_toList]; exact hj
  have hN : ∀ j, j < n + 1 → (W1.cell? ⟨w.heap.size, j, none⟩).isSome = true := fun j hj => by
    have := hR1.some_ (j := j) (by rw [HRL.out]; omega); rwa [Nat.zero_add] at this
  have hNf : ∀ j, W1.frozen? ⟨w.heap.size, j, none⟩ = false := fun j => by rw [hW1]; exact World.frozen?_alloc_at (w := (w.drewN q).drew) ROW _ w.heap.size j rfl
  have hO : CellsAt W1 g 0 vs := hcs.keep fun j => by rw [hW1, World.cell?_alloc_past (w := (w.drewN q).drew) _ g j hgw]; rfl
  have hV : CellsAt W1 vb 0 us := hvs.keep fun j => by rw [hW1, World.cell?_alloc_past (w := (w.drewN q).drew) _ vb j hvw]; rfl
  have hB1 : Below w.heap.size w W1 := by rw [hW1]; exact Below.alloc (a := w) (w := (w.drewN q).drew) ⟨rfl, rfl, rfl, Nat.le_refl _, fun _ _ => rfl⟩ (Nat.le_refl _) _
  have hS1 : w.heap.size < W1.heap.size := by rw [hW1]; simp
  have hcpA : ∀ ty dc, (Builtin.copy_ #[22, 22] ty #[.slice (some ⟨w.heap.size, i, none⟩) (n + 1 - i) dc, .slice (some ⟨vb, 0, none⟩) 2 vc]).run Try.prog W1 = .ok (goInt (Nat.min 2 (n + 1 - i))) (W1.setCells w.heap.size i us) := fun ty dc =>
    run_copyN W1 22 ty 27 1 w.heap.size i (n + 1 - i) dc vb 0 2 vc us Try.underlying22 sizeP (by rw [show Nat.min 2 (n + 1 - i) = 2 from Nat.min_eq_left (by omega)]; omega) hV
      (fun j hj => hN _ (by omega)) (fun j _ => hNf _) h1u
  obtain ⟨W2, hW2⟩ : ∃ W2, W2 = W1.setCells w.heap.size i us := ⟨_, rfl⟩
  have hR2 : CellsAt W2 w.heap.size 0 (ROW.toList.take i ++ (us ++ ROW.toList.drop (i + us.length))) := by
    rw [hW2]; exact hR1.set (by rw [HRL.out]; omega)
  have hO2 : CellsAt W2 g 0 vs := by rw [hW2]; exact hO.other (by omega)
  have hNf2 : ∀ j, W2.frozen? ⟨w.heap.size, j, none⟩ = false := fun j => by rw [hW2, World.frozen?_setCells]; exact hNf j
  have hB2 : Below w.heap.size w W2 := by rw [hW2]; exact Below.setCells hB1 (Nat.le_refl _) _ _
  have hS2 : w.heap.size < W2.heap.size := by rw [hW2]; exact Nat.lt_of_lt_of_le hS1 (setCells_size _ _ _ _)
  rw [← hW2] at hcpA
  have hl2 : (ROW.toList.take i ++ (us ++ ROW.toList.drop (i + us.length))).length = ROW.size := by
    rw [List.length_append, List.length_append, List.length_take, List.length_drop, HRL.out]; omega
  have hdl : (vs.drop (i + 1)).length = n - (i + 1) := by rw [List.length_drop, ← hn]
  have hcpB : ∀ ty dc sc, (Builtin.copy_ #[22, 22] ty #[.slice (some ⟨w.heap.size, i + 2, none⟩) (n + 1 - (i + 2)) dc, .slice (some ⟨g, i + 1, none⟩) (n - (i + 1)) sc]).run Try.prog W2.drew = .ok (goInt (Nat.min (n - (i + 1)) (n + 1 - (i + 2)))) (W2.drew.setCells w.heap.size (i + 2) (vs.drop (i + 1))) := fun ty dc sc =>
    run_copyN W2.drew 22 ty 27 1 w.heap.size (i + 2) (n + 1 - (i + 2)) dc g (i + 1) (n - (i + 1)) sc (vs.drop (i + 1)) Try.underlying22 sizeP (by rw [hdl, show Nat.min (n - (i + 1)) (n + 1 - (i + 2)) = n - (i + 1) from Nat.min_eq_left (by omega)]; omega)
      (fun j u hj => by have := hO2.drop (i + 1) j u hj; rwa [Nat.zero_add] at this)
      (fun j hj => by have := hR2.some_ (j := i + 2 + j) (by rw [hl2]; omega); rw [Nat.zero_add] at this; exact this)
      (fun j _ => hNf2 _) (fun v hv => h1v v (List.mem_of_mem_drop hv))
  have HRLEN : Hid ((vs.take i ++ (us ++ vs.drop (i + 1))).length = n + 1) := by show _ = _; rw [List.length_append, List.length_append, List.length_take, List.length_drop, ← hn]; omega
  have HFIN : Hid (CellsAt (W2.drew.setCells w.heap.size (i + 2) (vs.drop (i + 1))) w.heap.size 0 (vs.take i ++ (us ++ vs.drop (i + 1)))) := by
    have h3 := CellsAt.set (w := W2.drew) (g := w.heap.size) (o := i + 2) (vs := vs.drop (i + 1)) hR2 (by rw [hl2, hdl]; omega)
    have e : vs.take i ++ (us ++ vs.drop (i + 1)) = ((ROW.toList.take i ++ (us ++ ROW.toList.drop (i + us.length))).take (i + 2)) ++ vs.drop (i + 1) := by
      have h2 : ROW.toList.take i ++ (us ++ ROW.toList.drop (i + us.length)) = (ROW.toList.take i ++ us) ++ ROW.toList.drop (i + us.length) := by rw [List.append_assoc]
      rw [h2, List.take_left' (by rw [List.length_append, List.length_take, HRL.out]; omega), hRt, List.append_assoc]
    obtain ⟨X, hX⟩ : ∃ X, X = (ROW.toList.take i ++ (us ++ ROW.toList.drop (i + us.length))).take (i + 2) := ⟨_, rfl⟩
    rw [← hX] at h3 e
    have h4 := h3.take ((X ++ vs.drop (i + 1)).length)
    rw [← List.append_assoc X, List.take_left' rfl, ← e] at h4
    exact h4
  have HB3 : Hid (Below w.heap.size w (W2.drew.setCells w.heap.size (i + 2) (vs.drop (i + 1)))) := Below.setCells (w := W2.drew) ⟨hB2.os, hB2.tape, hB2.output, hB2.size, hB2.block⟩ (Nat.le_refl _) _ _
  have HS3 : Hid (w.heap.size < (W2.drew.setCells w.heap.size (i + 2) (vs.drop (i + 1))).heap.size) := Nat.lt_of_lt_of_le hS2 (setCells_size _ W2.drew _ _)
  exact ⟨G, W1, W2, hGn, hG63, hrz, hcpA, hcpB, HFIN.out, HB3.out, HS3.out⟩
set_option maxHeartbeats 4000000 in
set_option maxRecDepth 100000 in
theorem replace_mid (g vb vc i : Nat) (vs us : List Value) (w : World) (hl : vs.length ≤ 100000) (hi : i + 1 < vs.length) (hu : us.length = 2) (hcs : CellsAt w g 0 vs) (hvs : CellsAt w vb 0 us) (h1u : ∀ u ∈ us, u.oneCell' = true) (h1v : ∀ u ∈ vs, u.oneCell' = true) :
    Calls Try.prog 73 #[rowV g vs.length, .int .i64 i, .int .i64 ((i : Int) + 1), .slice (some ⟨vb, 0, none⟩) 2 vc] w (RetRep w (vs.take i ++ (us ++ vs.drop (i + 1)))) := by
  have HRLEN : Hid ((vs.take i ++ (us ++ vs.drop (i + 1))).length = vs.length + 1) := by show _ = _; rw [List.length_append, List.length_append, List.length_take, List.length_drop]; omega
  have HFACT := Lib.hid (fun q => repl_facts q g vb vc i vs.length vs us w hl rfl hi hu hcs hvs h1u h1v)
  clear hcs hvs h1u h1v hu
  generalize vs.length = n at *
  have e4 : (i : Int) ≤ (n : Int) := by omega
  have e6 : (i : Int) ≤ (i : Int) + 1 := by omega
  have e7 : (i : Int) + 1 ≤ (n : Int) := by omega
  have e9 : (((i : Int) + 1) == (n : Int)) = false := by rw [beq_eq_false_iff_ne]; omega
  have e10 : ((i : Int) == ((i : Int) + 1)) = false := by rw [beq_eq_false_iff_ne]; omega
  have e11 : ((i : Int) + 1).toNat = i + 1 := by omega
  have e12 : ((i : Int) + 2).toNat = i + 2 := by omega
  have hni : ¬ (n = i) := by omega
  have hni1 : ¬ (n = i + 1) := by omega
  have e13 : (i : Int) + 2 + ((n - (i + 1) : Nat) : Int) = (n : Int) + 1 := by omega
  have e14 : (n : Int) < (n : Int) + 1 := by omega
  have e15 : (i : Int) + 2 ≤ (n : Int) + 1 := by omega
  have e16 : (0 : Int) ≤ (i : Int) + 2 := by omega
  have e17 : (0 : Int) ≤ (i : Int) + 1 := by omega
  have y1 : IntKind.i64.wrap ((i : Int) + 2) = (i : Int) + 2 := by rw [IntKind.wrap_i64]; omega
  have y2 : IntKind.i64.wrap ((n : Int) + 1) = (n : Int) + 1 := by rw [IntKind.wrap_i64]; omega
  have mixed : Try.prog.follows Departure.mixedOrders = true := by kernel_rfl
  go_enter Try.func73, Try.ntmps73
  go_wp2_with fail
  go_quiet (fail)
  obtain ⟨G, W1, W2, hGn, hG63, h1, h2, h3, h4, h5, h6⟩ := HFACT.out nq
  have HRZ := Lib.hid h1
  have HCA := Lib.hid h2
  have HCB := Lib.hid h3
  have HFIN := Lib.hid h4
  have HB3 := Lib.hid h5
  have HS3 := Lib.hid h6
  clear h1 h2 h3 h4 h5 h6 HFACT
  have hGi : ¬ (G = i) := by omega
  have hGim : ¬ (G = i + 2) := by omega
  go_wp2_with (at_builtin; refine Lib.wpList_append_run _ rfl _ _ _ _ rfl _ _ rfl rfl _ _ (HRZ.out _) ?_)
  rw [HCA.out 3 (G - i)]
  go_wp2_with fail
  go_region_law_o (refine Go.Proofs.step_copy_runI rfl _ _ 22 22 rfl (.slice (some ⟨w.heap.size, i + 2, none⟩) (n + 1 - (i + 2)) (G - (i + 2))) (.slice (some ⟨g, i + 1, none⟩) (n - (i + 1)) (n - (i + 1))) (by simp [Act.eval, Act.put]) (by simp [Act.eval, Act.put]) (HCB.out 3 (G - (i + 2)) (n - (i + 1))) ?_)
  go_wp2
  go_ret
  exact ⟨G, by rw [HRLEN.out]; rfl, by rw [HRLEN.out]; exact hGn, HFIN.out, HS3.out, HB3.out⟩
end Go.Proofs.Ytflijnhgonigjaa
