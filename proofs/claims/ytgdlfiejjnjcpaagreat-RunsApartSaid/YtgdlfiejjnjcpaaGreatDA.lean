/-
  WALK: slices.Insert of one change into a row of the call's own, with and without room. Conditions: at most 2000 changes.
-/
import Derived.Test.YtgdlfiejjnjcpaaGreatBL
import Derived.Lib.AppendZerosOnto
import Derived.Lib.SliceRun
import Derived.Lib.SlBuf
import Derived.Lib.Overlaps
import Derived.Deep.AppendSrc
import Derived.Laws.Externs
import Derived.Laws.IdiomCopy
import Derived.Laws.NewBlocks
import Derived.Shelf.RegionOpenPlain
set_option linter.unusedVariables false
set_option linter.unusedSimpArgs false
namespace Go.Proofs.YtgdlfiejjnjcpaaGreat.Dl
open Go.RowKit
open Sl (Turns) 
open Lg (Ch chCells chsCells chsCells_len chsCells_snoc info58 one_ch)

/-- cells stored over a part of an array of cells. -/
def setA (cs : Array Value) : Nat → List Value → Array Value
  | _, [] => cs
  | o, v :: r => setA (cs.setIfInBounds o v) (o + 1) r
theorem setA_size : ∀ (vs : List Value) (cs : Array Value) (o : Nat), (setA cs o vs).size = cs.size
  | [], _, _ => rfl
  | v :: r, cs, o => by rw [setA, setA_size r]; simp
theorem setA_list : ∀ (vs : List Value) (cs : Array Value) (o : Nat), o + vs.length ≤ cs.size → (setA cs o vs).toList = cs.toList.take o ++ (vs ++ cs.toList.drop (o + vs.length))
  | [], cs, o, _ => by simp [setA]
  | v :: r, cs, o, h => by
    have h' : o + 1 + r.length ≤ cs.size := by simp at h; omega
    rw [setA, setA_list r _ (o + 1) (by simpa using h')]
    simp only [Array.toList_setIfInBounds]
    have ho : o < cs.toList.length := by simp at h ⊢; omega
    rw [show o + (v :: r).length = o + 1 + r.length by simp; omega]
    rw [List.drop_set_of_lt (by omega)]
    have e : (cs.toList.set o v).take (o + 1) = cs.toList.take o ++ [v] := by
      apply List.ext_getElem?
      intro j
      rw [List.getElem?_take]
      rcases Nat.lt_trichotomy j o with hj | hj | hj
      · rw [if_pos (by omega), List.getElem?_set_ne (by omega), List.getElem?_append_left (by rw [List.length_take]; omega), List.getElem?_take, if_pos hj]
      · subst hj
        rw [if_pos (by omega), List.getElem?_set_self ho, List.getElem?_append_right (by rw [List.length_take]; omega), List.length_take, Nat.min_eq_left (by omega)]
        simp
      · rw [if_neg (by omega), List.getElem?_eq_none (by rw [List.length_append, List.length_take]; simp; omega)]
    rw [e, List.append_assoc]
    rfl
theorem heap_setCell_same (w : World) (b o : Nat) (v : Value) {cs : Array Value} {t : TypeId} {fr : Nat × Nat} (h : w.heap[b]? = some (.cells cs t fr)) :
    (w.setCell ⟨b, o, none⟩ v).heap[b]? = some (.cells (cs.setIfInBounds o v) t fr) := by
  simp only [World.setCell, Array.getElem?_modify, h]
  simp
theorem heap_setCells_same (b : Nat) {t : TypeId} {fr : Nat × Nat} : ∀ (vs : List Value) (o : Nat) (w : World) {cs : Array Value}, w.heap[b]? = some (.cells cs t fr) → (w.setCells b o vs).heap[b]? = some (.cells (setA cs o vs) t fr)
  | [], _, _, _, h => h
  | v :: r, o, w, cs, h => by
    rw [World.setCells, setA]
    exact heap_setCells_same b r (o + 1) _ (heap_setCell_same w b o v h)

def CellsAt (w : World) (g o : Nat) (vs : List Value) : Prop := ∀ j u, vs[j]? = some u → w.cell? ⟨g, o + j, none⟩ = some u
theorem cells_block {w : World} {g : Nat} {cs : Array Value} {t : TypeId} {fr : Nat × Nat} (h : w.heap[g]? = some (.cells cs t fr)) (o : Nat) (vs : List Value) (hv : ∀ j u, vs[j]? = some u → cs[o + j]? = some u) : CellsAt w g o vs := fun j u hj => by
  simp only [World.cell?, h]
  exact hv j u hj
theorem some_block {w : World} {g : Nat} {cs : Array Value} {t : TypeId} {fr : Nat × Nat} (h : w.heap[g]? = some (.cells cs t fr)) {j : Nat} (hj : j < cs.size) : (w.cell? ⟨g, j, none⟩).isSome = true := by
  simp only [World.cell?, h]
  simp [hj]
theorem thaw_block {w : World} {g : Nat} {cs : Array Value} {t : TypeId} (h : w.heap[g]? = some (.cells cs t (0, 0))) (j : Nat) : w.frozen? ⟨g, j, none⟩ = false := by
  simp [World.frozen?, h]
theorem grown_setCells (b : Nat) : ∀ (vs : List Value) (o : Nat) (w : World), w.grownBy (w.setCells b o vs) (some b)
  | [], _, w => ⟨rfl, rfl, rfl, Nat.le_refl _, fun _ _ _ => rfl⟩
  | v :: r, o, w => by
    have h2 := grown_setCells b r (o + 1) (w.setCell ⟨b, o, none⟩ v)
    have hs : (w.setCell ⟨b, o, none⟩ v).heap.size = w.heap.size := by simp [World.setCell]
    refine ⟨h2.os, h2.tape, h2.output, by have := h2.size; rw [hs] at this; exact this, fun k hk hne => (h2.block k (by rw [hs]; exact hk) hne).trans ?_⟩
    have hne' : k ≠ b := fun e => hne (by rw [e])
    simp only [World.setCell, Array.getElem?_modify]
    rw [if_neg (by show ¬ b = k; exact fun e => hne' e.symm)]
theorem other_block {w : World} {b g o : Nat} {vs : List Value} (hne : g ≠ b) (hg : g < w.heap.size) : (w.setCells b o vs).heap[g]? = w.heap[g]? := (grown_setCells b vs o w).block g hg (fun e => hne (Option.some.inj e))

section
variable {P : Program}
theorem run_copyN (w : World) (T ty elem : TypeId) (sz b o dLen dCap sb so sLen sCap : Nat) (cs : List Value)
    (hu : P.underlying T = some (.slice elem)) (hs : (P.info? elem).map (·.size) = some sz) (hn : cs.length = Nat.min sLen dLen * sz)
    (hsrc : CellsAt w sb so cs) (hc : ∀ j, j < cs.length → (w.cell? ⟨b, o + j, none⟩).isSome = true) (hf : ∀ j, j < cs.length → w.frozen? ⟨b, o + j, none⟩ = false) (h1 : ∀ v ∈ cs, v.oneCell' = true) :
    (Builtin.copy_ #[T, T] ty #[.slice (some ⟨b, o, none⟩) dLen dCap, .slice (some ⟨sb, so, none⟩) sLen sCap]).run P w = .ok (goInt (Nat.min sLen dLen)) (w.setCells b o cs) := by
  have hl := run_loadCells_list (P := P) w ⟨sb, so, none⟩ cs (fun j v hj => by rw [Go.WideShapes.add_plain]; exact hsrc j v hj)
  have hst := run_storeCells_cells (P := P) b o cs 0 w (by simpa using hc) (by simpa using hf) h1
  cases hq : P.info? elem with
  | none => simp [hq] at hs
  | some i =>
    have hi : i.size = sz := by simpa [hq] using hs
    simp [Builtin.copy_, run_underlying hu, Builtin.lenOf, Builtin.firstCells, sizeOf, typeInfo, hq, hi, ← hn, hl, hst]
end

theorem step_copy {P : Program} {ops : Array Oper} {o : Oper} {a : Act} {w : World} {K : Act → World → Prop} {Q : Exit → Act → World → Prop} {E : Prop} (hg : o.guard = none) (d x : Operand) (T T' : TypeId)
    (hop : o.op = .call { callee := .builtin .copy, args := #[d, x], argTypes := #[T, T'] }) (v u : Value) (hd : a.eval d = v) (hx : a.eval x = u) {v' : Value} {w' : World}
    (hr : (Builtin.copy_ #[T, T'] o.type #[v, u]).run P w = .ok v' w') (hK : K (a.put o.dst v') w') : if Region.wanted o (yielded ops a.tmps) = true then Oper.wp P o a w K Q else E := by
  rw [if_pos (by simp [Region.wanted, hg])]
  exact Lib.wp_copy_run w d x T T' hop v u hd hx hr hK

def insL (l : List Ch) (i : Nat) (x : Ch) : List Ch := l.take i ++ x :: l.drop i
theorem insL_len (l : List Ch) (i : Nat) (x : Ch) : (insL l i x).length = l.length + 1 := by
  unfold insL
  have h := congrArg List.length (List.take_append_drop i l)
  rw [List.length_append] at h ⊢
  simp only [List.length_cons]
  omega
theorem insL_end (l : List Ch) (x : Ch) : insL l l.length x = l ++ [x] := by simp [insL]
theorem cells_app (a b : List Ch) : chsCells (a ++ b) = chsCells a ++ chsCells b := by simp [chsCells]
theorem cells_take (l : List Ch) (i : Nat) (hi : i ≤ l.length) : chsCells (l.take i) = (chsCells l).take (i * 2) := by
  have h := cells_app (l.take i) (l.drop i)
  rw [List.take_append_drop] at h
  rw [h]
  exact (List.take_left' (by rw [chsCells_len, List.length_take]; omega)).symm
theorem cells_drop (l : List Ch) (i : Nat) (hi : i ≤ l.length) : chsCells (l.drop i) = (chsCells l).drop (i * 2) := by
  have h := cells_app (l.take i) (l.drop i)
  rw [List.take_append_drop] at h
  conv => rhs; rw [h]
  exact (List.drop_left' (by rw [chsCells_len, List.length_take]; omega)).symm
theorem cells_ins (l : List Ch) (i : Nat) (x : Ch) (hi : i ≤ l.length) : chsCells (insL l i x) = (chsCells l).take (i * 2) ++ (chCells x ++ (chsCells l).drop (i * 2)) := by
  unfold insL
  rw [cells_app, cells_take l i hi, ← cells_drop l i hi]
  rfl
theorem cells_one (l : List Ch) : ∀ u ∈ chsCells l, u.oneCell' = true := fun u hu => by
  unfold chsCells at hu
  obtain ⟨s, _, hs⟩ := List.mem_flatMap.1 hu
  exact one_ch s u hs

theorem own_le {w : World} {base base' n sz : Nat} {e : TypeId} {v : Value} {xs : List Value} (h : w.ownsRow base e sz v n xs) (hb : base' ≤ base) : w.ownsRow base' e sz v n xs :=
  ⟨h.1, h.2.imp id fun ⟨g, c, cur, e1, h1, r⟩ => ⟨g, c, cur, e1, Nat.le_trans hb h1, r⟩⟩

/-- what Insert hands back. -/
def RetIns (w : World) (base : Nat) (v : Value) (l : List Ch) (i : Nat) (x : Ch) (e : Ending) (w' : World) : Prop :=
  ∃ v', e = .returned v' ∧ w'.ownsRow base 68 2 v' (insL l i x).length (chsCells (insL l i x)) ∧ w.grownBy w' v.ownBlock ∧ ∀ g, v'.ownBlock = some g → v.ownBlock = some g ∨ w.heap.size ≤ g

set_option maxHeartbeats 4000000 in
set_option maxRecDepth 100000 in
theorem insert_end (base : Nat) (v : Value) (l : List Ch) (x : Ch) (vb : Nat) (w : World) (hv : w.ownsRow base 68 2 v l.length (chsCells l)) (hl : l.length ≤ 2000) (hb : base ≤ w.heap.size)
    (hvb : w.heap[vb]? = some (.cells (chCells x).toArray 68 (0, 0))) :
    Calls Tryz.prog 86 #[v, .int .i64 l.length, .slice (some ⟨vb, 0, none⟩) 1 1] w (RetIns w base v l l.length x) := by
  obtain ⟨i0, hi, hz0, hz1, hz2⟩ := info_parts info58
  have hnews : ∀ j u, (chCells x)[j]? = some u → w.cell? ((⟨vb, 0, none⟩ : Addr).add j) = some u := fun j u hj => by
    rw [Go.WideShapes.add_plain]
    exact cells_block hvb 0 (chCells x) (fun j u h => by rw [Nat.zero_add]; simpa using h) j u hj
  have hsrc : Src Tryz.prog i0.size 65 (.slice (some ⟨vb, 0, none⟩) 1 1) 1 (chCells x) w := by
    rw [hz1]
    exact Src.ofSlice w Tryz.underlying65 ⟨vb, 0, none⟩ 1 1 (chCells x) rfl hnews (one_ch x)
  have mixed : Tryz.prog.follows Departure.mixedOrders = true := by kernel_rfl
  obtain ⟨hlen, hr⟩ := id hv
  rcases hr with ⟨rfl, hn⟩ | ⟨g, cap, cur, rfl, hbg, hg, hcap, hcm, hcs, htk⟩
  · have e0 : l = [] := List.eq_nil_of_length_eq_zero hn
    subst e0
    have HN := Lib.hid hnews
    have HI := Lib.hid hi
    have H0 := Lib.hid hz0
    have H1 := Lib.hid hz1
    have H2 := Lib.hid hz2
    have HB := Lib.hid hb
    have HV : Hid (w.ownsRow w.heap.size 68 2 (.slice none 0 0) 0 (chsCells [])) := ⟨rfl, .inl ⟨rfl, rfl⟩⟩
    clear hnews hv hi hz0 hz1 hz2 hb hvb hsrc hlen
    go_enter Tryz.func86, Tryz.ntmps86
    go_wp2_with (at_builtin; refine wpList_append_own _ rfl _ _ 65 rfl w.heap.size 68 _ _ 2 24 Tryz.underlying65 HI.out H0.out H1.out H2.out rfl (by decide) _ 0 (chsCells []) rfl HV.out ⟨vb, 0, none⟩ 1 1 (chCells x) rfl rfl HN.out (one_ch x) (by unfold maxLen; omega) (by omega) (Nat.le_refl _) (fun v' w' h1 h2 _ => ?_))
    go_ret
    exact ⟨v', rfl, own_le h1 HB.out, h2, fun k hk => .inr (h1.lt k hk).1⟩
  · have hcell : ∀ j u, (chsCells l)[j]? = some u → cur[j]? = some u := fun j u hj => by
      have hj2 := hj
      rw [← htk, List.getElem?_take] at hj2
      split at hj2
      · simpa using hj2
      · cases hj2
    have hcl : (chCells x).length = 2 := rfl
    generalize hnn : l.length = n at *
    unfold maxLen at hcm
    have hle : (insL l n x).length = n + 1 := by rw [insL_len, hnn]
    have hci : chsCells (insL l n x) = chsCells l ++ chCells x := by rw [← hnn, insL_end, chsCells_snoc]
    rcases Nat.lt_or_ge n cap with hroom | hroom
    · have HF : Hid ((w.setCells g (0 + n * i0.size) (chCells x)).ownsRow base 68 2 (.slice (some ⟨g, 0, none⟩) (n + 1) cap) (insL l n x).length (chsCells (insL l n x))) := by
        rw [hz1, Nat.zero_add]
        refine ⟨by rw [chsCells_len], .inr ⟨g, cap, _, by rw [hle], hbg, heap_setCells_same g _ _ _ hg, by rw [hle]; omega, by unfold maxLen; exact hcm, by rw [setA_size, hcs], ?_⟩⟩
        rw [setA_list _ _ _ (by rw [hcl, hcs]; omega), htk, hle, hci, ← List.append_assoc]
        exact List.take_left' (by rw [List.length_append, hcl, hlen]; omega)
      have HB : Hid (w.grownBy (w.setCells g (0 + n * i0.size) (chCells x)) (some g)) := grown_setCells g _ _ w
      have hC : (∀ j, j < (chCells x).length → (w.cell? ⟨g, 0 + n * i0.size + j, none⟩).isSome = true) := fun j hj => some_block hg (by rw [hcs, hz1]; rw [hcl] at hj; omega)
      have hZ : (∀ j, j < (chCells x).length → w.frozen? ⟨g, 0 + n * i0.size + j, none⟩ = false) := fun j _ => thaw_block hg _
      have hrun : ∀ ty, (Builtin.append_ #[65, 65] ty #[.slice (some ⟨g, 0, none⟩) n cap, .slice (some ⟨vb, 0, none⟩) 1 1]).run Tryz.prog w = .ok (.slice (some ⟨g, 0, none⟩) (n + 1) cap) (w.setCells g (0 + n * i0.size) (chCells x)) := fun ty =>
        run_append_room_src (P := Tryz.prog) (w := w) 65 65 ty 68 i0 Tryz.underlying65 hi g 0 n cap _ 1 (chCells x) hsrc (by omega) hC hZ
      have HR := Lib.hid hrun
      rw [Nat.zero_add] at HF HB
      have hz2' : ¬ (cap < n + 1) := by omega
      clear hrun hC hZ hnews hv hi hz0 hz1 hz2 hvb hsrc hlen hcell hcl hg hcs htk
      go_enter Tryz.func86, Tryz.ntmps86
      go_wp2_with (at_builtin; refine Lib.wpList_append_run _ rfl _ _ _ _ rfl _ _ rfl rfl _ _ (HR.out _) ?_)
      all_goals
        go_ret
        exact ⟨_, rfl, HF.out, HB.out, fun k hk => .inl hk⟩
    · have ec : cap = n := by omega
      subst ec
      have hold : (Builtin.firstCells i0.size cap (.slice (some ⟨g, 0, none⟩) cap cap)).run Tryz.prog w.drew = .ok (chsCells l).toArray w.drew := by
        rw [hz1]
        exact run_firstCells_some w.drew 2 cap ⟨g, 0, none⟩ cap cap (chsCells l) hlen (fun j v hj => by
          rw [Go.WideShapes.add_plain]
          exact cells_block (w := w.drew) hg 0 (chsCells l) (fun j u hj => by rw [Nat.zero_add]; exact hcell _ _ hj) j v hj)
      have hrun : ∀ ty, (Builtin.append_ #[65, 65] ty #[.slice (some ⟨g, 0, none⟩) cap cap, .slice (some ⟨vb, 0, none⟩) 1 1]).run Tryz.prog w = _ := fun ty =>
        run_append_grow_src w 65 65 ty 68 i0 _ Tryz.underlying65 hi hz0 (some ⟨g, 0, none⟩) cap cap (chsCells l) hold _ 1 (chCells x) hsrc (by omega) (by omega) (by rw [hz2]; exact growslice_fits (by omega) (by omega))
      have hGn : cap + 1 ≤ grownCap w (cap + 1) cap 68 := grownCap_ge w _ _ _
      have hG63 : grownCap w (cap + 1) cap 68 ≤ 9223372036854775807 := by
        have := grownCap_le_maxLen w (cap + 1) cap 68 (by unfold maxLen; omega)
        unfold maxLen at this; omega
      have HF : Hid ((w.drew.alloc (.cells ((chsCells l ++ chCells x).toArray ++ Builtin.zeroCells (Value.agg #[.int .i64 0, .string ⟨#[]⟩]).cells (grownCap w (cap + 1) cap 68 - (cap + 1))) 68)).ownsRow base 68 2 (.slice (some ⟨w.heap.size, 0, none⟩) (cap + 1) (grownCap w (cap + 1) cap 68)) (insL l cap x).length (chsCells (insL l cap x))) := by
        refine ⟨by rw [chsCells_len], .inr ⟨w.heap.size, _, _, by rw [hle], hb, heap_alloc_new w.drew _, by rw [hle]; exact hGn, by unfold maxLen; omega, ?_, ?_⟩⟩
        · rw [Array.size_append, size_zeroCells, List.size_toArray, List.length_append, hlen, hcl, show (Value.agg #[.int .i64 0, .string ⟨#[]⟩]).cells.size = 2 from rfl]; omega
        · rw [hle, hci, Array.toList_append, List.toList_toArray]
          exact List.take_left' (by rw [List.length_append, hcl, hlen]; omega)
      have HB : Hid (w.grownBy (w.drew.alloc (.cells ((chsCells l ++ chCells x).toArray ++ Builtin.zeroCells (Value.agg #[.int .i64 0, .string ⟨#[]⟩]).cells (grownCap w (cap + 1) cap 68 - (cap + 1))) 68)) (some g)) := by
        have h := Below.alloc (a := w) (w := w.drew) (B := w.heap.size) ⟨rfl, rfl, rfl, Nat.le_refl _, fun _ _ => rfl⟩ (Nat.le_refl _) (.cells ((chsCells l ++ chCells x).toArray ++ Builtin.zeroCells (Value.agg #[.int .i64 0, .string ⟨#[]⟩]).cells (grownCap w (cap + 1) cap 68 - (cap + 1))) 68)
        exact ⟨h.os, h.tape, h.output, h.size, fun k hk _ => h.block k hk⟩
      have HR := Lib.hid hrun
      clear hrun hold hsrc hnews hv hi hz0 hz1 hz2 hvb hlen hcell hcl hg hcs htk hGn hG63
      generalize grownCap w (cap + 1) cap 68 = G at *
      generalize (.cells ((chsCells l ++ chCells x).toArray ++ Builtin.zeroCells (Value.agg #[.int .i64 0, .string ⟨#[]⟩]).cells (G - (cap + 1))) 68 : Obj) = ob at *
      go_enter Tryz.func86, Tryz.ntmps86
      go_wp2_with (at_builtin; refine Lib.wpList_append_run _ rfl _ _ _ _ rfl _ _ rfl rfl _ _ (HR.out _) ?_)
      all_goals
        go_ret
        exact ⟨_, rfl, HF.out, HB.out, fun k hk => .inr (by have hk2 : w.heap.size = k := Option.some.inj hk; omega)⟩

abbrev zC : Array Value := (Value.agg #[.int .i64 0, .string ⟨#[]⟩]).cells
theorem zC_size : zC.size = 2 := rfl
theorem size78 : (Tryz.prog.info? 68).map (·.size) = some 2 := by kernel_rfl
theorem sizeOf78 (w : World) : (Go.sizeOf 68).run Tryz.prog w = .ok 2 w := by
  obtain ⟨i0, hi, hz0, hz1, hz2⟩ := info_parts info58
  simp [Go.sizeOf, typeInfo, hi, hz1]
theorem overlaps_no (a b : Addr) (la ca lb cb : Nat) (w : World) (hne : a.block ≠ b.block) (tA tB : TypeId) (kA kB : Nat)
    (hsa : w.shape? a.block = some (tA, kA)) (hsb : w.shape? b.block = some (tB, kB)) (hkB : kB ≠ 0)
    (hfa : w.frozen? a = false) (hfe : w.frozen? { block := a.block, off := kA } = false) :
    (callFunc 112 #[.slice (some a) la ca, .slice (some b) lb cb]).run Tryz.prog w = .ok (.value (.bool false)) w := by
  obtain ⟨fn, hfn⟩ := Option.isSome_iff_exists.1 (by kernel_rfl : (Tryz.prog.funcs[112]?).isSome = true)
  have h0 : (Tryz.prog.funcs[112]?.map fun fn => ((fn.name == "runtime.NumGoroutine"), fn.body.isNone, (Extern.findNext fn).isNone)) = some (false, true, true) := by kernel_rfl
  rw [hfn] at h0
  simp only [Option.map_some, Option.some.injEq, Prod.mk.injEq] at h0
  have he : (Tryz.prog.funcs[112]?.bind fun fn => Extern.find fn) = some (Extern.SlicesOverlaps.overlaps #[65, 65] #[4]) := by kernel_rfl
  rw [hfn] at he
  rw [run_callFunc_extern hfn h0.1 h0.2.1 (by simpa using h0.2.2) (e := Extern.SlicesOverlaps.overlaps #[65, 65] #[4]) he,
    Lib.run_overlaps_apart w 65 4 68 Tryz.underlying65 2 sizeOf78 a b la ca lb cb hne tA tB kA kB hsa hsb hkB hfa hfe]
  rfl

set_option maxHeartbeats 4000000 in
set_option maxRecDepth 100000 in
theorem insert_room (base g cap : Nat) (l : List Ch) (x : Ch) (i vb : Nat) (w : World) (hv : w.ownsRow base 68 2 (.slice (some ⟨g, 0, none⟩) l.length cap) l.length (chsCells l)) (hl : l.length ≤ 2000) (hi : i < l.length)
    (hroom : l.length + 1 ≤ cap) (hvb : w.heap[vb]? = some (.cells (chCells x).toArray 68 (0, 0))) (hne : vb ≠ g) :
    Calls Tryz.prog 86 #[.slice (some ⟨g, 0, none⟩) l.length cap, .int .i64 i, .slice (some ⟨vb, 0, none⟩) 1 1] w (RetIns w base (.slice (some ⟨g, 0, none⟩) l.length cap) l i x) := by
  obtain ⟨hlen, hr⟩ := hv
  rcases hr with ⟨h, _⟩ | ⟨g', cap', cur, hvv, hbg, hg, hnc, hcm, hcs, htk⟩
  · cases h
  injection hvv with e1 e2 e3
  injection e1 with e1
  injection e1 with e1
  subst e1; subst e3
  have hgl : g < w.heap.size := (Array.getElem?_eq_some_iff.1 hg).1
  have hvl : vb < w.heap.size := (Array.getElem?_eq_some_iff.1 hvb).1
  unfold maxLen at hcm
  generalize hnn : l.length = n at *
  have hdl : ((chsCells l).drop (i * 2)).length = (n - i) * 2 := by rw [List.length_drop, hlen]; omega
  have hcl : (chCells x).length = 2 := rfl
  have hcell : ∀ j u, (chsCells l)[j]? = some u → cur[j]? = some u := fun j u hj => by
    have hj2 := hj
    rw [← htk, List.getElem?_take] at hj2
    split at hj2
    · simpa using hj2
    · cases hj2
  have hov : ∀ lb cb, (callFunc 112 #[.slice (some ⟨vb, 0, none⟩) 1 1, .slice (some ⟨g, (i + 1) * 2, none⟩) lb cb]).run Tryz.prog w = .ok (.value (.bool false)) w := fun lb cb =>
    overlaps_no ⟨vb, 0, none⟩ ⟨g, (i + 1) * 2, none⟩ 1 1 lb cb w hne 68 68 2 (cap * 2) (by simp [World.shape?, hvb, chCells]) (by simp [World.shape?, hg, hcs]) (by omega) (thaw_block hvb 0) (thaw_block hvb 2)
  have hcp1 : ∀ ty dc sc, (Builtin.copy_ #[65, 65] ty #[.slice (some ⟨g, (i + 1) * 2, none⟩) (n - i) dc, .slice (some ⟨g, i * 2, none⟩) (n + 1 - i) sc]).run Tryz.prog w.drew =
      .ok (goInt (Nat.min (n + 1 - i) (n - i))) (w.drew.setCells g ((i + 1) * 2) ((chsCells l).drop (i * 2))) := fun ty dc sc =>
    run_copyN w.drew 65 ty 68 2 g ((i + 1) * 2) (n - i) dc g (i * 2) (n + 1 - i) sc ((chsCells l).drop (i * 2)) Tryz.underlying65 size78 (by rw [hdl, show Nat.min (n + 1 - i) (n - i) = n - i by simp only [Nat.min_def]; split <;> omega])
      (cells_block (w := w.drew) hg (i * 2) _ (fun j u hj => by rw [List.getElem?_drop] at hj; exact hcell _ _ hj))
      (fun j hj => some_block (w := w.drew) hg (by rw [hcs]; omega)) (fun j _ => thaw_block (w := w.drew) hg _) (fun v hv => cells_one l v (List.mem_of_mem_drop hv))
  obtain ⟨W1, hW1⟩ : ∃ W1, W1 = w.drew.setCells g ((i + 1) * 2) ((chsCells l).drop (i * 2)) := ⟨_, rfl⟩
  have hg1 : W1.heap[g]? = some (.cells (setA cur ((i + 1) * 2) ((chsCells l).drop (i * 2))) 68 (0, 0)) := by rw [hW1]; exact heap_setCells_same g _ _ w.drew hg
  have hv1 : W1.heap[vb]? = some (.cells (chCells x).toArray 68 (0, 0)) := by rw [hW1]; exact (other_block (w := w.drew) hne hvl).trans hvb
  have hB1 : w.grownBy W1 (some g) := by
    have h := grown_setCells g ((chsCells l).drop (i * 2)) ((i + 1) * 2) w.drew
    rw [← hW1] at h
    exact ⟨h.os, h.tape, h.output, h.size, h.block⟩
  have hcp2 : ∀ ty dc, (Builtin.copy_ #[65, 65] ty #[.slice (some ⟨g, i * 2, none⟩) (n + 1 - i) dc, .slice (some ⟨vb, 0, none⟩) 1 1]).run Tryz.prog W1 = .ok (goInt (Nat.min 1 (n + 1 - i))) (W1.setCells g (i * 2) (chCells x)) := fun ty dc =>
    run_copyN W1 65 ty 68 2 g (i * 2) (n + 1 - i) dc vb 0 1 1 (chCells x) Tryz.underlying65 size78 (by rw [show Nat.min 1 (n + 1 - i) = 1 from Nat.min_eq_left (by omega)]; rfl)
      (cells_block hv1 0 _ (fun j u hj => by rw [Nat.zero_add]; simpa using hj))
      (fun j hj => some_block hg1 (by rw [setA_size, hcs]; omega)) (fun j _ => thaw_block hg1 _) (one_ch x)
  have HF : Hid ((W1.setCells g (i * 2) (chCells x)).ownsRow base 68 2 (.slice (some ⟨g, 0, none⟩) (n + 1) cap) (insL l i x).length (chsCells (insL l i x))) := by
    have hle : (insL l i x).length = n + 1 := by rw [insL_len, hnn]
    refine ⟨by rw [chsCells_len], .inr ⟨g, cap, _, by rw [hle], hbg, heap_setCells_same g _ _ _ hg1, by rw [hle]; exact hroom, by unfold maxLen; exact hcm, by rw [setA_size, setA_size, hcs], ?_⟩⟩
    have hL1 : (setA cur ((i + 1) * 2) ((chsCells l).drop (i * 2))).toList = cur.toList.take ((i + 1) * 2) ++ ((chsCells l).drop (i * 2) ++ cur.toList.drop ((i + 1) * 2 + ((chsCells l).drop (i * 2)).length)) := setA_list _ _ _ (by rw [hdl, hcs]; omega)
    have hcurl : cur.toList.length = cap * 2 := by rw [Array.length_toList, hcs]
    have ht : (cur.toList.take ((i + 1) * 2)).length = (i + 1) * 2 := by rw [List.length_take]; omega
    have h1 : cur.toList.take (i * 2) = (chsCells l).take (i * 2) := by rw [← htk, List.take_take, show min (i * 2) (n * 2) = i * 2 by omega]
    have hT : (setA cur ((i + 1) * 2) ((chsCells l).drop (i * 2))).toList.take (i * 2) = (chsCells l).take (i * 2) := by
      rw [hL1, List.take_append_of_le_length (by rw [ht]; omega), List.take_take, show min (i * 2) ((i + 1) * 2) = i * 2 by omega, h1]
    have hD : (setA cur ((i + 1) * 2) ((chsCells l).drop (i * 2))).toList.drop (i * 2 + 2) = (chsCells l).drop (i * 2) ++ cur.toList.drop ((i + 1) * 2 + ((chsCells l).drop (i * 2)).length) := by
      rw [hL1]
      exact List.drop_left' (by rw [ht]; omega)
    rw [setA_list _ _ _ (by rw [setA_size, hcl, hcs]; omega), hT, hcl, hD, cells_ins l i x (by omega), hle]
    rw [← List.append_assoc, ← List.append_assoc, ← List.append_assoc]
    exact List.take_left' (by simp only [List.length_append, List.length_take, hdl, hcl, hlen]; omega)
  have HB : Hid (w.grownBy (W1.setCells g (i * 2) (chCells x)) (some g)) := by
    have h := grown_setCells g (chCells x) (i * 2) W1
    exact ⟨h.os.trans hB1.os, h.tape.trans hB1.tape, h.output.trans hB1.output, Nat.le_trans hB1.size h.size, fun k hk hne => (h.block k (Nat.lt_of_lt_of_le hk hB1.size) hne).trans (hB1.block k hk hne)⟩
  rw [← hW1] at hcp1
  have HOV := Lib.hid hov
  have HC1 := Lib.hid hcp1
  have HC2 := Lib.hid hcp2
  have HNN := Lib.hid hnn
  clear hov hcp1 hcp2 hW1 hg1 hv1 hB1 hcell hdl hcl hlen hg hvb hcs htk hnn hgl hvl
  have hz2 : ¬ ((i : Int) = (n : Int)) := by omega
  have hw1 : IntKind.i64.wrap ((i : Int) + 1) = (i : Int) + 1 := by rw [IntKind.wrap_i64]; omega
  have hb1 : (0 : Int) ≤ (i : Int) + 1 := by omega
  have htn : ((i : Int) + 1).toNat = i + 1 := by omega
  have hb2 : ¬ (cap = i + 1) := by omega
  have hb3 : (i : Int) ≤ (n : Int) + 1 := by omega
  have hb4 : ¬ (cap = i) := by omega
  have hb5 : (i : Int) + 1 ≤ (n : Int) + 1 := by omega
  have mixed : Tryz.prog.follows Departure.mixedOrders = true := by kernel_rfl
  go_enter Tryz.func86, Tryz.ntmps86
  go_wp2_with (simp only [HOV.out])
  go_region_law_o (refine step_copy rfl _ _ 65 65 rfl (.slice (some ⟨g, (i + 1) * 2, none⟩) (n - i) (cap - (i + 1))) (.slice (some ⟨g, i * 2, none⟩) (n + 1 - i) (cap - i)) (by simp [Act.eval, Act.put]) (by simp [Act.eval, Act.put]) (HC1.out 3 (cap - (i + 1)) (cap - i)) ?_)
  go_wp2_with fail
  rw [HC2.out 3 (cap - i)]
  go_wp2
  go_ret
  exact ⟨_, rfl, HF.out, HB.out, fun k hk => .inl hk⟩

set_option maxHeartbeats 4000000 in
set_option maxRecDepth 100000 in
theorem insert_grow (base g : Nat) (l : List Ch) (x : Ch) (i vb : Nat) (w : World) (hv : w.ownsRow base 68 2 (.slice (some ⟨g, 0, none⟩) l.length l.length) l.length (chsCells l)) (hl : l.length ≤ 2000) (hi : i < l.length)
    (hb : base ≤ w.heap.size) (hvb : w.heap[vb]? = some (.cells (chCells x).toArray 68 (0, 0))) :
    Calls Tryz.prog 86 #[.slice (some ⟨g, 0, none⟩) l.length l.length, .int .i64 i, .slice (some ⟨vb, 0, none⟩) 1 1] w (RetIns w base (.slice (some ⟨g, 0, none⟩) l.length l.length) l i x) := by
  obtain ⟨i0, hi0, hz0, hzs, hzb⟩ := info_parts info58
  obtain ⟨hlen, hr⟩ := hv
  rcases hr with ⟨h, _⟩ | ⟨g', cap', cur, hvv, hbg, hg, hnc, hcm, hcs, htk⟩
  · cases h
  injection hvv with e1 e2 e3
  injection e1 with e1
  injection e1 with e1
  subst e1; subst e3
  have hgl : g < w.heap.size := (Array.getElem?_eq_some_iff.1 hg).1
  have hvl : vb < w.heap.size := (Array.getElem?_eq_some_iff.1 hvb).1
  generalize hnn : l.length = n at *
  have hdl : ((chsCells l).drop (i * 2)).length = (n - i) * 2 := by rw [List.length_drop, hlen]; omega
  have hcl : (chCells x).length = 2 := rfl
  have hcell : ∀ j u, (chsCells l)[j]? = some u → cur[j]? = some u := fun j u hj => by
    have hj2 := hj
    rw [← htk, List.getElem?_take] at hj2
    split at hj2
    · simpa using hj2
    · cases hj2
  have hold : (Builtin.firstCells i0.size i (.slice (some ⟨g, 0, none⟩) i n)).run Tryz.prog w.drew = .ok ((chsCells l).take (i * 2)).toArray w.drew := by
    rw [hzs]
    exact run_firstCells_some w.drew 2 i ⟨g, 0, none⟩ i n ((chsCells l).take (i * 2)) (by rw [List.length_take]; omega) (fun j v hj => by
      rw [Go.WideShapes.add_plain]
      exact cells_block (w := w.drew) hg 0 ((chsCells l).take (i * 2)) (fun j u hj => by
        rw [List.getElem?_take] at hj
        split at hj
        · rw [Nat.zero_add]; exact hcell _ _ hj
        · cases hj) j v hj)
  have hrz : ∀ ty, (Builtin.append_ #[65, 3] ty #[.slice (some ⟨g, 0, none⟩) i n, .int .i64 ((n : Int) + 1 - (i : Int))]).run Tryz.prog w =
      .ok (.slice (some ⟨w.heap.size, 0, none⟩) (n + 1) (grownCap w (n + 1) n 68)) (w.drew.alloc (.cells (((chsCells l).take (i * 2)).toArray ++ Builtin.zeroCells zC (n + 1 - i) ++ Builtin.zeroCells zC (grownCap w (n + 1) n 68 - (n + 1))) 68)) := fun ty => by
    have h := Lib.run_append_grow_zeros w 65 3 ty 68 i0 _ .i64 .i64 Tryz.underlying65 Tryz.underlying3 hi0 hz0 (some ⟨g, 0, none⟩) i n ((chsCells l).take (i * 2)) hold (n + 1 - i) (by omega) (by omega) (by omega) (by omega) (by rw [hzb]; omega) (by rw [hzb, show i + (n + 1 - i) = n + 1 by omega]; exact growslice_fits (by omega) (by omega))
    rw [show i + (n + 1 - i) = n + 1 by omega] at h
    rw [show (n : Int) + 1 - (i : Int) = ((n + 1 - i : Nat) : Int) by omega]
    exact h
  obtain ⟨G, hG⟩ : ∃ G, G = grownCap w (n + 1) n 68 := ⟨_, rfl⟩
  have hGn : n + 1 ≤ G := by rw [hG]; exact grownCap_ge w _ _ _
  have hG63 : G ≤ 9223372036854775807 := by
    have := grownCap_le_maxLen w (n + 1) n 68 (by unfold maxLen; omega)
    rw [← hG] at this; unfold maxLen at this; omega
  obtain ⟨ROW, hROW⟩ : ∃ ROW : Array Value, ROW = ((chsCells l).take (i * 2)).toArray ++ Builtin.zeroCells zC (n + 1 - i) ++ Builtin.zeroCells zC (G - (n + 1)) := ⟨_, rfl⟩
  rw [← hG] at hrz
  rw [← hROW] at hrz
  have hRs : ROW.size = G * 2 := by
    rw [hROW, Array.size_append, Array.size_append, size_zeroCells, size_zeroCells, zC_size, List.size_toArray, List.length_take]; omega
  have hRt : ROW.toList.take (i * 2) = (chsCells l).take (i * 2) := by
    rw [hROW]
    simp only [Array.toList_append, List.append_assoc]
    rw [List.take_append_of_le_length (by rw [List.length_take]; omega), List.take_of_length_le (by rw [List.length_take]; omega)]
  obtain ⟨W1, hW1⟩ : ∃ W1, W1 = w.drew.alloc (.cells ROW 68) := ⟨_, rfl⟩
  rw [← hW1] at hrz
  have hR1 : W1.heap[w.heap.size]? = some (.cells ROW 68 (0, 0)) := by rw [hW1]; exact heap_alloc_new w.drew _
  have hBw : Below w.heap.size w W1 := by rw [hW1]; exact Below.alloc (a := w) (w := w.drew) ⟨rfl, rfl, rfl, Nat.le_refl _, fun _ _ => rfl⟩ (Nat.le_refl _) _
  have hS1 : w.heap.size < W1.heap.size := by rw [hW1]; simp
  have hg1 : W1.heap[g]? = some (.cells cur 68 (0, 0)) := (hBw.block g hgl).trans hg
  have hv1 : W1.heap[vb]? = some (.cells (chCells x).toArray 68 (0, 0)) := (hBw.block vb hvl).trans hvb
  have hcpA : ∀ ty dc, (Builtin.copy_ #[65, 65] ty #[.slice (some ⟨w.heap.size, i * 2, none⟩) (n + 1 - i) dc, .slice (some ⟨vb, 0, none⟩) 1 1]).run Tryz.prog W1 = .ok (goInt (Nat.min 1 (n + 1 - i))) (W1.setCells w.heap.size (i * 2) (chCells x)) := fun ty dc =>
    run_copyN W1 65 ty 68 2 w.heap.size (i * 2) (n + 1 - i) dc vb 0 1 1 (chCells x) Tryz.underlying65 size78 (by rw [show Nat.min 1 (n + 1 - i) = 1 from Nat.min_eq_left (by omega)]; rfl)
      (cells_block hv1 0 _ (fun j u hj => by rw [Nat.zero_add]; simpa using hj))
      (fun j hj => some_block hR1 (by rw [hRs]; omega)) (fun j _ => thaw_block hR1 _) (one_ch x)
  obtain ⟨W2, hW2⟩ : ∃ W2, W2 = W1.setCells w.heap.size (i * 2) (chCells x) := ⟨_, rfl⟩
  rw [← hW2] at hcpA
  have hR2 : W2.heap[w.heap.size]? = some (.cells (setA ROW (i * 2) (chCells x)) 68 (0, 0)) := by rw [hW2]; exact heap_setCells_same _ _ _ _ hR1
  have hG2 := grown_setCells w.heap.size (chCells x) (i * 2) W1
  rw [← hW2] at hG2
  have hg2 : W2.heap[g]? = some (.cells cur 68 (0, 0)) := (hG2.block g (by omega) (fun e => by injection e with e; omega)).trans hg1
  have hcpB : ∀ ty dc sc, (Builtin.copy_ #[65, 65] ty #[.slice (some ⟨w.heap.size, (i + 1) * 2, none⟩) (n - i) dc, .slice (some ⟨g, i * 2, none⟩) (n - i) sc]).run Tryz.prog W2.drew = .ok (goInt (Nat.min (n - i) (n - i))) (W2.drew.setCells w.heap.size ((i + 1) * 2) ((chsCells l).drop (i * 2))) := fun ty dc sc =>
    run_copyN W2.drew 65 ty 68 2 w.heap.size ((i + 1) * 2) (n - i) dc g (i * 2) (n - i) sc ((chsCells l).drop (i * 2)) Tryz.underlying65 size78 (by rw [hdl, show Nat.min (n - i) (n - i) = n - i from Nat.min_self _])
      (cells_block (w := W2.drew) hg2 (i * 2) _ (fun j u hj => by rw [List.getElem?_drop] at hj; exact hcell _ _ hj))
      (fun j hj => some_block (w := W2.drew) hR2 (by rw [setA_size, hRs]; omega)) (fun j _ => thaw_block (w := W2.drew) hR2 _) (fun v hv => cells_one l v (List.mem_of_mem_drop hv))
  have HF : Hid ((W2.drew.setCells w.heap.size ((i + 1) * 2) ((chsCells l).drop (i * 2))).ownsRow base 68 2 (.slice (some ⟨w.heap.size, 0, none⟩) (n + 1) G) (insL l i x).length (chsCells (insL l i x))) := by
    have hle : (insL l i x).length = n + 1 := by rw [insL_len, hnn]
    refine ⟨by rw [chsCells_len], .inr ⟨w.heap.size, G, _, by rw [hle], hb, heap_setCells_same _ _ _ W2.drew hR2, by rw [hle]; exact hGn, by unfold maxLen; omega, by rw [setA_size, setA_size, hRs], ?_⟩⟩
    have hRl : ROW.toList.length = G * 2 := by rw [Array.length_toList, hRs]
    rw [setA_list _ _ _ (by rw [setA_size, hRs, hdl]; omega), setA_list _ _ _ (by rw [hRs, hcl]; omega), hRt, hcl, cells_ins l i x (by omega), hle]
    have h3 : ((chsCells l).take (i * 2) ++ (chCells x ++ ROW.toList.drop (i * 2 + 2))).take ((i + 1) * 2) = (chsCells l).take (i * 2) ++ chCells x := by
      rw [← List.append_assoc]
      exact List.take_left' (by rw [List.length_append, List.length_take, hcl, hlen]; omega)
    rw [h3, ← List.append_assoc, ← List.append_assoc]
    have hlen2 : ((chsCells l).take (i * 2) ++ chCells x ++ (chsCells l).drop (i * 2)).length = (n + 1) * 2 := by rw [List.length_append, List.length_append, List.length_take, hdl, hcl, hlen]; omega
    exact (List.take_left' hlen2).trans (List.append_assoc _ _ _)
  have HB : Hid (w.grownBy (W2.drew.setCells w.heap.size ((i + 1) * 2) ((chsCells l).drop (i * 2))) (some g)) := by
    have h := grown_setCells w.heap.size ((chsCells l).drop (i * 2)) ((i + 1) * 2) W2.drew
    refine ⟨h.os.trans (hG2.os.trans hBw.os), h.tape.trans (hG2.tape.trans hBw.tape), h.output.trans (hG2.output.trans hBw.output), Nat.le_trans hBw.size (Nat.le_trans hG2.size h.size), fun k hk hne => ?_⟩
    have hk1 : k < W1.heap.size := Nat.lt_of_lt_of_le hk hBw.size
    exact (h.block k (Nat.lt_of_lt_of_le hk1 hG2.size) (fun e => by injection e with e; omega)).trans ((hG2.block k hk1 (fun e => by injection e with e; omega)).trans (hBw.block k hk))
  have HRZ := Lib.hid hrz
  have HCA := Lib.hid hcpA
  have HCB := Lib.hid hcpB
  have HNN := Lib.hid hnn
  clear hrz hcpA hcpB hW1 hW2 hold hR1 hR2 hBw hS1 hg1 hv1 hG2 hg2 hcell hdl hcl hlen hg hvb hcs htk hnn hgl hvl hRs hRt hROW hG
  have hz2 : ¬ ((i : Int) = (n : Int)) := by omega
  have hb1 : (i : Int) ≤ (n : Int) := by omega
  have hb2 : (i : Int) + 1 ≤ (n : Int) + 1 := by omega
  have hGi : ¬ (G = i) := by omega
  have hGim : ¬ (G = i + 1) := by omega
  have hni : ¬ (n = i) := by omega
  have htn : ((i : Int) + 1).toNat = i + 1 := by omega
  have hw1 : IntKind.i64.wrap ((i : Int) + 1) = (i : Int) + 1 := by rw [IntKind.wrap_i64]; omega
  have hb0 : (0 : Int) ≤ (i : Int) + 1 := by omega
  have mixed : Tryz.prog.follows Departure.mixedOrders = true := by kernel_rfl
  go_enter Tryz.func86, Tryz.ntmps86
  go_wp2_with (at_builtin; refine Lib.wpList_append_run _ rfl _ _ _ _ rfl _ _ rfl rfl _ _ (HRZ.out _) ?_)
  rw [HCA.out 3 (G - i)]
  go_wp2_with fail
  go_region_law_o (refine step_copy rfl _ _ 65 65 rfl (.slice (some ⟨w.heap.size, (i + 1) * 2, none⟩) (n - i) (G - (i + 1))) (.slice (some ⟨g, i * 2, none⟩) (n - i) (n - i)) (by simp [Act.eval, Act.put]) (by simp [Act.eval, Act.put]) (HCB.out 3 (G - (i + 1)) (n - i)) ?_)
  go_wp2
  go_ret
  exact ⟨_, rfl, HF.out, HB.out, fun k hk => .inr (by have hk2 : w.heap.size = k := Option.some.inj hk; omega)⟩

/-- Insert, whatever room there is. -/
theorem insert_any (base : Nat) (v : Value) (l : List Ch) (x : Ch) (i vb : Nat) (w : World) (hv : w.ownsRow base 68 2 v l.length (chsCells l)) (hl : l.length ≤ 2000) (hi : i ≤ l.length) (hb : base ≤ w.heap.size)
    (hvb : w.heap[vb]? = some (.cells (chCells x).toArray 68 (0, 0))) (hne : v.ownBlock ≠ some vb) :
    Calls Tryz.prog 86 #[v, .int .i64 i, .slice (some ⟨vb, 0, none⟩) 1 1] w (RetIns w base v l i x) := by
  rcases Nat.lt_or_ge i l.length with h | h
  · obtain ⟨g, cap, rfl, hc⟩ : ∃ g cap, v = .slice (some ⟨g, 0, none⟩) l.length cap ∧ l.length ≤ cap := by
      rcases hv.2 with ⟨_, h0⟩ | ⟨g, cap, _, rfl, _, _, h3, _⟩
      · omega
      · exact ⟨g, cap, rfl, h3⟩
    rcases Nat.lt_or_ge l.length cap with h2 | h2
    · exact insert_room base g cap l x i vb w hv hl h h2 hvb (fun e => hne (by rw [e]; rfl))
    · have : cap = l.length := by omega
      subst this
      exact insert_grow base g l x i vb w hv hl h hb hvb
  · have : i = l.length := by omega
    subst this
    exact insert_end base v l x vb w hv hl hb hvb
end Go.Proofs.YtgdlfiejjnjcpaaGreat.Dl
