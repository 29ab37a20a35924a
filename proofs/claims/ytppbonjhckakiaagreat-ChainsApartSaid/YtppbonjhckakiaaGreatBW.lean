/-
  WALK: list: the list of the rungs that tells the k-th piece. Conditions: as many lists as an int64 counts.
  WALK: Map. Conditions: as many lists as an int64 counts.
  THE STATE of Of's loop: which lists the rungs hold when the pieces pre have come. No condition.
-/
import Derived.Test.YtppbonjhckakiaaGreatBV
import Derived.Laws.OwnMore
import Derived.Laws.MakeOwn
namespace Go.Proofs.YtppbonjhckakiaaGreat.La
open Go.RowKit Go.Shelf

set_option maxRecDepth 100000 in
theorem cell_new (w : World) (cs : Array Value) (t : TypeId) (k : Nat) {v : Value} (h : cs[k]? = some v) : (w.alloc (.cells cs t)).cell? ⟨w.heap.size, k, none⟩ = some v := by
  unfold World.cell?
  rw [heap_alloc_new]
  simpa using h
set_option maxRecDepth 100000 in
theorem placeK_0 : placeK (offP 0 : Nat) = (0, 0, 0) := by decide
set_option maxRecDepth 100000 in
theorem placeK_1 : placeK (offP 1 : Nat) = (1, 0, 0) := by decide
set_option maxRecDepth 100000 in
theorem placeK_2 (j : Nat) (h : j < 8) : placeK (offP (j + 2) : Nat) = (2, (j : Int), 0) := by
  have : ∀ j : Fin 8, placeK (offP (j.1 + 2) : Nat) = (2, (j.1 : Int), 0) := by decide
  exact this ⟨j, h⟩
def listOf (d s : List Int) (ls : List (Option (List Int))) (k : Nat) : List Int := if k = 0 then d else if k = 1 then s else (ls.getD (k - 2) none).getD []

/-- the rungs d, s, ls lie in these three slices. -/
structure Rungs3 (w : World) (B : Nat) (A1 A2 A3 : Option Addr) (n1 n2 n3 : Nat) (d s : List Int) (ls : List (Option (List Int))) : Prop where
  h1 : IntsAt w B A1 n1 d
  h2 : IntsAt w B A2 n2 s
  h3 : ListsAt w B A3 n3 ls
set_option maxRecDepth 100000 in
theorem Rungs3.below {w w' : World} {B C : Nat} {A1 A2 A3 : Option Addr} {n1 n2 n3 : Nat} {d s : List Int} {ls : List (Option (List Int))} (h : Rungs3 w B A1 A2 A3 n1 n2 n3 d s ls) (hb : Below C w w') (hB : B ≤ C) : Rungs3 w' B A1 A2 A3 n1 n2 n3 d s ls :=
  ⟨h.h1.below hb hB, h.h2.below hb hB, h.h3.below hb hB⟩
set_option maxRecDepth 100000 in
theorem Rungs3.keep {w w' : World} {B : Nat} {A1 A2 A3 : Option Addr} {n1 n2 n3 : Nat} {d s : List Int} {ls : List (Option (List Int))} (h : Rungs3 w B A1 A2 A3 n1 n2 n3 d s ls) (hk : ∀ p : Addr, p.block < B → w'.cell? p = w.cell? p) : Rungs3 w' B A1 A2 A3 n1 n2 n3 d s ls :=
  ⟨h.h1.keep hk, h.h2.keep hk, h.h3.keep hk⟩

def RetList (w w0 : World) (B : Nat) (zs : List Int) (e : Ending) (w' : World) : Prop := ∃ A n c, e = .returned (.slice A n c) ∧ IntsAt w B A n zs ∧ w' = w0

set_option maxRecDepth 100000 in
set_option maxHeartbeats 1000000 in
theorem list_any (k : Nat) (hk : k < 10) (A1 A2 A3 : Option Addr) (n1 n2 n3 c1 c2 c3 B : Nat) (d s : List Int) (ls : List (Option (List Int))) (w : World) (hr : Rungs3 w B A1 A2 A3 n1 n2 n3 d s ls) (hB : B ≤ w.heap.size) :
    Calls Tryz.prog 123 #[.agg #[.slice A1 n1 c1, .slice A2 n2 c2, .slice A3 n3 c3], .int .i64 (offP k : Int)] w (RetList w (w.alloc (.cells #[.slice A1 n1 c1, .slice A2 n2 c2, .slice A3 n3 c3] 74)) B (listOf d s ls k)) := by
  have c1' : (w.alloc (.cells #[.slice A1 n1 c1, .slice A2 n2 c2, .slice A3 n3 c3] 74)).cell? ⟨w.heap.size, 0, none⟩ = some (.slice A1 n1 c1) := cell_new w _ 74 0 rfl
  have c2' : (w.alloc (.cells #[.slice A1 n1 c1, .slice A2 n2 c2, .slice A3 n3 c3] 74)).cell? ⟨w.heap.size, 1, none⟩ = some (.slice A2 n2 c2) := cell_new w _ 74 1 rfl
  have c3' : (w.alloc (.cells #[.slice A1 n1 c1, .slice A2 n2 c2, .slice A3 n3 c3] 74)).cell? ⟨w.heap.size, 2, none⟩ = some (.slice A3 n3 c3) := cell_new w _ 74 2 rfl
  have HP := Lib.hid (fun w => place_any (offP k : Int) w (by have := offP_lt k hk; unfold Fit; omega))
  have HR := Lib.hid hr
  clear hr
  rcases k with _ | _ | j
  · have HQ : Hid (∀ w, Calls Tryz.prog 67 #[.int .i64 0] w fun e w' => e = .returned (.tuple #[.int .i64 0, .int .i64 0, .int .i64 0]) ∧ w = w') := fun w => by
      have := HP.out w
      rwa [placeK_0] at this
    clear HP
    rw [show ((offP 0 : Nat) : Int) = 0 from rfl, show listOf d s ls 0 = d from rfl]
    go_enter Tryz.func123, Tryz.ntmps123
    go_wp2_with (go_at_call 67; refine (HQ.out _).mono ?_; rintro e w' ⟨rfl, rfl⟩)
    go_ret
    exact ⟨_, _, _, rfl, HR.out.h1, rfl⟩
  · have HQ : Hid (∀ w, Calls Tryz.prog 67 #[.int .i64 4] w fun e w' => e = .returned (.tuple #[.int .i64 1, .int .i64 0, .int .i64 0]) ∧ w = w') := fun w => by
      have := HP.out w
      rwa [placeK_1] at this
    clear HP
    rw [show ((offP (0 + 1) : Nat) : Int) = 4 from rfl, show listOf d s ls (0 + 1) = s from rfl]
    go_enter Tryz.func123, Tryz.ntmps123
    go_wp2_with (go_at_call 67; refine (HQ.out _).mono ?_; rintro e w' ⟨rfl, rfl⟩)
    go_ret
    exact ⟨_, _, _, rfl, HR.out.h2, rfl⟩
  · have hj : j < 8 := by omega
    have HQ : Hid (∀ w, Calls Tryz.prog 67 #[.int .i64 (offP (j + 2) : Int)] w fun e w' => e = .returned (.tuple #[.int .i64 2, .int .i64 (j : Int), .int .i64 0]) ∧ w = w') := fun w => by
      have := HP.out w
      rwa [placeK_2 j hj] at this
    have HLO : Hid (listOf d s ls (j + 1 + 1) = (ls.getD j none).getD []) := by show _ = _; simp [listOf]
    clear HP
    rw [HLO.out]
    have e2 : ((offP (j + 1 + 1) : Nat) : Int) = (offP (j + 2) : Int) := rfl
    rw [e2]
    generalize (offP (j + 2) : Int) = f at *
    clear e2 HLO
    by_cases hlt : j < n3
    · obtain ⟨b, o, u, rfl, hbB, hu, hl⟩ := HR.out.h3.2 j hlt
      obtain ⟨A, c, rfl, hc, hi, _⟩ := hl.read
      have hu' : (w.alloc (.cells #[.slice A1 n1 c1, .slice A2 n2 c2, .slice (some ⟨b, o, none⟩) n3 c3] 74)).cell? ⟨b, o + j, none⟩ = some (.slice A ((ls.getD j none).getD []).length c) := (World.cell?_alloc_lt w _ ⟨b, o + j, none⟩ (by show b < _; omega)).trans hu
      have HI := Lib.hid hi
      clear hu hl hi hc
      generalize (ls.getD j none).getD [] = zs at *
      have hj1 : (j : Int) < (n3 : Int) := by omega
      go_enter Tryz.func123, Tryz.ntmps123
      go_wp2_with (go_at_call 67; refine (HQ.out _).mono ?_; rintro e w' ⟨rfl, rfl⟩)
      go_ret
      exact ⟨_, _, _, rfl, HI.out, rfl⟩
    · have e : (ls.getD j none).getD [] = [] := by
        have := HR.out.h3.1
        simp [List.getD, List.getElem?_eq_none (show ls.length ≤ j by omega)]
      rw [e]
      have hj1 : ¬ (j : Int) < (n3 : Int) := by omega
      clear e
      go_enter Tryz.func123, Tryz.ntmps123
      go_wp2_with (go_at_call 67; refine (HQ.out _).mono ?_; rintro e w' ⟨rfl, rfl⟩)
      go_ret
      exact ⟨_, _, _, rfl, IntsAt.nil _ _ _, rfl⟩
end Go.Proofs.YtppbonjhckakiaaGreat.La

namespace Go.Proofs.YtppbonjhckakiaaGreat.La
open Go.RowKit Go.Shelf
attribute [local go_sem] Oper.semAt_some

/-- the row behind the pieces pre. -/
def putP (d s : List Int) (ls : List (Option (List Int))) (L : List Int) (x : Fin 10) : List Int := splice L (offP x.1) ((listOf d s ls x.1).take (Nat.min (listOf d s ls x.1).length (lenP x.1)))
def mapRow (d s : List Int) (ls : List (Option (List Int))) (pre : List (Fin 10)) : List Int := pre.foldl (putP d s ls) (List.replicate 76 0)
set_option maxRecDepth 100000 in
theorem putP_len (d s : List Int) (ls : List (Option (List Int))) (L : List Int) (x : Fin 10) (h : L.length = 76) : (putP d s ls L x).length = 76 := by
  have := offP_lt x.1 x.2
  unfold putP
  rw [length_splice]
  · exact h
  · rw [List.length_take]
    have h1 : Nat.min (listOf d s ls x.1).length (lenP x.1) ≤ lenP x.1 := Nat.min_le_right _ _
    have h2 : min (Nat.min (listOf d s ls x.1).length (lenP x.1)) (listOf d s ls x.1).length ≤ Nat.min (listOf d s ls x.1).length (lenP x.1) := Nat.min_le_left _ _
    rw [h]
    omega
set_option maxRecDepth 100000 in
theorem mapRow_len (d s : List Int) (ls : List (Option (List Int))) : ∀ (pre : List (Fin 10)), (mapRow d s ls pre).length = 76 := by
  have key : ∀ (pre : List (Fin 10)) (L : List Int), L.length = 76 → (pre.foldl (putP d s ls) L).length = 76 := by
    intro pre
    induction pre with
    | nil => intro L h; exact h
    | cons x r ih => intro L h; exact ih _ (putP_len d s ls L x h)
  exact fun pre => key pre _ (by simp)
set_option maxRecDepth 100000 in
theorem mapRow_snoc (d s : List Int) (ls : List (Option (List Int))) (pre : List (Fin 10)) (x : Fin 10) : mapRow d s ls (pre ++ [x]) = putP d s ls (mapRow d s ls pre) x := by simp [mapRow]

set_option maxRecDepth 100000 in
theorem make_76 (W : World) : (Instr.makeSlice 27 (.int .i64 76) (.int .i64 76)).run Tryz.prog W = .ok (.slice (some ⟨W.heap.size, 0, none⟩) 76 76) (W.alloc (.cells (ints (List.replicate 76 0)).toArray 3)) := make_ints 76 (by omega) W

set_option maxRecDepth 100000 in
/-- a block of cells is not among those that the loop's book-keeping turns. -/
theorem cells_own {W W' : World} {row : Option Nat} {g : Nat} {cs : Array Value} {t : TypeId} {fr : Nat × Nat} {B : Nat} (h : W.heap[g]? = some (.cells cs t fr)) (hg : W.grownBy W' row) (hr : ∀ r, row = some r → B ≤ r ∧ ∃ o : Obj, W.heap[r]? = some o ∧ o.isCells = false) : W'.heap[g]? = some (.cells cs t fr) := by
  refine (hg.block g (Array.getElem?_eq_some_iff.1 h).1 (fun e => ?_)).trans h
  obtain ⟨_, o, ho, hc⟩ := hr g e.symm
  rw [h] at ho
  cases ho
  cases hc

set_option maxRecDepth 100000 in
set_option maxHeartbeats 4000000 in
theorem map_any (A1 A2 A3 : Option Addr) (n1 n2 n3 c1 c2 c3 B : Nat) (d s : List Int) (ls : List (Option (List Int))) (w : World) (hr : Rungs3 w B A1 A2 A3 n1 n2 n3 d s ls) (hB : B ≤ w.heap.size) :
    Calls Tryz.prog 80 #[.agg #[.slice A1 n1 c1, .slice A2 n2 c2, .slice A3 n3 c3]] w (RetRow w (mapRow d s ls (firsts 10))) := by
  refine (callsIn_wide (n := 5)).1 ?_
  refine callsIn_of_wp_marks Tryz.func80 rfl trivial ?_ rfl
  simp only [Tryz.ntmps80, List.size_toArray, List.length_cons, List.length_nil, Nat.reduceAdd, Nat.reduceSub, Array.replicate_succ, Array.replicate_zero, List.push_toArray, List.append_toArray, List.nil_append, List.cons_append]
  have hmk := make_76 (w.alloc (.cells #[.slice A1 n1 c1, .slice A2 n2 c2, .slice A3 n3 c3] 74))
  have HR := Lib.hid hr
  clear hr
  obtain ⟨Z, hZ⟩ : ∃ Z, Z = ints (List.replicate 76 0) := ⟨_, rfl⟩
  rw [← hZ] at hmk
  have HZ := Lib.hid hZ
  clear hZ
  gi_wp2_with (refine ⟨trivial, ?_⟩; gi_at_call 66; refine (callsIn_wide.2 (pieces_any _ _ _ _)).mono ?_; rintro e w' ⟨rfl, rfl⟩)
  obtain ⟨W0, hW0⟩ : ∃ W0, (((w.alloc (.cells #[.slice A1 n1 c1, .slice A2 n2 c2, .slice A3 n3 c3] 74)).alloc (.cells Z.toArray 3)).alloc (.cells #[.slice (some ⟨w.heap.size + 1, 0, none⟩) 76 76] 27)) = W0 := ⟨_, rfl⟩
  have hsz : W0.heap.size = w.heap.size + 1 + 1 + 1 := by rw [← hW0]; simp
  have hbx : Boxed W0 (w.heap.size + 1 + 1) 27 (.slice (some ⟨w.heap.size + 1, 0, none⟩) 76 76) := by
    rw [← hW0]
    have := Boxed.new ((w.alloc (.cells #[.slice A1 n1 c1, .slice A2 n2 c2, .slice A3 n3 c3] 74)).alloc (.cells Z.toArray 3)) 27 (.slice (some ⟨w.heap.size + 1, 0, none⟩) 76 76)
    simpa using this
  have hrow : IntRow W0 (w.heap.size + 1) (mapRow d s ls []) := by
    rw [← hW0]
    have := (IntRow.new (w.alloc (.cells #[.slice A1 n1 c1, .slice A2 n2 c2, .slice A3 n3 c3] 74)) (List.replicate 76 0)).alloc (.cells #[.slice (some ⟨w.heap.size + 1, 0, none⟩) 76 76] 27)
    rw [← HZ.out, World.size_alloc] at this
    exact this
  have hstr : W0.heap[w.heap.size]? = some (.cells #[.slice A1 n1 c1, .slice A2 n2 c2, .slice A3 n3 c3] 74 (0, 0)) := by
    rw [← hW0]
    exact (Below.heap_alloc _ _ _ (by simp; omega)).trans ((Below.heap_alloc _ _ _ (by simp)).trans (World.alloc_heap_new w _))
  have hB0 : Below w.heap.size w W0 := by rw [← hW0]; exact (((Below.refl _ w).alloc (Nat.le_refl _) _).alloc (by simp) _).alloc (by simp; omega) _
  rw [hW0]
  clear hW0 hmk HZ
  refine wpIn_rangeFunc_ownF rfl (by omega) (gf := 100) (lb := #[.pointer (some ⟨w.heap.size + 1 + 1, 0, none⟩)]) rfl trivial (enters_of Tryz.func100 (by kernel_rfl) rfl)
    (iter_stops Fence.wide _ trivial rfl (by omega) (w.heap.size + 1 + 1) (w.heap.size + 1) W0 hbx) KpB.t (KpB.b (by omega)) (Below.refl _ _) (fun _ => rfl)
    (fun pre W => IntRow W (w.heap.size + 1) (mapRow d s ls pre) ∧ W.heap[w.heap.size]? = some (.cells #[.slice A1 n1 c1, .slice A2 n2 c2, .slice A3 n3 c3] 74 (0, 0)) ∧ W0.heap.size ≤ W.heap.size ∧ Below w.heap.size w W)
    (fun _ _ _ => False)
    (fun pre A B' row hs hg hr => ⟨cells_own hs.1 hg hr, cells_own hs.2.1 hg hr, Nat.le_trans hs.2.2.1 hg.size, hs.2.2.2.grown hg hs.2.2.2.size (fun k e => by have := (hr k e).1; omega)⟩)
    (fun _ _ _ _ _ hs _ _ => hs)
    ⟨hrow, hstr, Nat.le_refl _, hB0⟩
    (fun x => { tmps := #[.agg #[.slice A1 n1 c1, .slice A2 n2 c2, .slice A3 n3 c3], .pointer (some ⟨w.heap.size, 0, none⟩), .slice none 0 0, .slice (some ⟨w.heap.size + 1, 0, none⟩) 76 76, .int .i64 (offP x.1 : Int), .slice (some ⟨w.heap.size + 1, offP x.1, none⟩) (lenP x.1) (76 - offP x.1), .slice (some ⟨w.heap.size + 1, 0, none⟩) 76 76, .slice (some ⟨w.heap.size + 1, 0, none⟩) 76 76, .func (.func 100) #[] #[.pointer (some ⟨w.heap.size + 1 + 1, 0, none⟩)], .int .i64 (offP x.1 : Int), .slice (some ⟨w.heap.size + 1, offP x.1, none⟩) (lenP x.1) (76 - offP x.1), undef, undef, undef, undef, undef, undef], defers := [] }) ?assign ?body ?done ?stop
  case assign =>
    intro l x W K hK
    simp only [pieceV]
    gi_wp2
    exact hK
  case body =>
    rintro l pre x W ⟨hrow', hstr', hsz', hb'⟩ _
    have k0 : W.cell? ⟨w.heap.size, 0, none⟩ = some (.slice A1 n1 c1) := by rw [cell_of_row W _ 0 _ 74 _ hstr']; rfl
    have k1 : W.cell? ⟨w.heap.size, 1, none⟩ = some (.slice A2 n2 c2) := by rw [cell_of_row W _ 1 _ 74 _ hstr']; rfl
    have k2 : W.cell? ⟨w.heap.size, 2, none⟩ = some (.slice A3 n3 c3) := by rw [cell_of_row W _ 2 _ 74 _ hstr']; rfl
    have HL := Lib.hid (list_any x.1 x.2 A1 A2 A3 n1 n2 n3 c1 c2 c3 B d s ls W (HR.out.below hb' hB) (by omega))
    have HSN : Hid (mapRow d s ls (pre ++ [x]) = splice (mapRow d s ls pre) (offP x.1) ((listOf d s ls x.1).take (Nat.min (listOf d s ls x.1).length (lenP x.1)))) := mapRow_snoc d s ls pre x
    have HLEN := Lib.hid (mapRow_len d s ls pre)
    have HOFF := Lib.hid (offP_lt x.1 x.2)
    have HROW := Lib.hid hrow'
    have HSTR := Lib.hid hstr'
    have HB := Lib.hid hb'
    clear hrow' hstr' hb' HR
    generalize mapRow d s ls pre = L1 at *
    generalize listOf d s ls x.1 = zs at *
    generalize offP x.1 = f at *
    generalize lenP x.1 = z at *
    gi_wp2_with (refine ⟨trivial, ?_⟩; gi_at_call 123; refine (CallsIn.inRound l (callsIn_wide.2 HL.out)).mono ?_; rintro e w' ⟨A, n, c, rfl, hi, rfl⟩; obtain ⟨W2, hcp, hrow2, hgr, -⟩ := copy_ints (W.alloc (.cells #[.slice A1 n1 c1, .slice A2 n2 c2, .slice A3 n3 c3] 74)) (w.heap.size + 1) f z (76 - f) B A n c L1 zs (HROW.out.alloc _) (by have := HOFF.out; have := HLEN.out; omega) (hi.keep fun p hp => World.cell?_alloc_lt W _ p (by omega)); have HI := Lib.hid hi; have HR2 := Lib.hid hrow2; have HG := Lib.hid hgr; clear hi hrow2 hgr)
    have hlt : w.heap.size + 1 + 1 < W.heap.size := by omega
    have hg := HG.out
    have hr1 : (W.alloc (.cells #[.slice A1 n1 c1, .slice A2 n2 c2, .slice A3 n3 c3] 74)).heap[w.heap.size + 1]? = _ := HROW.out.alloc _
    refine ⟨(KeepsOthers.alloc W _).trans (KeepsOthers.of_grownBy hg fun j o ej hj => ?_), ?_, ?_, ?_, ?_, ?_⟩
    · cases ej
      rw [hr1] at hj
      cases hj
      rfl
    · exact (hg.block _ (by simp; omega) (by simp)).trans (Below.heap_alloc _ _ _ hlt)
    · have e := HI.out.len
      rw [HSN.out, e]
      exact HR2.out
    · exact (hg.block _ (by simp; omega) (by simp)).trans ((Below.heap_alloc _ _ _ (by omega)).trans HSTR.out)
    · have := hg.size
      simp at this
      omega
    · exact (HB.out.alloc HB.out.size _).grown hg (by have := HB.out.size; simp; omega) (fun k e => by cases e; omega)
  case done =>
    rintro D xs W hD rfl ⟨hrow', hstr', hsz', hb'⟩ hK
    have HROW := Lib.hid hrow'
    have HB := Lib.hid hb'
    clear hrow' hstr' hb'
    gi_wp2
    refine ⟨by simp, .inl ⟨_, _, rfl, run_takeDeferred hK, ?_⟩⟩
    refine ⟨_, results_tmp rfl _ _ _, w.heap.size + 1, by omega, ?_, ?_, ?_⟩
    · rw [mapRow_len]; rfl
    · exact (World.putObj_heap_other (by omega)).trans HROW.out
    · exact HB.out.trans (belowK_b (w := w) (Nat.le_refl _) W D _ _ (by omega) hK rfl rfl)
  case stop =>
    rintro D c pre W _ _ h _
    exact h.elim
end Go.Proofs.YtppbonjhckakiaaGreat.La

namespace Go.Proofs.YtppbonjhckakiaaGreat.La
open Go.RowKit Go.Shelf

abbrev nilS : Value := .slice none 0 0
/-- the map with zeros behind, 76 numbers. -/
def wholeOf (zs : List Int) : List Int := splice (List.replicate 76 0) 0 (zs.take (Nat.min zs.length 76))
set_option maxRecDepth 100000 in
theorem wholeOf_len (zs : List Int) : (wholeOf zs).length = 76 := by
  unfold wholeOf
  rw [length_splice]
  · simp
  · have : Nat.min zs.length 76 ≤ 76 := Nat.min_le_right _ _
    simp [List.length_take]
    omega
set_option maxRecDepth 100000 in
theorem wholeOf_get (zs : List Int) (i : Nat) (h : i < 76) : (wholeOf zs).getD i 0 = zs.getD i 0 := by
  have e : Nat.min zs.length 76 = min zs.length 76 := rfl
  unfold wholeOf splice
  rw [e]
  simp only [List.take_zero, List.nil_append, List.length_take, Nat.zero_add]
  by_cases hi : i < zs.length
  · rw [List.getD, List.getElem?_append_left (by simp; omega), List.getElem?_take_of_lt (by omega)]
    rfl
  · rw [List.getD, List.getElem?_append_right (by simp; omega)]
    have e2 : zs[i]? = none := List.getElem?_eq_none (by omega)
    rw [List.getElem?_drop, List.getElem?_replicate, List.getD, e2]
    split <;> rfl
def pieceOf (zs : List Int) (k : Nat) : List Int := ((wholeOf zs).drop (offP k)).take (lenP k)
set_option maxRecDepth 100000 in
theorem pieceOf_len (zs : List Int) (k : Nat) (h : k < 10) : (pieceOf zs k).length = lenP k := by
  have := offP_lt k h
  unfold pieceOf
  rw [List.length_take, List.length_drop, wholeOf_len]
  omega
set_option maxRecDepth 100000 in
theorem pieceOf_get (zs : List Int) (k j : Nat) (h : k < 10) (hj : j < lenP k) : (pieceOf zs k).getD j 0 = zs.getD (offP k + j) 0 := by
  have := offP_lt k h
  rw [← wholeOf_get zs (offP k + j) (by omega)]
  unfold pieceOf
  rw [List.getD, List.getElem?_take_of_lt hj, List.getElem?_drop]
  rfl
def optP (zs : List Int) (k : Nat) : Option (List Int) := if zeroB (pieceOf zs k) = true then none else some (pieceOf zs k)
def optF (zs : List Int) (k : Nat) : Option (List Int) := if k = 0 then some (pieceOf zs 0) else optP zs k
def stF (zs : List Int) (pre : List (Fin 10)) (k : Nat) : Option (List Int) := if k ∈ pre.map (·.1) then optF zs k else none
set_option maxRecDepth 100000 in
theorem stF_snoc (zs : List Int) (pre : List (Fin 10)) (x : Fin 10) (k : Nat) : stF zs (pre ++ [x]) k = if k = x.1 then optF zs x.1 else stF zs pre k := by
  unfold stF
  by_cases e : k = x.1
  · subst e; simp
  · simp [e]
set_option maxRecDepth 100000 in
theorem stF_or (zs : List Int) (pre : List (Fin 10)) (k : Nat) : stF zs pre k = none ∨ stF zs pre k = optF zs k := by
  unfold stF
  split
  · exact .inr rfl
  · exact .inl rfl
set_option maxRecDepth 100000 in
theorem stF_nil (zs : List Int) (k : Nat) : stF zs [] k = none := by simp [stF]
set_option maxRecDepth 100000 in
theorem stF_all (zs : List Int) (k : Nat) (h : k < 10) : stF zs (firsts 10) k = optF zs k := by
  have : ∀ k : Fin 10, k.1 ∈ (firsts 10).map (·.1) := by decide
  unfold stF
  rw [if_pos (this ⟨k, h⟩)]

/-- a list in a row of its own, at or beyond block base. -/
def NewLst (base : Nat) (w : World) (v : Value) : Option (List Int) → Prop
  | none => v = nilS
  | some l => ∃ b, base ≤ b ∧ v = .slice (some ⟨b, 0, none⟩) l.length l.length ∧ IntRow w b l
set_option maxRecDepth 100000 in
theorem NewLst.keep {base : Nat} {w w' : World} {v : Value} {o : Option (List Int)} (h : NewLst base w v o) (hk : ∀ b cs, base ≤ b → w.heap[b]? = some (.cells cs 3 (0, 0)) → w'.heap[b]? = w.heap[b]?) : NewLst base w' v o := by
  cases o with
  | none => exact h
  | some l => obtain ⟨b, hb, e, hr⟩ := h; exact ⟨b, hb, e, (hk b _ hb hr).trans hr⟩
/-- eight lists, or none at all. -/
def DblSt (base : Nat) (w : World) (v : Value) (st : Nat → Option (List Int)) : Prop :=
  (v = nilS ∧ ∀ j, j < 8 → st j = none) ∨
  ∃ (D : Nat) (us : List Value), base ≤ D ∧ v = .slice (some ⟨D, 0, none⟩) 8 8 ∧ us.length = 8 ∧ w.heap[D]? = some (.cells us.toArray 27 (0, 0)) ∧ (∀ j, j < 8 → NewLst base w (us.getD j nilS) (st j)) ∧ ∃ j, j < 8 ∧ st j ≠ none
set_option maxRecDepth 100000 in
theorem DblSt.keep {base : Nat} {w w' : World} {v : Value} {st : Nat → Option (List Int)} (h : DblSt base w v st) (hk : ∀ b cs t, base ≤ b → w.heap[b]? = some (.cells cs t (0, 0)) → w'.heap[b]? = w.heap[b]?) : DblSt base w' v st := by
  rcases h with h | ⟨D, us, hD, e, hl, hd, hj, hs⟩
  · exact .inl h
  · exact .inr ⟨D, us, hD, e, hl, (hk D _ _ hD hd).trans hd, fun j h8 => (hj j h8).keep fun b cs hb hc => hk b cs 3 hb hc, hs⟩
/-- the rungs in block R when pre has come. -/
def OfSt (base R : Nat) (zs : List Int) (w : World) (pre : List (Fin 10)) : Prop :=
  ∃ v1 v2 v3, w.heap[R]? = some (.cells #[v1, v2, v3] 74 (0, 0)) ∧ NewLst base w v1 (stF zs pre 0) ∧ NewLst base w v2 (stF zs pre 1) ∧ DblSt base w v3 (fun j => stF zs pre (j + 2))

set_option maxRecDepth 100000 in
theorem heap_set {W : World} {R i : Nat} {cs : Array Value} {t : TypeId} (h : W.heap[R]? = some (.cells cs t (0, 0))) (v : Value) : (W.setCell ⟨R, i, none⟩ v).heap[R]? = some (.cells (cs.setIfInBounds i v) t (0, 0)) := by
  obtain ⟨hlt, hk⟩ := Array.getElem?_eq_some_iff.1 h
  show (W.heap.modify R _)[R]? = _
  rw [Array.getElem?_eq_getElem (by rw [Array.size_modify]; exact hlt), Array.getElem_modify_self, hk]
  rfl

set_option maxRecDepth 100000 in
/-- round 0: Direct. -/
theorem OfSt.set0 {base R : Nat} {zs : List Int} {W W1 : World} {pre : List (Fin 10)} {x : Fin 10} (h : OfSt base R zs W pre) (hx : x.1 = 0) (hb : Below W.heap.size W W1) (hR : R < base) (g : Nat) (hg : base ≤ g) (hrow : IntRow W1 g (pieceOf zs 0)) (n : Nat) (hn : n = (pieceOf zs 0).length) :
    OfSt base R zs (W1.setCell ⟨R, 0, none⟩ (.slice (some ⟨g, 0, none⟩) n n)) (pre ++ [x]) := by
  subst hn
  obtain ⟨v1, v2, v3, h0, h1, h2, h3⟩ := h
  have h0' : W1.heap[R]? = _ := (hb.block R (Array.getElem?_eq_some_iff.1 h0).1).trans h0
  have keep : ∀ b cs t, base ≤ b → W.heap[b]? = some (.cells cs t (0, 0)) → (W1.setCell ⟨R, 0, none⟩ (.slice (some ⟨g, 0, none⟩) (pieceOf zs 0).length (pieceOf zs 0).length)).heap[b]? = W.heap[b]? := fun b cs t hbb hc =>
    (Below.heap_setCell _ _ _ b (by show b ≠ R; omega)).trans (hb.block b (Array.getElem?_eq_some_iff.1 hc).1)
  refine ⟨.slice (some ⟨g, 0, none⟩) (pieceOf zs 0).length (pieceOf zs 0).length, v2, v3, heap_set h0' _, ?_, ?_, ?_⟩
  · rw [stF_snoc, if_pos hx.symm]
    rw [hx]
    exact ⟨g, hg, rfl, (Below.heap_setCell _ _ _ g (by show g ≠ R; omega)).trans hrow⟩
  · rw [stF_snoc, if_neg (by omega)]
    exact h2.keep fun b cs => keep b cs 3
  · have e : (fun j => stF zs (pre ++ [x]) (j + 2)) = fun j => stF zs pre (j + 2) := funext fun j => by rw [stF_snoc, if_neg (by omega)]
    rw [e]
    exact h3.keep keep
set_option maxRecDepth 100000 in
/-- round 1: Single. -/
theorem OfSt.set1 {base R : Nat} {zs : List Int} {W W1 : World} {pre : List (Fin 10)} {x : Fin 10} (h : OfSt base R zs W pre) (hx : x.1 = 1) (hz : zeroB (pieceOf zs 1) = false) (hb : Below W.heap.size W W1) (hR : R < base) (g : Nat) (hg : base ≤ g) (hrow : IntRow W1 g (pieceOf zs 1)) (n : Nat) (hn : n = (pieceOf zs 1).length) :
    OfSt base R zs (W1.setCell ⟨R, 1, none⟩ (.slice (some ⟨g, 0, none⟩) n n)) (pre ++ [x]) := by
  subst hn
  obtain ⟨v1, v2, v3, h0, h1, h2, h3⟩ := h
  have h0' : W1.heap[R]? = _ := (hb.block R (Array.getElem?_eq_some_iff.1 h0).1).trans h0
  have keep : ∀ b cs t, base ≤ b → W.heap[b]? = some (.cells cs t (0, 0)) → (W1.setCell ⟨R, 1, none⟩ (.slice (some ⟨g, 0, none⟩) (pieceOf zs 1).length (pieceOf zs 1).length)).heap[b]? = W.heap[b]? := fun b cs t hbb hc =>
    (Below.heap_setCell _ _ _ b (by show b ≠ R; omega)).trans (hb.block b (Array.getElem?_eq_some_iff.1 hc).1)
  refine ⟨v1, .slice (some ⟨g, 0, none⟩) (pieceOf zs 1).length (pieceOf zs 1).length, v3, heap_set h0' _, ?_, ?_, ?_⟩
  · rw [stF_snoc, if_neg (by omega)]
    exact h1.keep fun b cs => keep b cs 3
  · rw [stF_snoc, if_pos hx.symm]
    rw [hx]
    have e : optF zs 1 = some (pieceOf zs 1) := by simp [optF, optP, hz]
    rw [e]
    exact ⟨g, hg, rfl, (Below.heap_setCell _ _ _ g (by show g ≠ R; omega)).trans hrow⟩
  · have e : (fun j => stF zs (pre ++ [x]) (j + 2)) = fun j => stF zs pre (j + 2) := funext fun j => by rw [stF_snoc, if_neg (by omega)]
    rw [e]
    exact h3.keep keep
set_option maxRecDepth 100000 in
/-- a piece of zeros: nothing turns. -/
theorem OfSt.skip {base R : Nat} {zs : List Int} {W : World} {pre : List (Fin 10)} {x : Fin 10} (h : OfSt base R zs W pre) (hx : x.1 ≠ 0) (hz : zeroB (pieceOf zs x.1) = true) : OfSt base R zs W (pre ++ [x]) := by
  have e0 : optF zs x.1 = none := by simp [optF, optP, hz, hx]
  have e : ∀ k, stF zs (pre ++ [x]) k = stF zs pre k := fun k => by
    rw [stF_snoc]
    by_cases ek : k = x.1
    · rw [if_pos ek, e0]
      rcases stF_or zs pre k with h | h
      · exact h.symm
      · rw [h, ek, e0]
    · rw [if_neg ek]
  obtain ⟨v1, v2, v3, h0, h1, h2, h3⟩ := h
  refine ⟨v1, v2, v3, h0, by rw [e]; exact h1, by rw [e]; exact h2, ?_⟩
  have e3 : (fun j => stF zs (pre ++ [x]) (j + 2)) = fun j => stF zs pre (j + 2) := funext fun j => e _
  rw [e3]
  exact h3
/-- the rungs while a list of Double is put in. -/
def OfMid (base R D : Nat) (zs : List Int) (w : World) (pre : List (Fin 10)) : Prop :=
  ∃ v1 v2, w.heap[R]? = some (.cells #[v1, v2, .slice (some ⟨D, 0, none⟩) 8 8] 74 (0, 0)) ∧ NewLst base w v1 (stF zs pre 0) ∧ NewLst base w v2 (stF zs pre 1) ∧ base ≤ D ∧
    ∃ us : List Value, us.length = 8 ∧ w.heap[D]? = some (.cells us.toArray 27 (0, 0)) ∧ ∀ j, j < 8 → NewLst base w (us.getD j nilS) (stF zs pre (j + 2))
set_option maxRecDepth 100000 in
theorem OfMid.make {base R : Nat} {zs : List Int} {W : World} {pre : List (Fin 10)} {v1 v2 : Value} (h0 : W.heap[R]? = some (.cells #[v1, v2, nilS] 74 (0, 0))) (h1 : NewLst base W v1 (stF zs pre 0)) (h2 : NewLst base W v2 (stF zs pre 1)) (h3 : ∀ j, j < 8 → stF zs pre (j + 2) = none) (hR : R < base) (hB : base ≤ W.heap.size) :
    OfMid base R W.heap.size zs ((W.alloc (.cells (List.replicate 8 nilS).toArray 27)).setCell ⟨R, 2, none⟩ (.slice (some ⟨W.heap.size, 0, none⟩) 8 8)) pre := by
  have hlt := (Array.getElem?_eq_some_iff.1 h0).1
  have h0' : (W.alloc (.cells (List.replicate 8 nilS).toArray 27)).heap[R]? = _ := (Below.heap_alloc _ _ _ hlt).trans h0
  have keep : ∀ b cs t, base ≤ b → W.heap[b]? = some (.cells cs t (0, 0)) → ((W.alloc (.cells (List.replicate 8 nilS).toArray 27)).setCell ⟨R, 2, none⟩ (.slice (some ⟨W.heap.size, 0, none⟩) 8 8)).heap[b]? = W.heap[b]? := fun b cs t hbb hc =>
    (Below.heap_setCell _ _ _ b (by show b ≠ R; omega)).trans (Below.heap_alloc _ _ _ (Array.getElem?_eq_some_iff.1 hc).1)
  refine ⟨v1, v2, heap_set h0' _, h1.keep fun b cs => keep b cs 3, h2.keep fun b cs => keep b cs 3, hB, List.replicate 8 nilS, by simp, ?_, fun j hj => ?_⟩
  · exact (Below.heap_setCell _ _ _ W.heap.size (by show W.heap.size ≠ R; omega)).trans (World.alloc_heap_new W _)
  · rw [h3 j hj]
    show _ = _
    rw [List.getD, List.getElem?_replicate, if_pos hj]
    rfl
set_option maxRecDepth 100000 in
theorem OfMid.set {base R D : Nat} {zs : List Int} {W W1 : World} {pre : List (Fin 10)} {x : Fin 10} {j : Nat} (h : OfMid base R D zs W pre) (hj : j < 8) (hx : x.1 = j + 2) (hz : zeroB (pieceOf zs (j + 2)) = false) (hb : Below W.heap.size W W1) (hR : R < base) (g : Nat) (hg : W.heap.size ≤ g) (hbase : base ≤ W.heap.size) (hrow : IntRow W1 g (pieceOf zs (j + 2))) (n : Nat) (hn : n = (pieceOf zs (j + 2)).length) :
    OfSt base R zs (W1.setCell ⟨D, j, none⟩ (.slice (some ⟨g, 0, none⟩) n n)) (pre ++ [x]) := by
  subst hn
  obtain ⟨v1, v2, h0, h1, h2, hD, us, hl, hd, hu⟩ := h
  have hlt := (Array.getElem?_eq_some_iff.1 h0).1
  have hdt := (Array.getElem?_eq_some_iff.1 hd).1
  have h0' : W1.heap[R]? = _ := (hb.block R hlt).trans h0
  have hd' : W1.heap[D]? = _ := (hb.block D hdt).trans hd
  have keep : ∀ b cs, base ≤ b → W.heap[b]? = some (.cells cs 3 (0, 0)) → (W1.setCell ⟨D, j, none⟩ (.slice (some ⟨g, 0, none⟩) (pieceOf zs (j + 2)).length (pieceOf zs (j + 2)).length)).heap[b]? = W.heap[b]? := fun b cs hbb hc => by
    refine (Below.heap_setCell _ _ _ b (fun e => ?_)).trans (hb.block b (Array.getElem?_eq_some_iff.1 hc).1)
    have e' : b = D := e
    subst e'
    rw [hd] at hc
    simp at hc
  have eo : optF zs (j + 2) = some (pieceOf zs (j + 2)) := by simp [optF, optP, hz]
  refine ⟨v1, v2, .slice (some ⟨D, 0, none⟩) 8 8, (Below.heap_setCell _ _ _ R (by show R ≠ D; omega)).trans h0', ?_, ?_, .inr ⟨D, us.set j (.slice (some ⟨g, 0, none⟩) (pieceOf zs (j + 2)).length (pieceOf zs (j + 2)).length), hD, rfl, by simp [hl], ?_, fun i hi => ?_, j, hj, ?_⟩⟩
  · rw [stF_snoc, if_neg (by omega)]
    exact h1.keep keep
  · rw [stF_snoc, if_neg (by omega)]
    exact h2.keep keep
  · have := heap_set (i := j) hd' (.slice (some ⟨g, 0, none⟩) (pieceOf zs (j + 2)).length (pieceOf zs (j + 2)).length)
    simpa using this
  · show NewLst _ _ _ (stF zs (pre ++ [x]) (i + 2))
    rw [stF_snoc]
    by_cases e : i = j
    · subst e
      rw [if_pos hx.symm, hx, eo]
      have e1 : (us.set i (.slice (some ⟨g, 0, none⟩) (pieceOf zs (i + 2)).length (pieceOf zs (i + 2)).length)).getD i nilS = .slice (some ⟨g, 0, none⟩) (pieceOf zs (i + 2)).length (pieceOf zs (i + 2)).length := by
        simp [List.getD, hl, hi]
      rw [e1]
      exact ⟨g, by omega, rfl, (Below.heap_setCell _ _ _ g (by show g ≠ D; omega)).trans hrow⟩
    · rw [if_neg (by omega)]
      have e1 : (us.set j (.slice (some ⟨g, 0, none⟩) (pieceOf zs (j + 2)).length (pieceOf zs (j + 2)).length)).getD i nilS = us.getD i nilS := by
        simp [List.getD, show ¬ j = i by omega]
      rw [e1]
      exact (hu i hi).keep keep
  · show stF zs (pre ++ [x]) (j + 2) ≠ none
    rw [stF_snoc, if_pos hx.symm, hx, eo]
    simp
set_option maxRecDepth 100000 in
theorem info22 : (Tryz.prog.info? 27).map (fun i => (i.zero, i.size, i.bytes)) = some (some nilS, 1, 24) := by kernel_rfl
set_option maxRecDepth 100000 in
/-- 'make([][]int, 8)', for the walk to take. -/
theorem make_lists (W : World) : (Instr.makeSlice 22 (.int .i64 8) (.int .i64 8)).run Tryz.prog W = .ok (.slice (some ⟨W.heap.size, 0, none⟩) 8 8) (W.alloc (.cells (List.replicate 8 nilS).toArray 27)) := by
  obtain ⟨i0, hi, hz0, hz1, hz2⟩ := info_parts info22
  have h := run_make (P := Tryz.prog) W 22 27 i0 nilS Tryz.underlying22 hi hz0 .i64 .i64 8 8 (by omega) (by omega) (by rw [hz2]; omega) (by omega)
  have e : madeCells nilS.cells (8 * i0.size) = (List.replicate 8 nilS).toArray := by
    apply Array.toList_inj.1
    have e1 : nilS.cells = #[nilS] := rfl
    rw [hz1, Nat.mul_one, e1, toList_madeCells_one]
  rw [← e]
  exact h
end Go.Proofs.YtppbonjhckakiaaGreat.La
