/-
  WALK: Map. Conditions: as many lists as an int64 counts.
-/
import Derived.Test.YtiknbbkblldjiaaList
namespace Go.Proofs.Ytiknbbkblldjiaa
open Go.RowKit Go.Shelf
attribute [local go_sem] Oper.semAt_some

/-- the row behind the pieces pre. -/
def putP (d s : List Int) (ls : List (Option (List Int))) (L : List Int) (x : Fin 10) : List Int := splice L (offP x.1) ((listOf d s ls x.1).take (Nat.min (listOf d s ls x.1).length (lenP x.1)))
def mapRow (d s : List Int) (ls : List (Option (List Int))) (pre : List (Fin 10)) : List Int := pre.foldl (putP d s ls) (List.replicate 76 0)
theorem putP_len (d s : List Int) (ls : List (Option (List Int))) (L : List Int) (x : Fin 10) (h : L.length = 76) : (putP d s ls L x).length = 76 := by
  have := offP_lt x.1 x.2
  unfold putP
  rw [length_splice]
  · exact h
  · rw [List.length_take]
    have h1 : Nat.min (listOf d s ls x.1).length (lenP x.1) ≤ lenP x.1 := Nat.min_le_right _ _
    have h2 : min (Nat.min (listOf d s ls x.1).length (lenP x.1)) (listOf d s ls x.1).length ≤ Nat.min (listOf d s ls x.1).length (lenP x.1) := Nat.min_le_left _ _
    rw [h]
    omega
theorem mapRow_len (d s : List Int) (ls : List (Option (List Int))) : ∀ (pre : List (Fin 10)), (mapRow d s ls pre).length = 76 := by
  have key : ∀ (pre : List (Fin 10)) (L : List Int), L.length = 76 → (pre.foldl (putP d s ls) L).length = 76 := by
    intro pre
    induction pre with
    | nil => intro L h; exact h
    | cons x r ih => intro L h; exact ih _ (putP_len d s ls L x h)
  exact fun pre => key pre _ (by simp)
theorem mapRow_snoc (d s : List Int) (ls : List (Option (List Int))) (pre : List (Fin 10)) (x : Fin 10) : mapRow d s ls (pre ++ [x]) = putP d s ls (mapRow d s ls pre) x := by simp [mapRow]

theorem make_76 (W : World) : (Instr.makeSlice 22 (.int .i64 76) (.int .i64 76)).run Try.prog W = .ok (.slice (some ⟨W.heap.size, 0, none⟩) 76 76) (W.alloc (.cells (ints (List.replicate 76 0)).toArray 3)) := make_ints 76 (by omega) W

/-- a block of cells is not among those that the loop's book-keeping turns. -/
theorem cells_own {W W' : World} {row : Option Nat} {g : Nat} {cs : Array Value} {t : TypeId} {fr : Nat × Nat} {B : Nat} (h : W.heap[g]? = some (.cells cs t fr)) (hg : W.grownBy W' row) (hr : ∀ r, row = some r → B ≤ r ∧ ∃ o : Obj, W.heap[r]? = some o ∧ o.isCells = false) : W'.heap[g]? = some (.cells cs t fr) := by
  refine (hg.block g (Array.getElem?_eq_some_iff.1 h).1 (fun e => ?_)).trans h
  obtain ⟨_, o, ho, hc⟩ := hr g e.symm
  rw [h] at ho
  cases ho
  cases hc

set_option maxRecDepth 100000 in
set_option maxHeartbeats 4000000 in
theorem map_any (A1 A2 A3 : Option Addr) (n1 n2 n3 c1 c2 c3 B : Nat) (d s : List Int) (ls : List (Option (List Int))) (w : World) (hr : Rungs3 w B A1 A2 A3 n1 n2 n3 d s ls) (hB : B ≤ w.heap.size) :
    Calls Try.prog 15 #[.agg #[.slice A1 n1 c1, .slice A2 n2 c2, .slice A3 n3 c3]] w (RetRow w (mapRow d s ls (firsts 10))) := by
  refine (callsIn_wide (n := 5)).1 ?_
  refine callsIn_of_wp_marks Try.func15 rfl trivial ?_ rfl
  simp only [Try.ntmps15, List.size_toArray, List.length_cons, List.length_nil, Nat.reduceAdd, Nat.reduceSub, Array.replicate_succ, Array.replicate_zero, List.push_toArray, List.append_toArray, List.nil_append, List.cons_append]
  have hmk := make_76 (w.alloc (.cells #[.slice A1 n1 c1, .slice A2 n2 c2, .slice A3 n3 c3] 26))
  have HR := Lib.hid hr
  clear hr
  obtain ⟨Z, hZ⟩ : ∃ Z, Z = ints (List.replicate 76 0) := ⟨_, rfl⟩
  rw [← hZ] at hmk
  have HZ := Lib.hid hZ
  clear hZ
  gi_wp2_with (refine ⟨trivial, ?_⟩; gi_at_call 24; refine (callsIn_wide.2 (pieces_any _ _ _ _)).mono ?_; rintro e w' ⟨rfl, rfl⟩)
  obtain ⟨W0, hW0⟩ : ∃ W0, (((w.alloc (.cells #[.slice A1 n1 c1, .slice A2 n2 c2, .slice A3 n3 c3] 26)).alloc (.cells Z.toArray 3)).alloc (.cells #[.slice (some ⟨w.heap.size + 1, 0, none⟩) 76 76] 22)) = W0 := ⟨_, rfl⟩
  have hsz : W0.heap.size = w.heap.size + 1 + 1 + 1 := by rw [← hW0]; simp
  have hbx : Boxed W0 (w.heap.size + 1 + 1) 22 (.slice (some ⟨w.heap.size + 1, 0, none⟩) 76 76) := by
    rw [← hW0]
    have := Boxed.new ((w.alloc (.cells #[.slice A1 n1 c1, .slice A2 n2 c2, .slice A3 n3 c3] 26)).alloc (.cells Z.toArray 3)) 22 (.slice (some ⟨w.heap.size + 1, 0, none⟩) 76 76)
    simpa using this
  have hrow : IntRow W0 (w.heap.size + 1) (mapRow d s ls []) := by
    rw [← hW0]
    have := (IntRow.new (w.alloc (.cells #[.slice A1 n1 c1, .slice A2 n2 c2, .slice A3 n3 c3] 26)) (List.replicate 76 0)).alloc (.cells #[.slice (some ⟨w.heap.size + 1, 0, none⟩) 76 76] 22)
    rw [← HZ.out, World.size_alloc] at this
    exact this
  have hstr : W0.heap[w.heap.size]? = some (.cells #[.slice A1 n1 c1, .slice A2 n2 c2, .slice A3 n3 c3] 26 (0, 0)) := by
    rw [← hW0]
    exact (Below.heap_alloc _ _ _ (by simp; omega)).trans ((Below.heap_alloc _ _ _ (by simp)).trans (World.alloc_heap_new w _))
  have hB0 : Below w.heap.size w W0 := by rw [← hW0]; exact (((Below.refl _ w).alloc (Nat.le_refl _) _).alloc (by simp) _).alloc (by simp; omega) _
  rw [hW0]
  clear hW0 hmk HZ
  refine wpIn_rangeFunc_ownF rfl (by omega) (gf := 36) (lb := #[.pointer (some ⟨w.heap.size + 1 + 1, 0, none⟩)]) rfl trivial (enters_of Try.func36 (by kernel_rfl) rfl)
    (iter_stops Fence.wide _ trivial rfl (by omega) (w.heap.size + 1 + 1) (w.heap.size + 1) W0 hbx) KpB.t (KpB.b (by omega)) (Below.refl _ _) (fun _ => rfl)
    (fun pre W => IntRow W (w.heap.size + 1) (mapRow d s ls pre) ∧ W.heap[w.heap.size]? = some (.cells #[.slice A1 n1 c1, .slice A2 n2 c2, .slice A3 n3 c3] 26 (0, 0)) ∧ W0.heap.size ≤ W.heap.size ∧ Below w.heap.size w W)
    (fun _ _ _ => False)
    (fun pre A B' row hs hg hr => ⟨cells_own hs.1 hg hr, cells_own hs.2.1 hg hr, Nat.le_trans hs.2.2.1 hg.size, hs.2.2.2.grown hg hs.2.2.2.size (fun k e => by have := (hr k e).1; omega)⟩)
    (fun _ _ _ _ _ hs _ _ => hs)
    ⟨hrow, hstr, Nat.le_refl _, hB0⟩
    (fun x => { tmps := #[.agg #[.slice A1 n1 c1, .slice A2 n2 c2, .slice A3 n3 c3], .pointer (some ⟨w.heap.size, 0, none⟩), .slice none 0 0, .slice (some ⟨w.heap.size + 1, 0, none⟩) 76 76, .int .i64 (offP x.1 : Int), .slice (some ⟨w.heap.size + 1, offP x.1, none⟩) (lenP x.1) (76 - offP x.1), .slice (some ⟨w.heap.size + 1, 0, none⟩) 76 76, .slice (some ⟨w.heap.size + 1, 0, none⟩) 76 76, .func (.func 36) #[] #[.pointer (some ⟨w.heap.size + 1 + 1, 0, none⟩)], .int .i64 (offP x.1 : Int), .slice (some ⟨w.heap.size + 1, offP x.1, none⟩) (lenP x.1) (76 - offP x.1), undef, undef, undef, undef, undef, undef], defers := [] }) ?assign ?body ?done ?stop
  case assign =>
    intro l x W K hK
    simp only [pieceV]
    gi_wp2
    exact hK
  case body =>
    rintro l pre x W ⟨hrow', hstr', hsz', hb'⟩ _
    have k0 : W.cell? ⟨w.heap.size, 0, none⟩ = some (.slice A1 n1 c1) := by rw [cell_of_row W _ 0 _ 26 _ hstr']; rfl
    have k1 : W.cell? ⟨w.heap.size, 1, none⟩ = some (.slice A2 n2 c2) := by rw [cell_of_row W _ 1 _ 26 _ hstr']; rfl
    have k2 : W.cell? ⟨w.heap.size, 2, none⟩ = some (.slice A3 n3 c3) := by rw [cell_of_row W _ 2 _ 26 _ hstr']; rfl
    have HL := Lib.hid (list_any x.1 x.2 A1 A2 A3 n1 n2 n3 c1 c2 c3 B d s ls W (HR.out.below hb' hB) (by omega))
    have HSN : Hid (mapRow d s ls (pre ++ [x]) = splice (mapRow d s ls pre) (offP x.1) ((listOf d s ls x.1).take (Nat.min (listOf d s ls x.1).length (lenP x.1)))) := mapRow_snoc d s ls pre x
    have HLEN := Lib.hid (mapRow_len d s ls pre)
    have HOFF := Lib.hid (offP_lt x.1 x.2)
    have HROW := Lib.hid hrow'
    have HSTR := Lib.hid hstr'
    have HB := Lib.hid hb'
    clear hrow' hstr' hb' HR
    generalize mapRow d s ls pre = L1 at *
    generalize listOf d s ls x.1 = zs at *
    generalize offP x.1 = f at *
    generalize lenP x.1 = z at *
    gi_wp2_with (refine ⟨trivial, ?_⟩; gi_at_call 28; refine (CallsIn.inRound l (callsIn_wide.2 HL.out)).mono ?_; rintro e w' ⟨A, n, c, rfl, hi, rfl⟩; obtain ⟨W2, hcp, hrow2, hgr, -⟩ := copy_ints (W.alloc (.cells #[.slice A1 n1 c1, .slice A2 n2 c2, .slice A3 n3 c3] 26)) (w.heap.size + 1) f z (76 - f) B A n c L1 zs (HROW.out.alloc _) (by have := HOFF.out; have := HLEN.out; omega) (hi.keep fun p hp => World.cell?_alloc_lt W _ p (by omega)); have HI := Lib.hid hi; have HR2 := Lib.hid hrow2; have HG := Lib.hid hgr; clear hi hrow2 hgr)
    have hlt : w.heap.size + 1 + 1 < W.heap.size := by omega
    have hg := HG.out
    have hr1 : (W.alloc (.cells #[.slice A1 n1 c1, .slice A2 n2 c2, .slice A3 n3 c3] 26)).heap[w.heap.size + 1]? = _ := HROW.out.alloc _
    refine ⟨(KeepsOthers.alloc W _).trans (KeepsOthers.of_grownBy hg fun j o ej hj => ?_), ?_, ?_, ?_, ?_, ?_⟩
    · cases ej
      rw [hr1] at hj
      cases hj
      rfl
    · exact (hg.block _ (by simp; omega) (by simp)).trans (Below.heap_alloc _ _ _ hlt)
    · have e := HI.out.len
      rw [HSN.out, e]
      exact HR2.out
    · exact (hg.block _ (by simp; omega) (by simp)).trans ((Below.heap_alloc _ _ _ (by omega)).trans HSTR.out)
    · have := hg.size
      simp at this
      omega
    · exact (HB.out.alloc HB.out.size _).grown hg (by have := HB.out.size; simp; omega) (fun k e => by cases e; omega)
  case done =>
    rintro D xs W hD rfl ⟨hrow', hstr', hsz', hb'⟩ hK
    have HROW := Lib.hid hrow'
    have HB := Lib.hid hb'
    clear hrow' hstr' hb'
    gi_wp2
    refine ⟨by simp, .inl ⟨_, _, rfl, run_takeDeferred hK, ?_⟩⟩
    refine ⟨_, results_tmp rfl _ _ _, w.heap.size + 1, by omega, ?_, ?_, ?_⟩
    · rw [mapRow_len]; rfl
    · exact (World.putObj_heap_other (by omega)).trans HROW.out
    · exact HB.out.trans (belowK_b (w := w) (Nat.le_refl _) W D _ _ (by omega) hK rfl rfl)
  case stop =>
    rintro D c pre W _ _ h _
    exact h.elim
end Go.Proofs.Ytiknbbkblldjiaa
