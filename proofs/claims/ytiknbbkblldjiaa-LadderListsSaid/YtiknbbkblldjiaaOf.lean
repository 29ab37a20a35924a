/-
  WALK: Of. Conditions: at most 1000 elements.
-/
import Derived.Test.YtiknbbkblldjiaaOfState
import Derived.Laws.ResultCell
namespace Go.Proofs.Ytiknbbkblldjiaa
open Go.RowKit Go.Shelf
attribute [local go_sem] Oper.semAt_some

/-- Of's answer where the map may be told. -/
def RetOf (w : World) (zs : List Int) (e : Ending) (w' : World) : Prop :=
  ∃ v1 v2 v3, e = .returned (.tuple #[.agg #[v1, v2, v3], .int .i64 0]) ∧ NewLst w.heap.size w' v1 (some (pieceOf zs 0)) ∧ NewLst w.heap.size w' v2 (optP zs 1) ∧ DblSt w.heap.size w' v3 (fun j => optP zs (j + 2)) ∧ Below w.heap.size w w'

theorem of_results (W : World) (q : Nat) (v1 v2 v3 : Value) (tmps : Array Value) (h : W.heap[q]? = some (.cells #[v1, v2, v3] 26 (0, 0))) (ht : tmps.getD 2 undef = .pointer (some ⟨q, 0, none⟩)) :
    (results Try.f9 tmps).run Try.prog W = .ok (.tuple #[.agg #[v1, v2, v3], tmps.getD 3 undef]) W := by
  have k0 : W.cell? ⟨q, 0, none⟩ = some v1 := by rw [cell_of_row W _ 0 _ 26 _ h]; rfl
  have k1 : W.cell? ⟨q, 1, none⟩ = some v2 := by rw [cell_of_row W _ 1 _ 26 _ h]; rfl
  have k2 : W.cell? ⟨q, 2, none⟩ = some v3 := by rw [cell_of_row W _ 2 _ 26 _ h]; rfl
  rw [results_cell_tmp (show Try.f9.results = #[.cell 2 26, .tmp 3] from rfl), ht]
  simp [go_sem, k0, k1, k2]

set_option maxRecDepth 100000 in
set_option maxHeartbeats 4000000 in
theorem of_err (E : Int) (A : Option Addr) (n c B : Nat) (zs : List Int) (w : World) (hr : IntsAt w B A n zs) (hB : B ≤ w.heap.size) (hn : n ≤ 1000) (hc : n ≤ c) (hE : fitsE zs = E) (h0 : E = 3 ∨ E = 12) :
    Calls Try.prog 9 #[.slice A n c] w fun e w' => e = .returned (.tuple #[.agg #[nilS, nilS, nilS], .int .i64 E]) ∧ Below w.heap.size w w' := by
  refine (callsIn_wide (n := 5)).1 ?_
  refine callsIn_of_wp_marks Try.func9 rfl trivial ?_ rfl
  simp only [Try.ntmps9, List.size_toArray, List.length_cons, List.length_nil, Nat.reduceAdd, Nat.reduceSub, Array.replicate_succ, Array.replicate_zero, List.push_toArray, List.append_toArray, List.nil_append, List.cons_append]
  have HC : Hid (∀ w', Below w.heap.size w w' → Calls Try.prog 23 #[.slice A n c] w' fun e w'' => e = .returned (.int .i64 E) ∧ w' = w'') := fun w' hb => by
    have := check_any A n c B zs w' (hr.below hb hB) (by omega) hc
    rwa [hE] at this
  have hb1 : Below w.heap.size w (w.alloc (.cells #[nilS, nilS, nilS] 26)) := (Below.refl _ w).alloc (Nat.le_refl _) _
  have HB1 := Lib.hid hb1
  clear hr hE hb1
  have h0' : (E != 0) = true := bne_iff_ne.2 (by omega)
  clear h0
  gi_wp2_with (refine ⟨trivial, ?_⟩; gi_at_call 23; refine (callsIn_wide.2 (HC.out _ HB1.out)).mono ?_; rintro e w' ⟨rfl, rfl⟩)
  refine ⟨_, of_results _ w.heap.size nilS nilS nilS _ (World.alloc_heap_new w _) rfl, ?_, HB1.out⟩
  rfl

theorem OfSt.keep {base R : Nat} {zs : List Int} {W W' : World} {pre : List (Fin 10)} (h : OfSt base R zs W pre) (hk : ∀ (b : Nat) (cs : Array Value) (t : TypeId), W.heap[b]? = some (.cells cs t (0, 0)) → W'.heap[b]? = W.heap[b]?) : OfSt base R zs W' pre := by
  obtain ⟨v1, v2, v3, h0, h1, h2, h3⟩ := h
  exact ⟨v1, v2, v3, (hk _ _ _ h0).trans h0, h1.keep fun b cs _ hc => hk b cs 3 hc, h2.keep fun b cs _ hc => hk b cs 3 hc, h3.keep fun b cs t _ hc => hk b cs t hc⟩
theorem NewLst.less {base base' : Nat} {w : World} {v : Value} {o : Option (List Int)} (h : NewLst base w v o) (hb : base' ≤ base) : NewLst base' w v o := by
  cases o with
  | none => exact h
  | some l => obtain ⟨b, hbb, e, hr⟩ := h; exact ⟨b, by omega, e, hr⟩
theorem DblSt.less {base base' : Nat} {w : World} {v : Value} {st : Nat → Option (List Int)} (h : DblSt base w v st) (hb : base' ≤ base) : DblSt base' w v st := by
  rcases h with h | ⟨D, us, hD, e, hl, hd, hj, hs⟩
  · exact .inl h
  · exact .inr ⟨D, us, by omega, e, hl, hd, fun j h8 => (hj j h8).less hb, hs⟩
theorem NewLst.form {base : Nat} {w : World} {v : Value} {o : Option (List Int)} (h : NewLst base w v o) : ∃ A n c, v = .slice A n c := by
  cases o with
  | none => exact ⟨_, _, _, h⟩
  | some l => obtain ⟨b, _, e, _⟩ := h; exact ⟨_, _, _, e⟩
theorem DblSt.form {base : Nat} {w : World} {v : Value} {st : Nat → Option (List Int)} (h : DblSt base w v st) : ∃ A n c, v = .slice A n c := by
  rcases h with ⟨h, _⟩ | ⟨D, us, _, e, _⟩
  · exact ⟨_, _, _, h⟩
  · exact ⟨_, _, _, e⟩
theorem cell3 {W : World} {q : Nat} {v1 v2 v3 : Value} {t : TypeId} (h : W.heap[q]? = some (.cells #[v1, v2, v3] t (0, 0))) :
    (W.cell? ⟨q, 0, none⟩ = some v1 ∧ W.frozen? ⟨q, 0, none⟩ = false) ∧ (W.cell? ⟨q, 1, none⟩ = some v2 ∧ W.frozen? ⟨q, 1, none⟩ = false) ∧ (W.cell? ⟨q, 2, none⟩ = some v3 ∧ W.frozen? ⟨q, 2, none⟩ = false) :=
  ⟨⟨by rw [cell_of_row W _ 0 _ t _ h]; rfl, frozen_of_row _ _ _ _ _ h⟩, ⟨by rw [cell_of_row W _ 1 _ t _ h]; rfl, frozen_of_row _ _ _ _ _ h⟩, ⟨by rw [cell_of_row W _ 2 _ t _ h]; rfl, frozen_of_row _ _ _ _ _ h⟩⟩
theorem DblSt.ext {base : Nat} {w : World} {v : Value} {st st' : Nat → Option (List Int)} (h : DblSt base w v st) (he : ∀ j, j < 8 → st j = st' j) : DblSt base w v st' := by
  rcases h with ⟨h, h8⟩ | ⟨D, us, hD, e, hl, hd, hj, j, hj8, hs⟩
  · exact .inl ⟨h, fun j hj => by rw [← he j hj]; exact h8 j hj⟩
  · exact .inr ⟨D, us, hD, e, hl, hd, fun j h8 => by rw [← he j h8]; exact hj j h8, j, hj8, by rw [← he j hj8]; exact hs⟩

theorem wholeOf_fit (zs : List Int) (h : ∀ z ∈ zs, Fit z) : ∀ z ∈ wholeOf zs, Fit z := by
  intro z hz
  unfold wholeOf splice at hz
  rcases List.mem_append.1 hz with h1 | h1
  · simp at h1
  · rcases List.mem_append.1 h1 with h2 | h2
    · exact h z (List.mem_of_mem_take h2)
    · have := List.eq_of_mem_replicate (List.mem_of_mem_drop h2)
      subst this
      unfold Fit
      omega

theorem OfMid.make' {base R : Nat} {zs : List Int} {W : World} {pre : List (Fin 10)} {v1 v2 : Value} {Z8 : Array Value} (hZ8 : Z8 = (List.replicate 8 nilS).toArray) (h0 : W.heap[R]? = some (.cells #[v1, v2, nilS] 26 (0, 0))) (h1 : NewLst base W v1 (stF zs pre 0)) (h2 : NewLst base W v2 (stF zs pre 1)) (h3 : ∀ j, j < 8 → stF zs pre (j + 2) = none) (hR : R < base) (hB : base ≤ W.heap.size) :
    OfMid base R W.heap.size zs ((W.setCell ⟨R, 2, none⟩ (.slice (some ⟨W.heap.size, 0, none⟩) 8 8)).alloc (.cells Z8 22)) pre := by
  subst hZ8
  have hlt := (Array.getElem?_eq_some_iff.1 h0).1
  have hs : (W.setCell ⟨R, 2, none⟩ (.slice (some ⟨W.heap.size, 0, none⟩) 8 8)).heap.size = W.heap.size := by simp
  have keep : ∀ b cs t, base ≤ b → W.heap[b]? = some (.cells cs t (0, 0)) → ((W.setCell ⟨R, 2, none⟩ (.slice (some ⟨W.heap.size, 0, none⟩) 8 8)).alloc (.cells (List.replicate 8 nilS).toArray 22)).heap[b]? = W.heap[b]? := fun b cs t hbb hc =>
    (Below.heap_alloc _ _ _ (by rw [hs]; exact (Array.getElem?_eq_some_iff.1 hc).1)).trans (Below.heap_setCell _ _ _ b (by show b ≠ R; omega))
  refine ⟨v1, v2, (Below.heap_alloc _ _ _ (by rw [hs]; exact hlt)).trans (heap_set h0 _), h1.keep fun b cs => keep b cs 3, h2.keep fun b cs => keep b cs 3, hB, List.replicate 8 nilS, by simp, ?_, fun j hj => ?_⟩
  · have := World.alloc_heap_new (W.setCell ⟨R, 2, none⟩ (.slice (some ⟨W.heap.size, 0, none⟩) 8 8)) (.cells (List.replicate 8 nilS).toArray 22)
    rwa [hs] at this
  · rw [h3 j hj]
    show _ = _
    rw [List.getD, List.getElem?_replicate, if_pos hj]
    rfl
theorem eql_nil (W : World) : (binOp .eql 24 (.slice none 0 0) (.slice none 0 0)).run Try.prog W = .ok (.bool true) W := by kernel_rfl
theorem eql_some (W : World) (a : Addr) : (binOp .eql 24 (.slice (some a) 8 8) (.slice none 0 0)).run Try.prog W = .ok (.bool false) W := by kernel_rfl
theorem KeepsOthers.of_below {W W' : World} (h : Below W.heap.size W W') : KeepsOthers W W' := ⟨h.size, fun k _ hk _ => (h.block k (Array.getElem?_eq_some_iff.1 hk).1).trans hk⟩
/-- what a round leaves as it was, behind a call that makes memory and a store to block q. -/
theorem fin_set {w W W2 : World} {zs : List Int} {q i N : Nat} {rs : Array Value} {v : Value} (hb : Below W.heap.size W W2) (hrow : IntRow W (w.heap.size + 1) (wholeOf zs)) (hres : W.heap[w.heap.size]? = some (.cells rs 26 (0, 0))) (hN : N ≤ W.heap.size) (hbw : Below w.heap.size w W)
    (hlt : w.heap.size + 1 + 1 + 1 < W.heap.size) (h1 : w.heap.size + 1 < q) (h2 : q ≠ w.heap.size + 1 + 1 + 1) :
    KeepsOthers W (W2.setCell ⟨q, i, none⟩ v) ∧ KpB (w.heap.size + 1 + 1 + 1) W (W2.setCell ⟨q, i, none⟩ v) ∧ IntRow (W2.setCell ⟨q, i, none⟩ v) (w.heap.size + 1) (wholeOf zs) ∧ (W2.setCell ⟨q, i, none⟩ v).heap[w.heap.size]? = some (.cells rs 26 (0, 0)) ∧ N ≤ (W2.setCell ⟨q, i, none⟩ v).heap.size ∧ Below w.heap.size w (W2.setCell ⟨q, i, none⟩ v) := by
  have keep : ∀ b, b ≠ q → b < W.heap.size → (W2.setCell ⟨q, i, none⟩ v).heap[b]? = W.heap[b]? := fun b hq hbW => (Below.heap_setCell _ _ _ b hq).trans (hb.block b hbW)
  refine ⟨(KeepsOthers.of_below hb).trans (KeepsOthers.setCell _ _ _), keep _ (by omega) hlt, (keep _ (by omega) (by omega)).trans hrow, (keep _ (by omega) (by omega)).trans hres, ?_, ?_⟩
  · have h3 := hb.size
    have h4 := (KeepsOthers.setCell W2 ⟨q, i, none⟩ v).size
    omega
  · exact (hbw.trans (hb.mono hbw.size)).setCell (p := ⟨q, i, none⟩) (by show _ ≤ q; omega) v

set_option maxRecDepth 100000 in
set_option maxHeartbeats 4000000 in
theorem of_ok (A : Option Addr) (n c B : Nat) (zs : List Int) (w : World) (hr : IntsAt w B A n zs) (hB : B ≤ w.heap.size) (hn : n ≤ 1000) (hc : n ≤ c) (hE : fitsE zs = 0) :
    Calls Try.prog 9 #[.slice A n c] w (RetOf w zs) := by
  refine (callsIn_wide (n := 5)).1 ?_
  refine callsIn_of_wp_marks Try.func9 rfl trivial ?_ rfl
  simp only [Try.ntmps9, List.size_toArray, List.length_cons, List.length_nil, Nat.reduceAdd, Nat.reduceSub, Array.replicate_succ, Array.replicate_zero, List.push_toArray, List.append_toArray, List.nil_append, List.cons_append]
  have HFIT := Lib.hid (wholeOf_fit zs hr.fit)
  have HC : Hid (∀ w', Below w.heap.size w w' → Calls Try.prog 23 #[.slice A n c] w' fun e w'' => e = .returned (.int .i64 0) ∧ w' = w'') := fun w' hb => by
    have := check_any A n c B zs w' (hr.below hb hB) (by omega) hc
    rwa [hE] at this
  have hb1 : Below w.heap.size w (w.alloc (.cells #[nilS, nilS, nilS] 26)) := (Below.refl _ w).alloc (Nat.le_refl _) _
  have hmk := make_76 (w.alloc (.cells #[nilS, nilS, nilS] 26))
  have hb2 : Below w.heap.size w ((w.alloc (.cells #[nilS, nilS, nilS] 26)).alloc (.cells (ints (List.replicate 76 0)).toArray 3)) := hb1.alloc (by simp) _
  obtain ⟨W1, hcp, hrow1, hg1, hz0⟩ := copy_ints ((w.alloc (.cells #[nilS, nilS, nilS] 26)).alloc (.cells (ints (List.replicate 76 0)).toArray 3)) (w.heap.size + 1) 0 76 76 B A n c (List.replicate 76 0) zs
    (by have := IntRow.new (w.alloc (.cells #[nilS, nilS, nilS] 26)) (List.replicate 76 0); simpa only [World.size_alloc] using this) (by simp) (hr.below hb2 hB)
  have HROW1 : Hid (IntRow W1 (w.heap.size + 1) (wholeOf zs)) := by
    show IntRow _ _ _
    have e := hr.len
    unfold wholeOf
    rw [e]
    exact hrow1
  have hz1 : W1.heap.size = w.heap.size + 1 + 1 := by rw [hz0]; simp
  have hb3 : Below w.heap.size w W1 := hb2.grown hg1 (by simp; omega) (fun k e => by cases e; omega)
  have hres1 : W1.heap[w.heap.size]? = some (.cells #[nilS, nilS, nilS] 26 (0, 0)) := (hg1.block _ (by simp; omega) (by simp)).trans ((Below.heap_alloc _ _ _ (by simp)).trans (World.alloc_heap_new w _))
  have HB1 := Lib.hid hb1
  have HB3 := Lib.hid hb3
  have HRES1 := Lib.hid hres1
  obtain ⟨Z, hZ⟩ : ∃ Z, Z = ints (List.replicate 76 0) := ⟨_, rfl⟩
  rw [← hZ] at hmk hcp
  clear hZ hz0 hrow1 hg1 hb1 hb2 hb3 hres1 hr hE
  gi_wp2_with (refine ⟨trivial, ?_⟩; gi_at_call 23; refine (callsIn_wide.2 (HC.out _ HB1.out)).mono ?_; rintro e w' ⟨rfl, rfl⟩)
  gi_wp2_with (refine ⟨trivial, ?_⟩; gi_at_call 24; refine (callsIn_wide.2 (pieces_any _ _ _ _)).mono ?_; rintro e w' ⟨rfl, rfl⟩)
  obtain ⟨W0, hW0⟩ : ∃ W0, ((W1.alloc (.cells #[nilS, nilS, nilS] 26)).alloc (.cells #[.slice (some ⟨w.heap.size + 1, 0, none⟩) 76 76] 22)) = W0 := ⟨_, rfl⟩
  have hsz : W0.heap.size = w.heap.size + 1 + 1 + 1 + 1 := by rw [← hW0]; simp [hz1]
  have hbx : Boxed W0 (w.heap.size + 1 + 1 + 1) 22 (.slice (some ⟨w.heap.size + 1, 0, none⟩) 76 76) := by
    rw [← hW0]
    have := Boxed.new (W1.alloc (.cells #[nilS, nilS, nilS] 26)) 22 (.slice (some ⟨w.heap.size + 1, 0, none⟩) 76 76)
    rwa [World.size_alloc, hz1] at this
  have hrow : IntRow W0 (w.heap.size + 1) (wholeOf zs) := by
    rw [← hW0]
    exact (HROW1.out.alloc _).alloc _
  have hst : OfSt (w.heap.size + 1 + 1 + 1 + 1) (w.heap.size + 1 + 1) zs W0 [] := by
    rw [← hW0]
    refine ⟨nilS, nilS, nilS, ?_, by rw [stF_nil]; rfl, by rw [stF_nil]; rfl, .inl ⟨rfl, fun j _ => stF_nil zs _⟩⟩
    have := World.alloc_heap_new W1 (.cells #[nilS, nilS, nilS] 26)
    rw [hz1] at this
    exact (Below.heap_alloc _ _ _ (by simp; omega)).trans this
  have hres : W0.heap[w.heap.size]? = some (.cells #[nilS, nilS, nilS] 26 (0, 0)) := by
    rw [← hW0]
    exact (Below.heap_alloc _ _ _ (by simp; omega)).trans ((Below.heap_alloc _ _ _ (by omega)).trans HRES1.out)
  have hB0 : Below w.heap.size w W0 := by rw [← hW0]; exact (HB3.out.alloc HB3.out.size _).alloc (by simp; omega) _
  rw [hW0]
  clear hW0 hmk hcp HROW1 HRES1 HB1 HC
  refine wpIn_rangeFunc_ownF rfl (by omega) (gf := 36) (lb := #[.pointer (some ⟨w.heap.size + 1 + 1 + 1, 0, none⟩)]) rfl trivial (enters_of Try.func36 (by kernel_rfl) rfl)
    (iter_stops Fence.wide _ trivial rfl (by omega) (w.heap.size + 1 + 1 + 1) (w.heap.size + 1) W0 hbx) KpB.t (KpB.b (by omega)) (Below.refl _ _) (fun _ => rfl)
    (fun pre W => IntRow W (w.heap.size + 1) (wholeOf zs) ∧ OfSt (w.heap.size + 1 + 1 + 1 + 1) (w.heap.size + 1 + 1) zs W pre ∧ W.heap[w.heap.size]? = some (.cells #[nilS, nilS, nilS] 26 (0, 0)) ∧ W0.heap.size ≤ W.heap.size ∧ Below w.heap.size w W)
    (fun _ _ _ => False)
    (fun pre A B' row hs hg hr => ⟨cells_own hs.1 hg hr, hs.2.1.keep (fun b cs t hc => (cells_own hc hg hr).trans hc.symm), cells_own hs.2.2.1 hg hr, Nat.le_trans hs.2.2.2.1 hg.size, hs.2.2.2.2.grown hg hs.2.2.2.2.size (fun k e => by have := (hr k e).1; omega)⟩)
    (fun _ _ _ _ _ hs _ _ => hs)
    ⟨hrow, hst, hres, Nat.le_refl _, hB0⟩
    (fun x => { tmps := #[.slice A n c, undef, .pointer (some ⟨w.heap.size, 0, none⟩), .int .i64 0, .int .i64 0, .slice (some ⟨w.heap.size + 1, 0, none⟩) 76 76, .pointer (some ⟨w.heap.size + 1 + 1, 0, none⟩), .int .i64 (offP x.1 : Int), .slice (some ⟨w.heap.size + 1, offP x.1, none⟩) (lenP x.1) (76 - offP x.1), undef, undef, undef, .slice A n c, .int .i64 0, .int .i64 0, .bool false, undef, undef, .slice (some ⟨w.heap.size + 1, 0, none⟩) 76 76, .slice (some ⟨w.heap.size + 1, 0, none⟩) 76 76, .slice A n c, .int .i64 (Nat.min n 76 : Nat), .slice (some ⟨w.heap.size + 1, 0, none⟩) 76 76, .func (.func 36) #[] #[.pointer (some ⟨w.heap.size + 1 + 1 + 1, 0, none⟩)], .int .i64 (offP x.1 : Int), .slice (some ⟨w.heap.size + 1, offP x.1, none⟩) (lenP x.1) (76 - offP x.1), undef, undef, undef, undef, undef, undef, undef, undef, undef, undef, undef, undef, undef, undef, undef, undef, undef, undef, undef, undef, undef, undef, undef, undef, undef, undef, undef, undef, undef, undef, undef, undef, undef], defers := [] }) ?assign ?body ?done ?stop
  case assign =>
    intro l x W K hK
    simp only [pieceV]
    gi_wp2
    exact hK
  case body =>
    rintro l pre x W ⟨hrow', hst', hres', hsz', hb'⟩ _
    have HP := Lib.hid (fun w => place_any (offP x.1 : Int) w (by have := offP_lt x.1 x.2; unfold Fit; omega))
    have HPI : Hid (IntsAt W (w.heap.size + 1 + 1) (some ⟨w.heap.size + 1, offP x.1, none⟩) (lenP x.1) (pieceOf zs x.1)) := hrow'.sub HFIT.out (by omega) (offP x.1) (lenP x.1) (by rw [wholeOf_len]; have := offP_lt x.1 x.2; omega)
    have HLEN := Lib.hid (pieceOf_len zs x.1 x.2)
    have hll := (offP_lt x.1 x.2).2.2
    have HST := Lib.hid hst'
    have HROW := Lib.hid hrow'
    have HRES := Lib.hid hres'
    have HB := Lib.hid hb'
    have HCO := Lib.hid (copied_any (some ⟨w.heap.size + 1, offP x.1, none⟩) (lenP x.1) (76 - offP x.1) (w.heap.size + 1 + 1) (pieceOf zs x.1) W HPI.out (by omega) (by omega))
    obtain ⟨v1, v2, v3, q0, q1, q2, q3⟩ := hst'
    obtain ⟨⟨k0, f0⟩, ⟨k1, f1⟩, ⟨k2, f2⟩⟩ := cell3 q0
    obtain ⟨X1, m1, p1, rfl⟩ := q1.form
    obtain ⟨X2, m2, p2, rfl⟩ := q2.form
    clear hrow' hres' hb'
    have hlt : w.heap.size + 1 + 1 + 1 < W.heap.size := by omega
    have hR2 : w.heap.size + 1 + 1 < W.heap.size := by omega
    obtain ⟨xk, hxk⟩ := x
    rcases xk with _ | _ | j
    · have HQ : Hid (∀ w, Calls Try.prog 18 #[.int .i64 0] w fun e w' => e = .returned (.tuple #[.int .i64 0, .int .i64 0, .int .i64 0]) ∧ w = w') := fun w => by
        have := HP.out w
        simp only at this
        rwa [placeK_0] at this
      simp only [show offP 0 = 0 from rfl, show lenP 0 = 4 from rfl] at HCO HLEN ⊢
      obtain ⟨X3, m3, p3, rfl⟩ := q3.form
      clear q0 q1 q2 q3
      gi_wp2_with (first | (refine ⟨trivial, ?_⟩; gi_at_call 18; refine (CallsIn.inRound l (callsIn_wide.2 (HQ.out _))).mono ?_; rintro e w' ⟨rfl, rfl⟩) | (refine ⟨trivial, ?_⟩; gi_at_call 25; refine (CallsIn.inRound l (callsIn_wide.2 HCO.out)).mono ?_; rintro e W2 ⟨g, hg, rfl, hrow2, hb2⟩; have kk := (hb2.cell (p := ⟨w.heap.size + 1 + 1, 0, none⟩) hR2).trans k0; have ff := (hb2.frozen (p := ⟨w.heap.size + 1 + 1, 0, none⟩) hR2).trans f0; have HB2 := Lib.hid hb2; have HROW2 := Lib.hid hrow2; clear hb2 hrow2))
      obtain ⟨a1, a2, a3, a4, a5, a6⟩ := fin_set (q := w.heap.size + 1 + 1) (i := 0) (v := .slice (some ⟨g, 0, none⟩) (pieceOf zs 0).length (pieceOf zs 0).length) HB2.out HROW.out HRES.out hsz' HB.out hlt (by omega) (by omega)
      exact ⟨a1, a2, a3, HST.out.set0 rfl HB2.out (by omega) g (by omega) HROW2.out _ rfl, a4, a5, a6⟩
    · have HQ : Hid (∀ w, Calls Try.prog 18 #[.int .i64 4] w fun e w' => e = .returned (.tuple #[.int .i64 1, .int .i64 0, .int .i64 0]) ∧ w = w') := fun w => by
        have := HP.out w
        simp only at this
        rwa [placeK_1] at this
      simp only [show offP (0 + 1) = 4 from rfl, show lenP (0 + 1) = 8 from rfl] at HCO HLEN HPI ⊢
      obtain ⟨X3, m3, p3, rfl⟩ := q3.form
      clear q0 q1 q2 q3
      cases hz : zeroB (pieceOf zs (0 + 1)) with
      | true =>
        have HAZ := Lib.hid (allZero_any true _ _ (76 - 4) _ _ _ HPI.out (by omega) hz)
        have HZ := Lib.hid hz
        clear hz
        gi_wp2_with (first | (refine ⟨trivial, ?_⟩; gi_at_call 18; refine (CallsIn.inRound l (callsIn_wide.2 (HQ.out _))).mono ?_; rintro e w' ⟨rfl, rfl⟩) | (refine ⟨trivial, ?_⟩; gi_at_call 26; refine (CallsIn.inRound l (callsIn_wide.2 HAZ.out)).mono ?_; rintro e w' ⟨rfl, rfl⟩))
        exact ⟨KeepsOthers.refl _, rfl, HROW.out, HST.out.skip (by simp) HZ.out, HRES.out, hsz', HB.out⟩
      | false =>
        have HAZ := Lib.hid (allZero_any false _ _ (76 - 4) _ _ _ HPI.out (by omega) hz)
        have HZ := Lib.hid hz
        clear hz
        gi_wp2_with (first | (refine ⟨trivial, ?_⟩; gi_at_call 18; refine (CallsIn.inRound l (callsIn_wide.2 (HQ.out _))).mono ?_; rintro e w' ⟨rfl, rfl⟩) | (refine ⟨trivial, ?_⟩; gi_at_call 26; refine (CallsIn.inRound l (callsIn_wide.2 HAZ.out)).mono ?_; rintro e w' ⟨rfl, rfl⟩) | (refine ⟨trivial, ?_⟩; gi_at_call 25; refine (CallsIn.inRound l (callsIn_wide.2 HCO.out)).mono ?_; rintro e W2 ⟨g, hg, rfl, hrow2, hb2⟩; have kk := (hb2.cell (p := ⟨w.heap.size + 1 + 1, 1, none⟩) hR2).trans k1; have ff := (hb2.frozen (p := ⟨w.heap.size + 1 + 1, 1, none⟩) hR2).trans f1; have HB2 := Lib.hid hb2; have HROW2 := Lib.hid hrow2; clear hb2 hrow2))
        obtain ⟨a1, a2, a3, a4, a5, a6⟩ := fin_set (q := w.heap.size + 1 + 1) (i := 1) (v := .slice (some ⟨g, 0, none⟩) (pieceOf zs (0 + 1)).length (pieceOf zs (0 + 1)).length) HB2.out HROW.out HRES.out hsz' HB.out hlt (by omega) (by omega)
        exact ⟨a1, a2, a3, HST.out.set1 rfl HZ.out HB2.out (by omega) g (by omega) HROW2.out _ rfl, a4, a5, a6⟩
    · have hj : j < 8 := by omega
      have HQ : Hid (∀ w, Calls Try.prog 18 #[.int .i64 (offP (j + 2) : Int)] w fun e w' => e = .returned (.tuple #[.int .i64 2, .int .i64 (j : Int), .int .i64 0]) ∧ w = w') := fun w => by
        have := HP.out w
        simp only at this
        rwa [placeK_2 j hj] at this
      have HL8 : Hid (lenP (j + 2) = 8) := lenP_succ _
      simp only [show j + 1 + 1 = j + 2 from rfl, HL8.out] at HCO HLEN HPI HQ ⊢
      generalize offP (j + 2) = f at *
      clear HP hll
      cases hz : zeroB (pieceOf zs (j + 2)) with
      | true =>
        have HAZ := Lib.hid (allZero_any true _ _ (76 - f) _ _ _ HPI.out (by omega) hz)
        have HZ := Lib.hid hz
        obtain ⟨X3, m3, p3, rfl⟩ := q3.form
        clear hz q0 q1 q2 q3
        gi_wp2_with (first | (refine ⟨trivial, ?_⟩; gi_at_call 18; refine (CallsIn.inRound l (callsIn_wide.2 (HQ.out _))).mono ?_; rintro e w' ⟨rfl, rfl⟩) | (refine ⟨trivial, ?_⟩; gi_at_call 26; refine (CallsIn.inRound l (callsIn_wide.2 HAZ.out)).mono ?_; rintro e w' ⟨rfl, rfl⟩))
        exact ⟨KeepsOthers.refl _, rfl, HROW.out, HST.out.skip (by simp) HZ.out, HRES.out, hsz', HB.out⟩
      | false =>
        have HAZ := Lib.hid (allZero_any false _ _ (76 - f) _ _ _ HPI.out (by omega) hz)
        have HZ := Lib.hid hz
        clear hz
        rcases q3 with ⟨rfl, hnone⟩ | ⟨D, us, hD, rfl, hul, hd, hu, _⟩
        · obtain ⟨Z8, hZ8⟩ : ∃ Z8, Z8 = (List.replicate 8 nilS).toArray := ⟨_, rfl⟩
          have HM := Lib.hid (OfMid.make' hZ8 q0 q1 q2 hnone (by omega) (by omega))
          have hmk := make_lists W
          rw [← hZ8] at hmk
          clear hZ8
          have heq := eql_nil W
          have k2' : W.cell? ⟨w.heap.size + 1 + 1, 2, none⟩ = some (.slice none 0 0) := k2
          clear q0 q1 q2 k2
          gi_wp2_with (first | (refine ⟨trivial, ?_⟩; gi_at_call 18; refine (CallsIn.inRound l (callsIn_wide.2 (HQ.out _))).mono ?_; rintro e w' ⟨rfl, rfl⟩) | (refine ⟨trivial, ?_⟩; gi_at_call 26; refine (CallsIn.inRound l (callsIn_wide.2 HAZ.out)).mono ?_; rintro e w' ⟨rfl, rfl⟩))
          obtain ⟨Wm, hWm⟩ : ∃ Wm, (W.setCell ⟨w.heap.size + 1 + 1, 2, none⟩ (.slice (some ⟨W.heap.size, 0, none⟩) 8 8)).alloc (.cells Z8 22) = Wm := ⟨_, rfl⟩
          have hsm : W.heap.size ≤ Wm.heap.size := by rw [← hWm]; simp
          have HKO : Hid (KeepsOthers W Wm) := by show KeepsOthers _ _; rw [← hWm]; exact (KeepsOthers.setCell _ _ _).trans (KeepsOthers.alloc _ _)
          have keep : ∀ b, b < W.heap.size → b ≠ w.heap.size + 1 + 1 → Wm.heap[b]? = W.heap[b]? := fun b hb hne => by rw [← hWm]; exact (Below.heap_alloc _ _ _ (by simpa using hb)).trans (Below.heap_setCell _ _ _ b hne)
          have HKP : Hid (KpB (w.heap.size + 1 + 1 + 1) W Wm) := keep _ hlt (by omega)
          have HROWm : Hid (IntRow Wm (w.heap.size + 1) (wholeOf zs)) := (keep _ (by omega) (by omega)).trans HROW.out
          have HPIm : Hid (IntsAt Wm (w.heap.size + 1 + 1) (some ⟨w.heap.size + 1, f, none⟩) 8 (pieceOf zs (j + 2))) := HPI.out.keep fun p hp => by unfold World.cell?; rw [keep p.block (by omega) (by omega)]
          have HRESm : Hid (Wm.heap[w.heap.size]? = some (.cells #[nilS, nilS, nilS] 26 (0, 0))) := (keep _ (by omega) (by omega)).trans HRES.out
          have HBm : Hid (Below w.heap.size w Wm) := by
            show Below _ _ _
            rw [← hWm]
            exact (HB.out.setCell (p := ⟨w.heap.size + 1 + 1, 2, none⟩) (by show w.heap.size ≤ w.heap.size + 1 + 1; omega) _).alloc (by have := HB.out.size; simp; omega) _
          rw [hWm]
          rw [hWm] at HM
          clear hWm hmk heq k0 k1 k2' f0 f1 f2
          have hmx : Try.prog.follows .mixedOrders = true := by kernel_rfl
          have HM2 := HM
          obtain ⟨v1, v2, q0, q1, q2, hD, us, hul, hd, hu⟩ := HM.out
          have kR := (cell3 q0).2.2.1
          have hRm : w.heap.size + 1 + 1 < Wm.heap.size := by omega
          have hDm : W.heap.size < Wm.heap.size := (Array.getElem?_eq_some_iff.1 hd).1
          have kD : Wm.cell? ⟨W.heap.size, j, none⟩ = some (us.getD j nilS) := by
            rw [cell_of_row Wm _ j _ 22 _ hd, List.getElem?_toArray]
            simp [List.getD, List.getElem?_eq_getElem (show j < us.length by omega)]
          have fD : Wm.frozen? ⟨W.heap.size, j, none⟩ = false := frozen_of_row _ _ _ _ _ hd
          have HC2 := Lib.hid (copied_any (some ⟨w.heap.size + 1, f, none⟩) 8 (76 - f) (w.heap.size + 1 + 1) (pieceOf zs (j + 2)) Wm.drew (HPIm.out.keep fun _ _ => rfl) (by show _ ≤ Wm.heap.size; omega) (by omega))
          have hj8 : (j : Int) < 8 := by omega
          have hD3 : W.heap.size ≠ w.heap.size + 1 + 1 + 1 := by omega
          have hD1 : w.heap.size + 1 < W.heap.size := by omega
          have hRD : ¬ w.heap.size + 1 + 1 = W.heap.size := by omega
          generalize us.getD j nilS = u at *
          clear q0 q1 q2 hd hu HM HAZ HCO HQ HPI HLEN
          gi_region_with_o (refine ⟨trivial, ?_⟩; gi_at_call 25; refine (CallsIn.inRound l (callsIn_wide.2 HC2.out)).mono ?_; rintro e W2 ⟨g, hg, rfl, hrow2, hb2'⟩; have hb2 : Below Wm.heap.size Wm W2 := ⟨hb2'.os, hb2'.tape, hb2'.output, hb2'.size, hb2'.block⟩; have kR2 := (hb2.cell (p := ⟨w.heap.size + 1 + 1, 2, none⟩) hRm).trans kR; have kD2 := (hb2.cell (p := ⟨W.heap.size, j, none⟩) hDm).trans kD; have fD2 := (hb2.frozen (p := ⟨W.heap.size, j, none⟩) hDm).trans fD; have HB2 := Lib.hid hb2; have HROW2 := Lib.hid hrow2; clear hb2 hb2' hrow2)
          all_goals
            obtain ⟨a1, a2, a3, a4, a5, a6⟩ := fin_set (W := Wm) (q := W.heap.size) (i := j) (N := W0.heap.size) (v := .slice (some ⟨g, 0, none⟩) (pieceOf zs (j + 2)).length (pieceOf zs (j + 2)).length) HB2.out HROWm.out HRESm.out (by omega) HBm.out (by omega) hD1 hD3
            exact ⟨HKO.out.trans a1, KpB.t HKP.out a2, a3, HM2.out.set hj rfl HZ.out HB2.out (by omega) g hg (by omega) HROW2.out _ rfl, a4, a5, a6⟩
        · have HM : Hid (OfMid (w.heap.size + 1 + 1 + 1 + 1) (w.heap.size + 1 + 1) D zs W pre) := ⟨_, _, q0, q1, q2, hD, us, hul, hd, hu⟩
          have heq := eql_some W ⟨D, 0, none⟩
          clear q0 q1 q2 hd hu
          gi_wp2_with (first | (refine ⟨trivial, ?_⟩; gi_at_call 18; refine (CallsIn.inRound l (callsIn_wide.2 (HQ.out _))).mono ?_; rintro e w' ⟨rfl, rfl⟩) | (refine ⟨trivial, ?_⟩; gi_at_call 26; refine (CallsIn.inRound l (callsIn_wide.2 HAZ.out)).mono ?_; rintro e w' ⟨rfl, rfl⟩))
          have HKO : Hid (KeepsOthers W W) := KeepsOthers.refl W
          have HKP : Hid (KpB (w.heap.size + 1 + 1 + 1) W W) := rfl
          have HROWm := HROW
          have HPIm := HPI
          have HRESm := HRES
          have HBm := HB
          clear heq k0 k1 k2 f0 f1 f2 hul hD
          have hmx : Try.prog.follows .mixedOrders = true := by kernel_rfl
          have HM2 := HM
          obtain ⟨v1, v2, q0, q1, q2, hD, us, hul, hd, hu⟩ := HM.out
          have kR := (cell3 q0).2.2.1
          have hRm : w.heap.size + 1 + 1 < W.heap.size := by omega
          have hDm : D < W.heap.size := (Array.getElem?_eq_some_iff.1 hd).1
          have kD : W.cell? ⟨D, j, none⟩ = some (us.getD j nilS) := by
            rw [cell_of_row W _ j _ 22 _ hd, List.getElem?_toArray]
            simp [List.getD, List.getElem?_eq_getElem (show j < us.length by omega)]
          have fD : W.frozen? ⟨D, j, none⟩ = false := frozen_of_row _ _ _ _ _ hd
          have HC2 := Lib.hid (copied_any (some ⟨w.heap.size + 1, f, none⟩) 8 (76 - f) (w.heap.size + 1 + 1) (pieceOf zs (j + 2)) W.drew (HPIm.out.keep fun _ _ => rfl) (by show _ ≤ W.heap.size; omega) (by omega))
          have hj8 : (j : Int) < 8 := by omega
          have hD3 : D ≠ w.heap.size + 1 + 1 + 1 := by omega
          have hD1 : w.heap.size + 1 < D := by omega
          have hRD : ¬ w.heap.size + 1 + 1 = D := by omega
          generalize us.getD j nilS = u at *
          clear q0 q1 q2 hd hu HM HAZ HCO HQ HPI HLEN
          gi_region_with_o (refine ⟨trivial, ?_⟩; gi_at_call 25; refine (CallsIn.inRound l (callsIn_wide.2 HC2.out)).mono ?_; rintro e W2 ⟨g, hg, rfl, hrow2, hb2'⟩; have hb2 : Below W.heap.size W W2 := ⟨hb2'.os, hb2'.tape, hb2'.output, hb2'.size, hb2'.block⟩; have kR2 := (hb2.cell (p := ⟨w.heap.size + 1 + 1, 2, none⟩) hRm).trans kR; have kD2 := (hb2.cell (p := ⟨D, j, none⟩) hDm).trans kD; have fD2 := (hb2.frozen (p := ⟨D, j, none⟩) hDm).trans fD; have HB2 := Lib.hid hb2; have HROW2 := Lib.hid hrow2; clear hb2 hb2' hrow2)
          all_goals
            obtain ⟨a1, a2, a3, a4, a5, a6⟩ := fin_set (W := W) (q := D) (i := j) (N := W0.heap.size) (v := .slice (some ⟨g, 0, none⟩) (pieceOf zs (j + 2)).length (pieceOf zs (j + 2)).length) HB2.out HROWm.out HRESm.out (by omega) HBm.out (by omega) hD1 hD3
            exact ⟨HKO.out.trans a1, KpB.t HKP.out a2, a3, HM2.out.set hj rfl HZ.out HB2.out (by omega) g hg (by omega) HROW2.out _ rfl, a4, a5, a6⟩
  case done =>
    rintro D xs W hD rfl ⟨hrow', hst', hres', hsz', hb'⟩ hK
    obtain ⟨v1, v2, v3, q0, q1, q2, q3⟩ := hst'
    obtain ⟨⟨k0, -⟩, ⟨k1, -⟩, ⟨k2, -⟩⟩ := cell3 q0
    obtain ⟨⟨r0, f0⟩, ⟨r1, f1⟩, ⟨r2, f2⟩⟩ := cell3 hres'
    obtain ⟨X1, m1, p1, rfl⟩ := q1.form
    obtain ⟨X2, m2, p2, rfl⟩ := q2.form
    obtain ⟨X3, m3, p3, rfl⟩ := q3.form
    have Q1 := Lib.hid q1
    have Q2 := Lib.hid q2
    have Q3 := Lib.hid q3
    have HB := Lib.hid hb'
    have HRES := Lib.hid hres'
    clear q0 q1 q2 q3 hrow' hres' hb'
    gi_wp2
    have e3 : (((W.setCell ⟨w.heap.size, 0, none⟩ (.slice X1 m1 p1)).setCell ⟨w.heap.size, 1, none⟩ (.slice X2 m2 p2)).setCell ⟨w.heap.size, 2, none⟩ (.slice X3 m3 p3)).heap[w.heap.size]? = some (.cells #[.slice X1 m1 p1, .slice X2 m2 p2, .slice X3 m3 p3] 26 (0, 0)) :=
      heap_set (heap_set (heap_set HRES.out (i := 0) _) (i := 1) _) (i := 2) _
    have ko : KeepsOthers W (((W.setCell ⟨w.heap.size, 0, none⟩ (.slice X1 m1 p1)).setCell ⟨w.heap.size, 1, none⟩ (.slice X2 m2 p2)).setCell ⟨w.heap.size, 2, none⟩ (.slice X3 m3 p3)) := ((KeepsOthers.setCell _ _ _).trans (KeepsOthers.setCell _ _ _)).trans (KeepsOthers.setCell _ _ _)
    have hb3 : Below w.heap.size w (((W.setCell ⟨w.heap.size, 0, none⟩ (.slice X1 m1 p1)).setCell ⟨w.heap.size, 1, none⟩ (.slice X2 m2 p2)).setCell ⟨w.heap.size, 2, none⟩ (.slice X3 m3 p3)) :=
      ((HB.out.setCell (p := ⟨w.heap.size, 0, none⟩) (Nat.le_refl _) _).setCell (p := ⟨w.heap.size, 1, none⟩) (Nat.le_refl _) _).setCell (p := ⟨w.heap.size, 2, none⟩) (Nat.le_refl _) _
    have keep : ∀ (b : Nat), b ≠ w.heap.size → (((W.setCell ⟨w.heap.size, 0, none⟩ (.slice X1 m1 p1)).setCell ⟨w.heap.size, 1, none⟩ (.slice X2 m2 p2)).setCell ⟨w.heap.size, 2, none⟩ (.slice X3 m3 p3)).heap[b]? = W.heap[b]? := fun b hb =>
      ((Below.heap_setCell _ _ _ b hb).trans (Below.heap_setCell _ _ _ b hb)).trans (Below.heap_setCell _ _ _ b hb)
    have hK3 := ko.same D _ hK rfl
    generalize (((W.setCell ⟨w.heap.size, 0, none⟩ (.slice X1 m1 p1)).setCell ⟨w.heap.size, 1, none⟩ (.slice X2 m2 p2)).setCell ⟨w.heap.size, 2, none⟩ (.slice X3 m3 p3)) = W3 at *
    have hDq : D ≠ w.heap.size := by omega
    have keep2 : ∀ (b : Nat) (cs : Array Value) (t : TypeId), w.heap.size + 1 + 1 + 1 + 1 ≤ b → W.heap[b]? = some (.cells cs t (0, 0)) → (W3.putObj D (.deferred none)).heap[b]? = W.heap[b]? := fun b cs t hb hc => by
      refine (World.putObj_heap_other (fun e => ?_)).trans (keep b (by omega))
      subst e
      rw [hK] at hc
      cases hc
    refine ⟨by simp, .inl ⟨_, _, rfl, run_takeDeferred hK3, ?_⟩⟩
    refine ⟨_, of_results _ w.heap.size _ _ _ _ ((World.putObj_heap_other (fun e => hDq e.symm)).trans e3) rfl, _, _, _, rfl, ?_, ?_, ?_, ?_⟩
    · have := Q1.out
      rw [stF_all zs 0 (by omega)] at this
      exact (this.keep fun b cs => keep2 b cs 3).less (by omega)
    · have := Q2.out
      rw [stF_all zs 1 (by omega)] at this
      exact (this.keep fun b cs => keep2 b cs 3).less (by omega)
    · exact ((Q3.out.ext (fun j hj => by rw [stF_all zs (j + 2) (by omega)]; simp [optF])).keep keep2).less (by omega)
    · exact hb3.trans (belowK_b (w := w) (Nat.le_refl _) W3 D _ _ (by omega) hK3 rfl rfl)
  case stop =>
    rintro D c pre W _ _ h _
    exact h.elim
end Go.Proofs.Ytiknbbkblldjiaa
