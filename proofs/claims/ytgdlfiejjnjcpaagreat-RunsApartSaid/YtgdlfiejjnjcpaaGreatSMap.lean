/-
  WALK: Map. Conditions: at most 1000000000 spans, whose first two fields are far from the ends of an int64; n from 0 to 65536, or below 0.
-/
import Derived.Test.YtgdlfiejjnjcpaaGreatSOf
import Derived.Laws.MakeOwn
namespace Go.Proofs.YtgdlfiejjnjcpaaGreat
open Go.RowKit
set_option maxRecDepth 100000 in
theorem u64_wrap (x : Int) : IntKind.u64.wrap x = x % 18446744073709551616 := by
  simp [IntKind.wrap, IntKind.signed, IntKind.bits]
set_option maxRecDepth 100000 in
theorem u64_dist {i a : Int} (hi : Fit i) (ha : Fit a) (h : a ≤ i) : IntKind.u64.wrap (IntKind.u64.wrap i - IntKind.u64.wrap a) = i - a := by
  unfold Fit at hi ha
  rw [u64_wrap, u64_wrap, u64_wrap]; omega
set_option maxRecDepth 100000 in
theorem u64_pos {a : Int} (ha : Fit a) (h : 0 ≤ a) : IntKind.u64.wrap a = a := by
  unfold Fit at ha
  rw [u64_wrap]; omega

set_option maxRecDepth 100000 in
set_option maxHeartbeats 1000000 in
theorem holds_any (s : Sp) (i : Int) (w : World) (hs : s.fit) (hi : Fit i) :
    Calls Tryz.prog 78 #[s.val, .int .i64 i] w fun e w' => e = .returned (.bool (holdsB s i)) ∧ Below w.heap.size w w' := by
  obtain ⟨aa, ap, al⟩ := s
  obtain ⟨h1, h2, h3⟩ := hs
  simp only at h1 h2 h3
  have HB : Hid (∀ o : Obj, Below w.heap.size w (w.alloc o)) := fun o => (Below.refl _ _).alloc (Nat.le_refl _) _
  by_cases c1 : 1 ≤ al
  · by_cases c2 : aa ≤ i
    · have HD := Lib.hid (u64_dist hi h1 c2)
      have HL := Lib.hid (u64_pos h3 (by omega))
      have HJ : Hid (holdsB ⟨aa, ap, al⟩ i = decide (i - aa < al)) := by
        show _ = _
        rw [Bool.eq_iff_iff, holdsB_iff]; simp only [decide_eq_true_eq]; omega
      have d1 : decide (1 ≤ al) = true := by simpa using c1
      have d2 : decide (aa ≤ i) = true := by simpa using c2
      generalize holdsB ⟨aa, ap, al⟩ i = r at *
      clear c1 c2
      go_enter Tryz.func78, Tryz.ntmps78
      go_wp2
      go_ret
      exact ⟨ret_bool (by rw [HJ.out, ← HD.out, ← HL.out]; simp [u64_wrap]), HB.out _⟩
    · have HJ : Hid (holdsB ⟨aa, ap, al⟩ i = false) := holdsB_not (by simp only; omega)
      have d1 : decide (1 ≤ al) = true := by simpa using c1
      have d2 : decide (aa ≤ i) = false := by simpa using c2
      clear c1 c2
      go_enter Tryz.func78, Tryz.ntmps78
      go_wp2
      go_ret
      rw [HJ.out]
      exact ⟨rfl, HB.out _⟩
  · have HJ : Hid (holdsB ⟨aa, ap, al⟩ i = false) := holdsB_not (by simp only; omega)
    have d1 : decide (1 ≤ al) = false := by simpa using c1
    clear c1
    go_enter Tryz.func78, Tryz.ntmps78
    go_wp2
    go_ret
    rw [HJ.out]
    exact ⟨rfl, HB.out _⟩
set_option maxRecDepth 100000 in
theorem holds_is (r : Bool) (s : Sp) (i : Int) (w : World) (hs : s.fit) (hi : Fit i) (h : holdsB s i = r) :
    Calls Tryz.prog 78 #[s.val, .int .i64 i] w fun e w' => e = .returned (.bool r) ∧ Below w.heap.size w w' := by rw [← h]; exact holds_any s i w hs hi


def Sp.mid (s : Sp) : Prop := (-1000000000 ≤ s.at_ ∧ s.at_ ≤ 1000000000) ∧ (-1000000000 ≤ s.st ∧ s.st ≤ 1000000000) ∧ (-9223372036854775808 ≤ s.len ∧ s.len ≤ 1000000000)
set_option maxRecDepth 100000 in
theorem small_mid {s : Sp} (h : s.small) : s.mid := by
  obtain ⟨h1, h2, h3⟩ := h
  exact ⟨h1, h2, by omega⟩
set_option maxRecDepth 100000 in
theorem mid_fit {s : Sp} (h : s.mid) : s.fit := by
  obtain ⟨h1, h2, h3⟩ := h
  unfold Sp.fit Fit
  omega

set_option maxRecDepth 100000 in
set_option maxHeartbeats 1000000 in
theorem place_mid (s : Sp) (i : Int) (w : World) (hs : s.mid) (hi : -1000000000 ≤ i ∧ i ≤ 1000000000) :
    Calls Tryz.prog 79 #[s.val, .int .i64 i] w fun e w' => e = .returned (.int .i64 (placeI s i)) ∧ Below w.heap.size w w' := by
  obtain ⟨aa, ap, al⟩ := s
  obtain ⟨h1, h2, -⟩ := hs
  simp only at h1 h2
  have HP : Hid (placeI ⟨aa, ap, al⟩ i = ap + (i - aa)) := by show _ = _; rfl
  go_enter Tryz.func79, Tryz.ntmps79
  go_wp2
  go_ret
  rw [HP.out]
  exact ⟨rfl, (Below.refl _ _).alloc (Nat.le_refl _) _⟩

/-- a row of N ints in block g, to be read and written. -/
def RowF (w : World) (g N : Nat) (f : Nat → Int) : Prop := ∀ j, j < N → w.cell? ⟨g, j, none⟩ = some (.int .i64 (f j)) ∧ w.frozen? ⟨g, j, none⟩ = false
set_option maxRecDepth 100000 in
theorem RowF.ext {w : World} {g N : Nat} {f f' : Nat → Int} (h : RowF w g N f) (e : ∀ j, j < N → f j = f' j) : RowF w g N f' := fun j hj => by
  rw [← e j hj]; exact h j hj
set_option maxRecDepth 100000 in
theorem RowF.below {w w' : World} {g N C : Nat} {f : Nat → Int} (h : RowF w g N f) (hb : Below C w w') (hg : g < C) : RowF w' g N f := fun j hj =>
  ⟨(hb.cell (p := ⟨g, j, none⟩) hg).trans (h j hj).1, (hb.frozen (p := ⟨g, j, none⟩) hg).trans (h j hj).2⟩
set_option maxRecDepth 100000 in
theorem RowF.set {w : World} {g N : Nat} {f : Nat → Int} (h : RowF w g N f) (i : Nat) (x : Int) (hi : i < N) : RowF (w.setCell ⟨g, i, none⟩ (.int .i64 x)) g N (fun j => if j = i then x else f j) := fun j hj => by
  have h1 := (h j hj).1
  have h2 := (h j hj).2
  have h3 := (h i hi).1
  by_cases e : j = i
  · subst e
    simp only [if_true]
    constructor
    · go_simp
    · go_simp
  · simp only [if_neg e]
    constructor
    · go_simp
    · go_simp
set_option maxRecDepth 100000 in
theorem RowF.ints {w : World} {g N : Nat} {zs : List Int} (h : RowF w g N (fun j => zs.getD j 0)) (hl : zs.length = N) (hf : ∀ z ∈ zs, Fit z) (hg : g < w.heap.size) : IntsAt w w.heap.size (some ⟨g, 0, none⟩) N zs :=
  ⟨hl, hf, fun k hk => ⟨g, 0, rfl, hg, by rw [Nat.zero_add]; exact (h k hk).1⟩⟩

set_option maxRecDepth 100000 in
theorem info3 : (Tryz.prog.info? 3).map (fun i => (i.zero, i.size, i.bytes)) = some (some (.int .i64 0), 1, 8) := by kernel_rfl
set_option maxRecDepth 100000 in
/-- 'make([]int, n)', for the walk to take. -/
theorem make_ints (n : Nat) (hn : n ≤ 65536) : ∃ M : Array Value, ∀ W : World, (Instr.makeSlice 27 (.int .i64 (n : Int)) (.int .i64 (n : Int))).run Tryz.prog W = .ok (.slice (some ⟨W.heap.size, 0, none⟩) n n) (W.alloc (.cells M 3)) ∧
    RowF (W.alloc (.cells M 3)) W.heap.size n (fun _ => 0) := by
  obtain ⟨i0, hi, hz0, hz1, hz2⟩ := info_parts info3
  refine ⟨madeCells (Value.int .i64 0).cells (n * i0.size), fun W => ⟨?_, fun j hj => ⟨?_, ?_⟩⟩⟩
  · have h := run_make (P := Tryz.prog) W 27 3 i0 (.int .i64 0) Tryz.underlying27 hi hz0 .i64 .i64 (n : Int) (n : Int) (by omega) (by omega) (by rw [hz2]; omega) (by omega)
    simpa using h
  · refine cell_new W _ 3 j ?_
    rw [← Array.getElem?_toList]
    have e : (Value.int .i64 0).cells = #[.int .i64 0] := rfl
    rw [hz1, Nat.mul_one, e, toList_madeCells_one]
    simp [hj]
  · exact frozen_of_row _ _ _ _ _ (heap_alloc_new W (.cells (madeCells (Value.int .i64 0).cells (n * i0.size)) 3))

set_option maxRecDepth 100000 in
theorem lastD_snoc (l : List Sp) (k : Nat) (hk : k < l.length) (i : Int) : lastD (l.take (k + 1)) i = if holdsB (l.getD k Sp.z) i = true then placeI (l.getD k Sp.z) i else lastD (l.take k) i := by
  have e : l.getD k Sp.z = l[k] := by simp [List.getD, List.getElem?_eq_getElem hk]
  rw [e, List.take_succ_eq_append_getElem hk]
  unfold lastD
  rw [List.foldl_append]
  rfl
set_option maxRecDepth 100000 in
theorem lastD_fit (l : List Sp) (hl : ∀ s ∈ l, s.mid) (i : Int) (hi : 0 ≤ i ∧ i ≤ 65536) : Fit (lastD l i) := by
  have key : ∀ (l : List Sp) (v : Int), (∀ s ∈ l, s.mid) → (-3000000000 ≤ v ∧ v ≤ 3000000000) → -3000000000 ≤ l.foldl (fun v s => if holdsB s i = true then placeI s i else v) v ∧ l.foldl (fun v s => if holdsB s i = true then placeI s i else v) v ≤ 3000000000 := by
    intro l
    induction l with
    | nil => intro v _ h; exact h
    | cons s r ih =>
      intro v hs hv
      rw [List.foldl_cons]
      refine ih _ (fun t ht => hs t (by simp [ht])) ?_
      obtain ⟨h1, h2, h3⟩ := hs s (by simp)
      split
      · unfold placeI; omega
      · exact hv
  have := key l 0 hl (by omega)
  unfold Fit lastD
  omega

/-- an answer that is a new row of ints. -/
def RetMapR (w : World) (zs : List Int) (e : Ending) (w' : World) : Prop := e = .returned (.slice (some ⟨w.heap.size, 0, none⟩) zs.length zs.length) ∧ RowF w' w.heap.size zs.length (fun j => zs.getD j 0) ∧ (∀ z ∈ zs, Fit z) ∧ w.heap.size < w'.heap.size ∧ Below w.heap.size w w'
set_option maxRecDepth 100000 in
set_option maxHeartbeats 4000000 in
theorem map_nat (A : Option Addr) (n c B : Nat) (l : List Sp) (N : Nat) (w : World) (hA : SpsAt w B A n l) (hB : B ≤ w.heap.size) (hn : n ≤ 1000000000) (hl : ∀ s ∈ l, s.mid) (hN : N ≤ 65536) :
    Calls Tryz.prog 45 #[.slice A n c, .int .i64 (N : Int)] w (RetMapR w (mapR l N)) := by
  have HL := Lib.hid hA.len
  have HA := Lib.hid hA
  have HS := Lib.hid hl
  obtain ⟨M, hM⟩ := make_ints N hN
  have hmk := (hM w).1
  have HR0 := Lib.hid (hM w).2
  have d1 : ¬ (N : Int) < 0 := by omega
  have d2 : ¬ (65536 : Int) < (N : Int) := by omega
  have e0 : min (N : Int) 65536 = (N : Int) := by omega
  clear hA hl hM
  go_enter Tryz.func45, Tryz.ntmps45
  go_wp2
  go_loopw [7, 8, 15] (fun _ _ j wr => ∃ k : Nat, k ≤ n ∧ j = .int .i64 (k : Int) ∧ RowF wr w.heap.size N (fun j => lastD (l.take k) j) ∧ Below w.heap.size w wr ∧ w.heap.size < wr.heap.size) (fun _ _ j _ => n - (intOf j).toNat)
  case atStart => exact ⟨0, by omega, rfl, HR0.out, (Below.refl _ _).alloc (Nat.le_refl _) _, by simp⟩
  case round =>
    obtain ⟨k, hk, rfl, hrow, hb, hgs⟩ := hrel
    have HROW := Lib.hid hrow
    have HB := Lib.hid hb
    by_cases hlt : k < n
    · obtain ⟨b, o, rfl, hbB, h1, h2, h3⟩ := HA.out.at_ hlt
      have hbl : b < w.heap.size := by omega
      have c1 := bcell hb h1 hbl
      have c2 := bcell hb h2 hbl
      have c3 := bcell hb h3 hbl
      have hws := hb.size
      have hkl : k < l.length := by rw [HL.out]; exact hlt
      have hsm : (l.getD k Sp.z).mid := by
        rw [show l.getD k Sp.z = l[k] by simp [List.getD, List.getElem?_eq_getElem hkl]]
        exact HS.out _ (List.getElem_mem hkl)
      have HLD := Lib.hid (fun i => lastD_snoc l k hkl i)
      generalize l.getD k Sp.z = s at *
      have HMID := Lib.hid hsm
      obtain ⟨hs1, hs2, hs3⟩ := hsm
      obtain ⟨sa, sp, sl⟩ := s
      simp only at c1 c2 c3 hs1 hs2 hs3
      obtain ⟨I, hI⟩ : ∃ I : Nat, (I : Int) = max sa 0 := ⟨(max sa 0).toNat, by omega⟩
      have HI := Lib.hid hI
      clear h1 h2 h3 hrow hb hkl hI
      have n1 : (wr.alloc (.cells #[.int .i64 sa, .int .i64 sp, .int .i64 sl] 85)).cell? ⟨wr.heap.size, 0, none⟩ = some (.int .i64 sa) := cell_new wr _ 85 0 rfl
      have n2 : (wr.alloc (.cells #[.int .i64 sa, .int .i64 sp, .int .i64 sl] 85)).cell? ⟨wr.heap.size, 1, none⟩ = some (.int .i64 sp) := cell_new wr _ 85 1 rfl
      have n3 : (wr.alloc (.cells #[.int .i64 sa, .int .i64 sp, .int .i64 sl] 85)).cell? ⟨wr.heap.size, 2, none⟩ = some (.int .i64 sl) := cell_new wr _ 85 2 rfl
      have HB1 : Hid (Below w.heap.size w (wr.alloc (.cells #[.int .i64 sa, .int .i64 sp, .int .i64 sl] 85))) := HB.out.alloc hws _
      have HR1 : Hid (RowF (wr.alloc (.cells #[.int .i64 sa, .int .i64 sp, .int .i64 sl] 85)) w.heap.size N (fun j => if j < I then lastD (l.take (k + 1)) j else lastD (l.take k) j)) := by
        refine (HROW.out.below ((Below.refl wr.heap.size wr).alloc (Nat.le_refl _) (.cells #[.int .i64 sa, .int .i64 sp, .int .i64 sl] 85)) hgs).ext (fun j _ => ?_)
        split
        · rw [HLD.out]
          have := HI.out
          rw [holdsB_not (s := ⟨sa, sp, sl⟩) (i := (j : Int)) (Or.inl (by simp only; omega))]
          rfl
        · rfl
      go_wp2
      all_goals
        go_loopw [8] (fun i wi => ∃ i' : Nat, I ≤ i' ∧ i' ≤ max I N ∧ i = .int .i64 (i' : Int) ∧ RowF wi w.heap.size N (fun j => if j < i' then lastD (l.take (k + 1)) j else lastD (l.take k) j) ∧ wi.cell? ⟨wr.heap.size, 0, none⟩ = some (.int .i64 sa) ∧ wi.cell? ⟨wr.heap.size, 1, none⟩ = some (.int .i64 sp) ∧ wi.cell? ⟨wr.heap.size, 2, none⟩ = some (.int .i64 sl) ∧ Below w.heap.size w wi ∧ wr.heap.size < wi.heap.size) (fun i _ => max I N - (intOf i).toNat)
        case atStart => exact ⟨I, Nat.le_refl _, by omega, (by have := HI.out; congr 1; omega), HR1.out, n1, n2, n3, HB1.out, by simp⟩
        case round =>
          obtain ⟨i', hi1, hi2, rfl, hrow', n1, n2, n3, hb', hsz⟩ := hrel
          have HB' := Lib.hid hb'
          have HROW' := Lib.hid hrow'
          have hws' := hb'.size
          clear hrow' hb'
          by_cases q1 : i' < N
          · have e1 : decide (i' < N) = true := by simpa using q1
            have e1' : decide ((i' : Int) < (N : Int)) = true := by simp; omega
            cases hh : holdsB ⟨sa, sp, sl⟩ (i' : Int) with
            | true =>
              have HC := Lib.hid (fun w => holds_is true ⟨sa, sp, sl⟩ (i' : Int) w (mid_fit HMID.out) (by unfold Fit; omega) hh)
              have HP := Lib.hid (fun w => place_mid ⟨sa, sp, sl⟩ (i' : Int) w HMID.out (by omega))
              have HV : Hid (lastD (l.take (k + 1)) (i' : Int) = placeI ⟨sa, sp, sl⟩ (i' : Int)) := by show _ = _; rw [HLD.out, if_pos hh]
              clear hh
              generalize placeI ⟨sa, sp, sl⟩ (i' : Int) = x at *
              go_wp2_with fail
              refine (HC.out _).mono ?_
              rintro e w2 ⟨rfl, b2⟩
              have k1 := bcell b2 n1 hsz
              have k2 := bcell b2 n2 hsz
              have k3 := bcell b2 n3 hsz
              have HR2 := Lib.hid (HROW'.out.below b2 (by omega))
              have HB2 := Lib.hid (HB'.out.trans (b2.mono hws'))
              have hs2 := Nat.lt_of_lt_of_le hsz b2.size
              clear b2 n1 n2 n3
              go_wp2_with fail
              refine (HP.out _).mono ?_
              rintro e w3 ⟨rfl, b3⟩
              have k1' := bcell b3 k1 hs2
              have k2' := bcell b3 k2 hs2
              have k3' := bcell b3 k3 hs2
              have HR3 := Lib.hid (HR2.out.below b3 (by omega))
              have HB3 := Lib.hid (HB2.out.trans (b3.mono HB2.out.size))
              have hs3 := Nat.lt_of_lt_of_le hs2 b3.size
              have f1 := (HR3.out i' q1).1
              have f2 := (HR3.out i' q1).2
              have HRS := Lib.hid (HR3.out.set i' x q1)
              clear b3 k1 k2 k3
              generalize (if i' < i' then lastD (l.take (k + 1)) (i' : Int) else lastD (l.take k) (i' : Int)) = y at f1
              go_wp2
              go_roundw
              case rel =>
                refine ⟨i' + 1, by omega, by omega, by go_num, HRS.out.ext (fun j _ => ?_), ?_, ?_, ?_, HB3.out.setCell (Nat.le_refl _) _, by simpa using hs3⟩
                · by_cases ej : j = i'
                  · subst ej; rw [if_pos rfl, if_pos (by omega), HV.out]
                  · rw [if_neg ej]
                    by_cases ej2 : j < i'
                    · rw [if_pos ej2, if_pos (by omega)]
                    · rw [if_neg ej2, if_neg (by omega)]
                · rw [World.cell?_setCell_other _ _ _ _ (by intro e; have := congrArg Addr.block e; simp only at this; omega)]; exact k1'
                · rw [World.cell?_setCell_other _ _ _ _ (by intro e; have := congrArg Addr.block e; simp only at this; omega)]; exact k2'
                · rw [World.cell?_setCell_other _ _ _ _ (by intro e; have := congrArg Addr.block e; simp only at this; omega)]; exact k3'
              case measure => simp [intOf]; omega
            | false =>
              have HC := Lib.hid (fun w => holds_is false ⟨sa, sp, sl⟩ (i' : Int) w (mid_fit HMID.out) (by unfold Fit; omega) hh)
              have HFIN : Hid (∀ j : Nat, j < N → (if j < i' then lastD (l.take (k + 1)) (j : Int) else lastD (l.take k) (j : Int)) = lastD (l.take (k + 1)) (j : Int)) := by
                show ∀ j : Nat, j < N → _
                intro j _
                split
                · rfl
                · have := HI.out
                  have hno : holdsB ⟨sa, sp, sl⟩ (j : Int) = false := by
                    have h0 : ¬ (sa ≤ (i' : Int) ∧ (i' : Int) < sa + sl) := fun h => by rw [holdsB_iff.2 h] at hh; cases hh
                    exact holdsB_not (by simp only; omega)
                  rw [HLD.out, hno]; rfl
              clear hh
              go_wp2_with fail
              refine (HC.out _).mono ?_
              rintro e w2 ⟨rfl, b2⟩
              have HR2 := Lib.hid (HROW'.out.below b2 (by omega))
              have HB2 := Lib.hid (HB'.out.trans (b2.mono hws'))
              have hs2 := Nat.lt_of_lt_of_le hsz b2.size
              clear b2 n1 n2 n3
              go_wp2
              go_roundw
              case rel => exact ⟨k + 1, by omega, by go_num, HR2.out.ext HFIN.out, HB2.out, by omega⟩
              case measure => simp [intOf]; omega
          · have e1 : decide (i' < N) = false := by simpa using q1
            have e1' : decide ((i' : Int) < (N : Int)) = false := by simp; omega
            go_wp2
            go_roundw
            case rel => exact ⟨k + 1, by omega, by go_num, HROW'.out.ext (fun j hj => by rw [if_pos (by omega)]), HB'.out, by omega⟩
            case measure => simp [intOf]; omega
    · have hnk : n = k := by omega
      have HFIN : Hid (RetMapR w (mapR l N) (.returned (.slice (some ⟨w.heap.size, 0, none⟩) N N)) wr) := by
        have hml := mapR_len l N
        refine ⟨by rw [hml], ?_, fun z hz => ?_, hgs, HB.out⟩
        · rw [hml]
          exact HROW.out.ext (fun j hj => by rw [mapR_at l N j hj, List.take_of_length_le (by rw [HL.out]; omega)])
        · unfold mapR at hz
          obtain ⟨j, hj, rfl⟩ := List.mem_map.1 hz
          have := List.mem_range.1 hj
          exact lastD_fit l HS.out _ (by omega)
      clear hnk
      go_wp2
      go_ret
      exact HFIN.out

end Go.Proofs.YtgdlfiejjnjcpaaGreat
