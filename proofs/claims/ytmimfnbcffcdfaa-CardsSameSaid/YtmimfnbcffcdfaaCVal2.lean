/-
  WALK: values returns the numbers of a valid card of format Two, in the order of its encoding; of a card of no format it returns nil. Conditions: at most three spans.
-/
import Derived.Test.YtmimfnbcffcdfaaCCopy
namespace Go.Proofs.Ytmimfnbcffcdfaa
open Go.RowKit

theorem vals2 {fm kd ln sz sg db ov : Int} {ps : List Int} {rs : List Sp} (h : fm = 2) : valuesC ⟨fm, kd, ln, sz, ps, sg, db, rs, ov⟩ = [fm, kd, ln, sz] ++ [(rs.length : Int)] ++ runI rs 0 ++ runI rs 1 ++ runI rs 2 ++ [ov] := by
  subst h; simp [valuesC]
/-- the head, and the first k runs. -/
def headR (fm kd ln sz : Int) (rs : List Sp) (k : Nat) : List Int := [fm, kd, ln, sz] ++ [(rs.length : Int)] ++ (List.range k).flatMap (runI rs)
theorem headR_succ (fm kd ln sz : Int) (rs : List Sp) (k : Nat) : headR fm kd ln sz rs (k + 1) = headR fm kd ln sz rs k ++ runI rs k := by
  simp [headR, List.range_succ, List.flatMap_append]
theorem headR_len (fm kd ln sz : Int) (rs : List Sp) (k : Nat) : (headR fm kd ln sz rs k).length = 5 + 3 * k := by
  induction k with
  | zero => rfl
  | succ k ih => rw [headR_succ, List.length_append, ih]; simp [runI]; omega
theorem headR_zero (fm kd ln sz : Int) (rs : List Sp) : headR fm kd ln sz rs 0 = [fm, kd, ln, sz] ++ [(rs.length : Int)] := by simp [headR]
theorem headR_all (fm kd ln sz ov : Int) (rs : List Sp) : headR fm kd ln sz rs 3 ++ [ov] = [fm, kd, ln, sz] ++ [(rs.length : Int)] ++ runI rs 0 ++ runI rs 1 ++ runI rs 2 ++ [ov] := by
  rw [headR_succ, headR_succ, headR_succ, headR_zero]

/-- a row stays where another block, made behind it, turns. -/
theorem row_keep {w w' : World} {base n sz g : Nat} {e : TypeId} {v : Value} {xs : List Value} (h : w.ownsRow base e sz v n xs) (hv : ∀ q, v.ownBlock = some q → q < g) (hb : Below g w w') : w'.ownsRow base e sz v n xs := by
  rcases h.2 with ⟨rfl, h0⟩ | ⟨q, cap, cur, rfl, h1, h2, h3⟩
  · exact ⟨h.1, Or.inl ⟨rfl, h0⟩⟩
  · exact ⟨h.1, Or.inr ⟨q, cap, cur, rfl, h1, (hb.block q (hv q rfl)).trans h2, h3⟩⟩

set_option maxHeartbeats 2000000 in
theorem values2_any (fm kd ln sz sg db ov : Int) (ps : List Int) (rs : List Sp) (A : Option Addr) (n k : Nat) (A' : Option Addr) (n' k' B : Nat) (w : World) (hf : fm = 2)
    (s1 : SpsAt w B A' n' rs) (hn' : n' ≤ 3) (hB : B ≤ w.heap.size) :
    Calls Try.prog 24 #[cdv ⟨fm, kd, ln, sz, ps, sg, db, rs, ov⟩ A n k A' n' k'] w (RetO w (valuesC ⟨fm, kd, ln, sz, ps, sg, db, rs, ov⟩)) := by
  have HL := Lib.hid s1.len
  rw [vals2 hf, ← headR_all]
  have HW : Hid (∀ v, Below w.heap.size w v → SpsAt v B A' n' rs) := fun v hv => s1.below hv hB
  have hne : (fm == 1) = false := by subst hf; rfl
  have hne2 : (fm == 2) = true := by subst hf; rfl
  clear s1 hf
  have HO1 : Hid (∀ o : Obj, ((w.alloc o).alloc (.cells #[.int .i64 fm, .int .i64 kd, .int .i64 ln, .int .i64 sz] 3)).ownsRow (w.heap.size + 1) 3 1 (.slice (some ⟨w.heap.size + 1, 0, none⟩) 4 4) [fm, kd, ln, sz].length (ints [fm, kd, ln, sz])) := fun o => by
    have := World.ownsRow_lit (base := w.heap.size + 1) (e := 3) (size := 1) (w.alloc o) #[.int .i64 fm, .int .i64 kd, .int .i64 ln, .int .i64 sz] 4 (by simp) (by unfold maxLen; omega) rfl
    simpa using this
  have HROW : Hid (CdRow ((w.alloc (.cells (cells9 ⟨fm, kd, ln, sz, ps, sg, db, rs, ov⟩ A n k A' n' k') 25)).alloc (.cells #[.int .i64 fm, .int .i64 kd, .int .i64 ln, .int .i64 sz] 3)) w.heap.size ⟨fm, kd, ln, sz, ps, sg, db, rs, ov⟩ A n k A' n' k') :=
    (CdRow.new w _ A n k A' n' k').below ((Below.refl _ _).alloc (Nat.le_refl _) _) (by simp)
  have HB1 : Hid (Below w.heap.size w ((w.alloc (.cells (cells9 ⟨fm, kd, ln, sz, ps, sg, db, rs, ov⟩ A n k A' n' k') 25)).alloc (.cells #[.int .i64 fm, .int .i64 kd, .int .i64 ln, .int .i64 sz] 3))) := ((Below.refl _ _).alloc (Nat.le_refl _) _).alloc (by simp) _
  have HS2 : Hid (((w.alloc (.cells (cells9 ⟨fm, kd, ln, sz, ps, sg, db, rs, ov⟩ A n k A' n' k') 25)).alloc (.cells #[.int .i64 fm, .int .i64 kd, .int .i64 ln, .int .i64 sz] 3)).heap.size = w.heap.size + 1 + 1) := by show _ = _; simp
  have HO2 := Lib.hid (HO1.out (.cells (cells9 ⟨fm, kd, ln, sz, ps, sg, db, rs, ov⟩ A n k A' n' k') 25))
  clear HO1
  go_enter Try.func24, Try.ntmps24
  go_upto_region 6 with fail
  generalize (w.alloc (.cells (cells9 ⟨fm, kd, ln, sz, ps, sg, db, rs, ov⟩ A n k A' n' k') 25)).alloc (.cells #[.int .i64 fm, .int .i64 kd, .int .i64 ln, .int .i64 sz] 3) = W2 at *
  obtain ⟨c0, c1, c2, c3, c4, c5, c6, c7, c8⟩ := HROW.out.cells
  go_wp2_with (at_builtin; refine pushN_law rfl (.tmp 33) (.tmp 37) rfl (w.heap.size + 1) W2 (.slice (some ⟨w.heap.size + 1, 0, none⟩) 4 4) [fm, kd, ln, sz] [(n' : Int)] 1 1 _ rfl rfl rfl rfl HO2.out (by simp) (by rw [HS2.out]; omega) ?_)
  intro v3 w3 ho3 hb3
  have HO3 := Lib.hid ho3
  have HROW3 := Lib.hid (HROW.out.below hb3 (by omega))
  have HB3 := Lib.hid (HB1.out.trans (hb3.mono (by omega)))
  have hws := HB3.out.size
  clear c0 c1 c2 c3 c4 c5 c6 c7 c8 hb3 ho3
  obtain ⟨c0, c1, c2, c3, c4, c5, c6, c7, c8⟩ := HROW3.out.cells
  go_upto_region 8 with fail
  have HG4 : Hid ((w3.alloc (.cells zero9 66)).heap[w3.heap.size]? = some (.cells zero9 66 (0, 0))) := by show _ = _; exact heap_alloc_new w3 _
  have HO4 : Hid ((w3.alloc (.cells zero9 66)).ownsRow (w.heap.size + 1) 3 1 v3 ([fm, kd, ln, sz] ++ [(n' : Int)]).length (ints ([fm, kd, ln, sz] ++ [(n' : Int)]))) := HO3.out.alloc _
  have HV4 : Hid (∀ q, v3.ownBlock = some q → q < w3.heap.size) := fun q hq => (HO3.out.lt q hq).2
  have HROW4 : Hid (CdRow (w3.alloc (.cells zero9 66)) w.heap.size ⟨fm, kd, ln, sz, ps, sg, db, rs, ov⟩ A n k A' n' k') := HROW3.out.below ((Below.refl _ _).alloc (Nat.le_refl _) _) HROW3.out.lt
  have HB4 : Hid (Below w.heap.size w (w3.alloc (.cells zero9 66))) := HB3.out.alloc hws _
  have hg3 : w.heap.size < w3.heap.size := HROW3.out.lt
  have hz4 : (w3.alloc (.cells zero9 66)).heap.size = w3.heap.size + 1 := by simp
  have HZ4 := Lib.hid hz4
  clear c0 c1 c2 c3 c4 c5 c6 c7 c8 hz4
  generalize w3.alloc (.cells zero9 66) = w4 at *
  generalize w3.heap.size = g at *
  obtain ⟨c0, c1, c2, c3, c4, c5, c6, c7, c8⟩ := HROW4.out.cells
  go_region_law (refine step_copy3 rfl (.tmp 39) (.tmp 41) rfl _ g 66 n' k' B A' rs rfl rfl HG4.out (SpsAt.keep (HW.out w4 HB4.out) (fun _ _ => rfl)) hn' ?_; intro w5 hg5 hb5)
  have HB5 := Lib.hid (hb5 w.heap.size w (by omega) ⟨HB4.out.os, HB4.out.tape, HB4.out.output, HB4.out.size, HB4.out.block⟩)
  have hbg := hb5 g w4 (Nat.le_refl _) ⟨rfl, rfl, rfl, Nat.le_refl _, fun _ _ => rfl⟩
  have HO5 : Hid (w5.ownsRow (w.heap.size + 1) 3 1 v3 (headR fm kd ln sz rs 0).length (ints (headR fm kd ln sz rs 0))) := by
    show World.ownsRow _ _ _ _ _ _ _
    rw [headR_zero, HL.out]
    exact row_keep HO4.out HV4.out hbg
  have HROW5 : Hid (CdRow w5 w.heap.size ⟨fm, kd, ln, sz, ps, sg, db, rs, ov⟩ A n k A' n' k') := (hbg.block _ hg3).trans HROW4.out
  have HS : Hid (∀ j, headR fm kd ln sz rs (j + 1) = headR fm kd ln sz rs j ++ [(rs.getD j Sp.z).at_, (rs.getD j Sp.z).st, (rs.getD j Sp.z).len]) := fun j => headR_succ fm kd ln sz rs j
  have HSL : Hid (∀ j, (headR fm kd ln sz rs j).length = 5 + 3 * j) := fun j => headR_len fm kd ln sz rs j
  have HS0 := Lib.hid (HS.out 0)
  have HS1 := Lib.hid (HS.out 1)
  have HS2' := Lib.hid (HS.out 2)
  unfold nine at hg5
  generalize rs.getD 0 Sp.z = s0 at *
  generalize rs.getD 1 Sp.z = s1 at *
  generalize rs.getD 2 Sp.z = s2 at *
  obtain ⟨x0, x1, x2⟩ := s0
  obtain ⟨x3, x4, x5⟩ := s1
  obtain ⟨x6, x7, x8⟩ := s2
  have k0 : w5.cell? ⟨g, 0, none⟩ = some (.int .i64 x0) := by rw [cell_of_row w5 g 0 _ 66 _ hg5]; rfl
  have k1 : w5.cell? ⟨g, 1, none⟩ = some (.int .i64 x1) := by rw [cell_of_row w5 g 1 _ 66 _ hg5]; rfl
  have k2 : w5.cell? ⟨g, 2, none⟩ = some (.int .i64 x2) := by rw [cell_of_row w5 g 2 _ 66 _ hg5]; rfl
  have k3 : w5.cell? ⟨g, 3, none⟩ = some (.int .i64 x3) := by rw [cell_of_row w5 g 3 _ 66 _ hg5]; rfl
  have k4 : w5.cell? ⟨g, 4, none⟩ = some (.int .i64 x4) := by rw [cell_of_row w5 g 4 _ 66 _ hg5]; rfl
  have k5 : w5.cell? ⟨g, 5, none⟩ = some (.int .i64 x5) := by rw [cell_of_row w5 g 5 _ 66 _ hg5]; rfl
  have k6 : w5.cell? ⟨g, 6, none⟩ = some (.int .i64 x6) := by rw [cell_of_row w5 g 6 _ 66 _ hg5]; rfl
  have k7 : w5.cell? ⟨g, 7, none⟩ = some (.int .i64 x7) := by rw [cell_of_row w5 g 7 _ 66 _ hg5]; rfl
  have k8 : w5.cell? ⟨g, 8, none⟩ = some (.int .i64 x8) := by rw [cell_of_row w5 g 8 _ 66 _ hg5]; rfl
  clear hg5 hb5 hbg c0 c1 c2 c3 c4 c5 c6 c7 c8 HS
  go_wp2
  have ix0 : ∀ w : World, (Instr.index 66 (.agg #[.int .i64 x0, .int .i64 x1, .int .i64 x2, .int .i64 x3, .int .i64 x4, .int .i64 x5, .int .i64 x6, .int .i64 x7, .int .i64 x8]) (.int .i64 0)).run Try.prog w = .ok (.agg #[.int .i64 x0, .int .i64 x1, .int .i64 x2]) w := fun w => by kernel_rfl
  have ix1 : ∀ w : World, (Instr.index 66 (.agg #[.int .i64 x0, .int .i64 x1, .int .i64 x2, .int .i64 x3, .int .i64 x4, .int .i64 x5, .int .i64 x6, .int .i64 x7, .int .i64 x8]) (.int .i64 1)).run Try.prog w = .ok (.agg #[.int .i64 x3, .int .i64 x4, .int .i64 x5]) w := fun w => by kernel_rfl
  have ix2 : ∀ w : World, (Instr.index 66 (.agg #[.int .i64 x0, .int .i64 x1, .int .i64 x2, .int .i64 x3, .int .i64 x4, .int .i64 x5, .int .i64 x6, .int .i64 x7, .int .i64 x8]) (.int .i64 2)).run Try.prog w = .ok (.agg #[.int .i64 x6, .int .i64 x7, .int .i64 x8]) w := fun w => by kernel_rfl
  clear k0 k1 k2 k3 k4 k5 k6 k7 k8
  go_loopw [4, 44] (fun v i wr => ∃ j : Nat, j ≤ 3 ∧ i = .int .i64 (j : Int) ∧ wr.ownsRow (w.heap.size + 1) 3 1 v (headR fm kd ln sz rs j).length (ints (headR fm kd ln sz rs j)) ∧ Below w.heap.size w wr ∧ CdRow wr w.heap.size ⟨fm, kd, ln, sz, ps, sg, db, rs, ov⟩ A n k A' n' k') (fun _ i _ => 3 - (intOf i).toNat)
  case atStart => exact ⟨0, by omega, rfl, HO5.out, HB5.out, HROW5.out⟩
  case round =>
    clear HO5 HB5 HROW5 HO4 HROW4 HB4 HZ4 HG4
    obtain ⟨j, hj, rfl, ho, hb, hrow⟩ := hrel
    have hgl := hrow.lt
    have HO := Lib.hid ho
    have HB := Lib.hid hb
    have HROW := Lib.hid hrow
    clear ho hb hrow
    by_cases hlt : j < 3
    · have hj3 : j = 0 ∨ j = 1 ∨ j = 2 := by omega
      rcases hj3 with rfl | rfl | rfl
      · go_upto_region 12 with fail
        have n1 := cell_new wr #[.int .i64 x0, .int .i64 x1, .int .i64 x2] 48 0 rfl
        have n2 := cell_new wr #[.int .i64 x0, .int .i64 x1, .int .i64 x2] 48 1 rfl
        have n3 := cell_new wr #[.int .i64 x0, .int .i64 x1, .int .i64 x2] 48 2 rfl
        have HO6 := Lib.hid (HO.out.alloc (.cells #[.int .i64 x0, .int .i64 x1, .int .i64 x2] 48))
        have HROW6 := Lib.hid (HROW.out.below ((Below.refl wr.heap.size wr).alloc (Nat.le_refl _) (.cells #[.int .i64 x0, .int .i64 x1, .int .i64 x2] 48)) hgl)
        have HB6 := Lib.hid (HB.out.alloc (by omega) (.cells #[.int .i64 x0, .int .i64 x1, .int .i64 x2] 48))
        have hsz := HROW6.out.lt
        generalize wr.alloc (.cells #[.int .i64 x0, .int .i64 x1, .int .i64 x2] 48) = W6 at *
        go_wp2_with (at_builtin; refine pushN_law rfl (.tmp 47) (.tmp 54) rfl (w.heap.size + 1) W6 u4 (headR fm kd ln sz rs 0) [x0, x1, x2] 3 3 _ rfl rfl rfl rfl HO6.out (by rw [HSL.out]; simp) (by omega) ?_)
        intro v' w6 ho6 hb6
        have HO7 := Lib.hid ho6
        have HB7 := Lib.hid (HB6.out.trans (hb6.mono (by omega)))
        have HROW7 := Lib.hid (HROW6.out.below hb6 (by omega))
        clear ho6 hb6 n1 n2 n3
        go_wp2
        go_roundw
        case rel => exact ⟨1, by omega, rfl, by rw [HS0.out]; exact HO7.out, HB7.out, HROW7.out⟩
        case measure => simp [intOf]
      · go_upto_region 12 with fail
        have n1 := cell_new wr #[.int .i64 x3, .int .i64 x4, .int .i64 x5] 48 0 rfl
        have n2 := cell_new wr #[.int .i64 x3, .int .i64 x4, .int .i64 x5] 48 1 rfl
        have n3 := cell_new wr #[.int .i64 x3, .int .i64 x4, .int .i64 x5] 48 2 rfl
        have HO6 := Lib.hid (HO.out.alloc (.cells #[.int .i64 x3, .int .i64 x4, .int .i64 x5] 48))
        have HROW6 := Lib.hid (HROW.out.below ((Below.refl wr.heap.size wr).alloc (Nat.le_refl _) (.cells #[.int .i64 x3, .int .i64 x4, .int .i64 x5] 48)) hgl)
        have HB6 := Lib.hid (HB.out.alloc (by omega) (.cells #[.int .i64 x3, .int .i64 x4, .int .i64 x5] 48))
        have hsz := HROW6.out.lt
        generalize wr.alloc (.cells #[.int .i64 x3, .int .i64 x4, .int .i64 x5] 48) = W6 at *
        go_wp2_with (at_builtin; refine pushN_law rfl (.tmp 47) (.tmp 54) rfl (w.heap.size + 1) W6 u4 (headR fm kd ln sz rs 1) [x3, x4, x5] 3 3 _ rfl rfl rfl rfl HO6.out (by rw [HSL.out]; simp) (by omega) ?_)
        intro v' w6 ho6 hb6
        have HO7 := Lib.hid ho6
        have HB7 := Lib.hid (HB6.out.trans (hb6.mono (by omega)))
        have HROW7 := Lib.hid (HROW6.out.below hb6 (by omega))
        clear ho6 hb6 n1 n2 n3
        go_wp2
        go_roundw
        case rel => exact ⟨2, by omega, rfl, by rw [HS1.out]; exact HO7.out, HB7.out, HROW7.out⟩
        case measure => simp [intOf]
      · go_upto_region 12 with fail
        have n1 := cell_new wr #[.int .i64 x6, .int .i64 x7, .int .i64 x8] 48 0 rfl
        have n2 := cell_new wr #[.int .i64 x6, .int .i64 x7, .int .i64 x8] 48 1 rfl
        have n3 := cell_new wr #[.int .i64 x6, .int .i64 x7, .int .i64 x8] 48 2 rfl
        have HO6 := Lib.hid (HO.out.alloc (.cells #[.int .i64 x6, .int .i64 x7, .int .i64 x8] 48))
        have HROW6 := Lib.hid (HROW.out.below ((Below.refl wr.heap.size wr).alloc (Nat.le_refl _) (.cells #[.int .i64 x6, .int .i64 x7, .int .i64 x8] 48)) hgl)
        have HB6 := Lib.hid (HB.out.alloc (by omega) (.cells #[.int .i64 x6, .int .i64 x7, .int .i64 x8] 48))
        have hsz := HROW6.out.lt
        generalize wr.alloc (.cells #[.int .i64 x6, .int .i64 x7, .int .i64 x8] 48) = W6 at *
        go_wp2_with (at_builtin; refine pushN_law rfl (.tmp 47) (.tmp 54) rfl (w.heap.size + 1) W6 u4 (headR fm kd ln sz rs 2) [x6, x7, x8] 3 3 _ rfl rfl rfl rfl HO6.out (by rw [HSL.out]; simp) (by omega) ?_)
        intro v' w6 ho6 hb6
        have HO7 := Lib.hid ho6
        have HB7 := Lib.hid (HB6.out.trans (hb6.mono (by omega)))
        have HROW7 := Lib.hid (HROW6.out.below hb6 (by omega))
        clear ho6 hb6 n1 n2 n3
        go_wp2
        go_roundw
        case rel => exact ⟨3, by omega, rfl, by rw [HS2'.out]; exact HO7.out, HB7.out, HROW7.out⟩
        case measure => simp [intOf]
    · obtain rfl : j = 3 := by omega
      obtain ⟨c0, c1, c2, c3, c4, c5, c6, c7, c8⟩ := HROW.out.cells
      have hsz := HB.out.size
      go_wp2_with (at_builtin; refine pushN_law rfl (.tmp 57) (.tmp 60) rfl (w.heap.size + 1) wr u4 (headR fm kd ln sz rs 3) [ov] 1 1 _ rfl rfl rfl rfl HO.out (by rw [HSL.out]; simp) (by omega) ?_)
      intro v' w6 ho6 hb6
      have HO7 := Lib.hid ho6
      have HB7 := Lib.hid (HB.out.trans (hb6.mono (by omega)))
      clear ho6 hb6
      go_wp2
      go_ret
      exact ⟨_, rfl, own_base HO7.out (by omega), HB7.out⟩

set_option maxHeartbeats 1000000 in
theorem values0_any (A : Option Addr) (n k : Nat) (A' : Option Addr) (n' k' : Nat) (w : World) :
    Calls Try.prog 24 #[cdv zeroC A n k A' n' k'] w (RetO w []) := by
  unfold zeroC
  have HB : Hid (∀ o o' : Obj, Below w.heap.size w ((w.alloc o).alloc o')) := fun o o' => ((Below.refl _ _).alloc (Nat.le_refl _) _).alloc (by simp) _
  go_enter Try.func24, Try.ntmps24
  go_wp2
  go_ret
  exact ⟨_, rfl, World.ownsRow_nil _ _ _ _, HB.out _ _⟩

theorem values_any (v : Value) (c : Cd) (B : Nat) (w : World) (hr : rightC c = true) (hc : CdAt w B v c) (hB : B ≤ w.heap.size) : Calls Try.prog 24 #[v] w (RetO w (valuesC c)) := by
  obtain ⟨A, n, k, A', n', k', rfl, i1, s1, bn, bn', f1⟩ := hc
  rcases rightC_iff.1 hr with rfl | ⟨_, h | h⟩
  · exact values0_any A n k A' n' k' w
  · obtain ⟨fm, kd, ln, sz, ps, sg, db, rs, ov⟩ := c
    have h' := oneB_iff.1 h
    simp only at h'
    obtain rfl : n = 4 := by have := i1.len; simp only at this; omega
    exact values1_any fm kd ln sz sg db ov ps rs A k A' n' k' B w h'.1 f1 i1 hB
  · obtain ⟨fm, kd, ln, sz, ps, sg, db, rs, ov⟩ := c
    have h' := twoB_iff.1 h
    simp only at h'
    exact values2_any fm kd ln sz sg db ov ps rs A n k A' n' k' B w h'.1 s1 (by have := s1.len; simp only at this; omega) hB
end Go.Proofs.Ytmimfnbcffcdfaa
