/-
  WALKS: the layout of a run block, and its bytes. Condition: at most 20 spans.
-/
import Derived.Test.YtgdlfiejjnjcpaaGreatHB
import Derived.Test.YtgdlfiejjnjcpaaGreatBH
set_option linter.unusedVariables false
set_option linter.unusedSimpArgs false
set_option maxRecDepth 100000
set_option maxHeartbeats 4000000
namespace Go.Proofs.YtgdlfiejjnjcpaaGreat.Dl
open Go.RowKit
open Lg (IntRow)

theorem lsts_four (W : World) (g1 g2 : Nat) (l1 l2 : List Int) (n1 n2 : Nat) (e1 : l1.length = n1) (e2 : l2.length = n2) (h1 : IntRow W g1 l1) (h2 : IntRow W g2 l2) (f1 : ∀ z ∈ l1, Fit z) (f2 : ∀ z ∈ l2, Fit z) :
    LstsAt (((W.alloc (.cells #[.int .i64 1] 3)).alloc (.cells #[.int .i64 2] 3)).alloc (.cells #[.slice (some ⟨W.heap.size, 0, none⟩) 1 1, .slice (some ⟨g1, 0, none⟩) n1 n1, .slice (some ⟨g2, 0, none⟩) n2 n2, .slice (some ⟨W.heap.size + 1, 0, none⟩) 1 1] 27)) (((W.alloc (.cells #[.int .i64 1] 3)).alloc (.cells #[.int .i64 2] 3)).alloc (.cells #[.slice (some ⟨W.heap.size, 0, none⟩) 1 1, .slice (some ⟨g1, 0, none⟩) n1 n1, .slice (some ⟨g2, 0, none⟩) n2 n2, .slice (some ⟨W.heap.size + 1, 0, none⟩) 1 1] 27)).heap.size (some ⟨W.heap.size + 1 + 1, 0, none⟩) 4 [[1], l1, l2, [2]] := by
  subst e1
  subst e2
  have s1 : (W.alloc (.cells #[.int .i64 1] 3)).heap.size = W.heap.size + 1 := by simp
  have s2 : ((W.alloc (.cells #[.int .i64 1] 3)).alloc (.cells #[.int .i64 2] 3)).heap.size = W.heap.size + 1 + 1 := by simp
  have r1 : IntRow (((W.alloc (.cells #[.int .i64 1] 3)).alloc (.cells #[.int .i64 2] 3)).alloc (.cells #[.slice (some ⟨W.heap.size, 0, none⟩) 1 1, .slice (some ⟨g1, 0, none⟩) l1.length l1.length, .slice (some ⟨g2, 0, none⟩) l2.length l2.length, .slice (some ⟨W.heap.size + 1, 0, none⟩) 1 1] 27)) W.heap.size [1] := ((IntRow.new W [1]).alloc _).alloc _
  have r2 : IntRow (((W.alloc (.cells #[.int .i64 1] 3)).alloc (.cells #[.int .i64 2] 3)).alloc (.cells #[.slice (some ⟨W.heap.size, 0, none⟩) 1 1, .slice (some ⟨g1, 0, none⟩) l1.length l1.length, .slice (some ⟨g2, 0, none⟩) l2.length l2.length, .slice (some ⟨W.heap.size + 1, 0, none⟩) 1 1] 27)) (W.heap.size + 1) [2] := by
    have := (IntRow.new (W.alloc (.cells #[.int .i64 1] 3)) [2]).alloc (.cells #[.slice (some ⟨W.heap.size, 0, none⟩) 1 1, .slice (some ⟨g1, 0, none⟩) l1.length l1.length, .slice (some ⟨g2, 0, none⟩) l2.length l2.length, .slice (some ⟨W.heap.size + 1, 0, none⟩) 1 1] 27)
    rwa [s1] at this
  have r3 := ((h1.alloc (.cells #[.int .i64 1] 3)).alloc (.cells #[.int .i64 2] 3)).alloc (.cells #[.slice (some ⟨W.heap.size, 0, none⟩) 1 1, .slice (some ⟨g1, 0, none⟩) l1.length l1.length, .slice (some ⟨g2, 0, none⟩) l2.length l2.length, .slice (some ⟨W.heap.size + 1, 0, none⟩) 1 1] 27)
  have r4 := ((h2.alloc (.cells #[.int .i64 1] 3)).alloc (.cells #[.int .i64 2] 3)).alloc (.cells #[.slice (some ⟨W.heap.size, 0, none⟩) 1 1, .slice (some ⟨g1, 0, none⟩) l1.length l1.length, .slice (some ⟨g2, 0, none⟩) l2.length l2.length, .slice (some ⟨W.heap.size + 1, 0, none⟩) 1 1] 27)
  have hb : (((W.alloc (.cells #[.int .i64 1] 3)).alloc (.cells #[.int .i64 2] 3)).alloc (.cells #[.slice (some ⟨W.heap.size, 0, none⟩) 1 1, .slice (some ⟨g1, 0, none⟩) l1.length l1.length, .slice (some ⟨g2, 0, none⟩) l2.length l2.length, .slice (some ⟨W.heap.size + 1, 0, none⟩) 1 1] 27)).heap[W.heap.size + 1 + 1]? = some (.cells #[.slice (some ⟨W.heap.size, 0, none⟩) 1 1, .slice (some ⟨g1, 0, none⟩) l1.length l1.length, .slice (some ⟨g2, 0, none⟩) l2.length l2.length, .slice (some ⟨W.heap.size + 1, 0, none⟩) 1 1] 27 (0, 0)) := by
    have := heap_alloc_new ((W.alloc (.cells #[.int .i64 1] 3)).alloc (.cells #[.int .i64 2] 3)) (.cells #[.slice (some ⟨W.heap.size, 0, none⟩) 1 1, .slice (some ⟨g1, 0, none⟩) l1.length l1.length, .slice (some ⟨g2, 0, none⟩) l2.length l2.length, .slice (some ⟨W.heap.size + 1, 0, none⟩) 1 1] 27)
    rwa [s2] at this
  generalize ((W.alloc (.cells #[.int .i64 1] 3)).alloc (.cells #[.int .i64 2] 3)).alloc _ = W3 at *
  have hlt := (Array.getElem?_eq_some_iff.1 hb).1
  refine ⟨rfl, fun k hk => ?_⟩
  rcases (show k = 0 ∨ k = 1 ∨ k = 2 ∨ k = 3 by omega) with rfl | rfl | rfl | rfl
  · exact ⟨_, 0, some ⟨W.heap.size, 0, none⟩, 1, rfl, hlt, by rw [cell_of_row W3 _ _ _ 27 _ hb]; rfl, r1.ints (by decide) r1.lt⟩
  · exact ⟨_, 0, some ⟨g1, 0, none⟩, l1.length, rfl, hlt, by rw [cell_of_row W3 _ _ _ 27 _ hb]; rfl, r3.ints f1 r3.lt⟩
  · exact ⟨_, 0, some ⟨g2, 0, none⟩, l2.length, rfl, hlt, by rw [cell_of_row W3 _ _ _ 27 _ hb]; rfl, r4.ints f2 r4.lt⟩
  · exact ⟨_, 0, some ⟨W.heap.size + 1, 0, none⟩, 1, rfl, hlt, by rw [cell_of_row W3 _ _ _ 27 _ hb]; rfl, r2.ints (by decide) r2.lt⟩
theorem rep_fit (n : Nat) (x : Int) (h : Fit x) : ∀ z ∈ List.replicate n x, Fit z := fun z hz => by rw [List.eq_of_mem_replicate hz]; exact h
/-- an answer that is a slice of so many numbers. -/
def RetWs (w : World) (e : Ending) (w' : World) : Prop := ∃ A c, e = .returned (.slice A 67 c) ∧ IntsAt w' w'.heap.size A 67 wR ∧ Below w.heap.size w w'
theorem widths_any (w : World) : Calls Tryz.prog 100 #[] w (RetWs w) := by
  have s1 : (w.alloc (.cells #[.int .i64 2] 3)).heap.size = w.heap.size + 1 := by simp
  have hi1 : IntsAt (w.alloc (.cells #[.int .i64 2] 3)) (w.heap.size + 1) (some ⟨w.heap.size, 0, none⟩) 1 [2] := (IntRow.new w [2]).ints (by decide) (by omega)
  have HP1 := Lib.hid (Lg.repeat_any _ 1 _ 2 60 _ hi1 (by rw [s1]; exact Nat.le_refl _) (by omega))
  have HB1 : Hid (Below w.heap.size w (w.alloc (.cells #[.int .i64 2] 3))) := (Below.refl _ _).alloc (Nat.le_refl _) _
  rw [show ((60 : Nat) : Int) = 60 from rfl, s1] at HP1
  have HI2 : Hid (∀ W : World, IntsAt (W.alloc (.cells #[.int .i64 1] 3)) (W.heap.size + 1) (some ⟨W.heap.size, 0, none⟩) 1 [1]) := fun W => (IntRow.new W [1]).ints (by decide) (by omega)
  clear s1 hi1
  unfold RetWs
  go_enter Tryz.func100, Tryz.ntmps100
  go_wp2_with fail
  refine HP1.out.mono ?_
  rintro e w2 ⟨rfl, r2, b2⟩
  have HR2 := Lib.hid r2
  have HB2 := Lib.hid (HB1.out.trans (b2.mono (Nat.le_succ _)))
  have HP3 := Lib.hid (Lg.repeat_any _ 1 _ 1 5 _ (HI2.out w2) (by simp) (by omega))
  have s2 : (w2.alloc (.cells #[.int .i64 1] 3)).heap.size = w2.heap.size + 1 := by simp
  rw [show ((5 : Nat) : Int) = 5 from rfl, s2] at HP3
  have HB3 : Hid (Below w2.heap.size w2 (w2.alloc (.cells #[.int .i64 1] 3))) := (Below.refl _ _).alloc (Nat.le_refl _) _
  clear r2 b2 HP1 s2
  go_wp2_with fail
  refine HP3.out.mono ?_
  rintro e w4 ⟨rfl, r4, b4⟩
  have HX4 := Lib.hid (HB3.out.trans (b4.mono (Nat.le_succ _)))
  have HR24 := Lib.hid (HR2.out.below HX4.out HR2.out.lt)
  have HB4 := Lib.hid (HB2.out.trans (HX4.out.mono HB2.out.size))
  have HLS := lsts_four w4 (w.heap.size + 1) (w2.heap.size + 1) _ _ 60 5 List.length_replicate List.length_replicate HR24.out r4 (rep_fit 60 2 (by decide)) (rep_fit 5 1 (by decide))
  have HBL : Hid (Below w.heap.size w (((w4.alloc (.cells #[.int .i64 1] 3)).alloc (.cells #[.int .i64 2] 3)).alloc (.cells #[.slice (some ⟨w4.heap.size, 0, none⟩) 1 1, .slice (some ⟨w.heap.size + 1, 0, none⟩) 60 60, .slice (some ⟨w2.heap.size + 1, 0, none⟩) 5 5, .slice (some ⟨w4.heap.size + 1, 0, none⟩) 1 1] 27))) := by
    have := HB4.out.size
    exact ((HB4.out.alloc this _).alloc (by simp; omega) _).alloc (by simp; omega) _
  have HC := Lib.hid (concatI_any _ 4 4 _ _ _ HLS (Nat.le_refl _) (by omega) (by decide))
  have eW : [[1], List.replicate 60 (2 : Int), List.replicate 5 1, [2]].flatten = wR := by decide
  rw [eW] at HC
  clear r4 b4 HP3 HLS eW
  go_wp2_with fail
  refine HC.out.mono ?_
  intro e w5 h5
  obtain ⟨A, c, rfl, i5, b5⟩ := h5.ints (by unfold wR; intro z hz; simp only [List.mem_append, List.mem_singleton] at hz; unfold Fit; rcases hz with ((rfl | hz) | hz) | rfl; omega; rw [List.eq_of_mem_replicate hz]; omega; rw [List.eq_of_mem_replicate hz]; omega; omega)
  have HI5 := Lib.hid i5
  have HB5 := Lib.hid (HBL.out.trans (b5.mono HBL.out.size))
  clear i5 b5 h5
  rw [show wR.length = 67 from rfl] at HI5 ⊢
  go_wp2
  go_ret
  exact ⟨_, _, rfl, HI5.out, HB5.out⟩

/-! ### the bytes of a run block -/
theorem vals_0 (g : List Sp) (nx : Int) : ((List.replicate 67 (0 : Int)).set 0 (g.length : Int)).set 66 nx = valsT g nx 0 := by
  unfold valsT
  generalize (g.length : Int) = z
  rfl
theorem vals_step (g : List Sp) (nx : Int) (k : Nat) (hk : k < g.length) (h20 : g.length ≤ 20) : splice (valsT g nx k) (1 + 3 * k) (spI (g.getD k Sp.z)) = valsT g nx (k + 1) := by
  have hl : (spsI (g.take k)).length = 3 * k := by rw [spsI_len, List.length_take, Nat.min_eq_left (by omega)]
  have e1 : (valsT g nx k).take (1 + 3 * k) = (g.length : Int) :: spsI (g.take k) := by
    unfold valsT
    rw [show 1 + 3 * k = 3 * k + 1 by omega, List.take_succ_cons, List.take_append_of_le_length (by omega), List.take_of_length_le (by omega)]
  have e2 : (valsT g nx k).drop (1 + 3 * k + 3) = List.replicate (65 - 3 * (k + 1)) 0 ++ [nx] := by
    unfold valsT
    rw [show 1 + 3 * k + 3 = (3 * k + 3) + 1 by omega, List.drop_succ_cons, List.drop_append, List.drop_of_length_le (by omega), List.nil_append, hl, show 3 * k + 3 - 3 * k = 3 by omega, List.drop_append_of_le_length (by rw [List.length_replicate]; omega), List.drop_replicate, show 65 - 3 * k - 3 = 65 - 3 * (k + 1) by omega]
  have e3 : g.take (k + 1) = g.take k ++ [g.getD k Sp.z] := by
    rw [List.take_add_one]
    simp [List.getD, List.getElem?_eq_getElem hk]
  unfold splice
  rw [show (spI (g.getD k Sp.z)).length = 3 from rfl, e1, e2]
  unfold valsT
  rw [e3, spsI_snoc, List.cons_append, List.append_assoc]
theorem valsT_fit {g : List Sp} {nx : Int} (hg : ∀ s ∈ g, s.fit) (hn : Fit nx) (hl : g.length ≤ 20) (k : Nat) : ∀ z ∈ valsT g nx k, Fit z := fun z hz => by
  unfold valsT at hz
  rcases List.mem_cons.1 hz with rfl | hz
  · unfold Fit; omega
  · rcases List.mem_append.1 hz with hz | hz
    · unfold spsI at hz
      obtain ⟨s, hs, hx⟩ := List.mem_flatMap.1 hz
      have := hg s (List.mem_of_mem_take hs)
      unfold Sp.fit at this
      unfold spI at hx
      simp only [List.mem_cons, List.not_mem_nil, or_false] at hx
      rcases hx with rfl | rfl | rfl
      · exact this.1
      · exact this.2.1
      · exact this.2.2
    · rcases List.mem_append.1 hz with hz | hz
      · rw [List.eq_of_mem_replicate hz]; decide
      · rw [List.mem_singleton] at hz; subst hz; exact hn
theorem blockof_any (A : Option Addr) (n c B : Nat) (g : List Sp) (nx : Int) (w : World) (hA : SpsAt w B A n g) (hB : B ≤ w.heap.size) (hn : n ≤ 20) (hx : Fit nx) :
    Calls Tryz.prog 71 #[.slice A n c, .int .i64 nx] w fun e w' => e = .returned (.string (blockB g nx)) ∧ Below w.heap.size w w' := by
  have HL := Lib.hid hA.len
  have HA := Lib.hid hA
  have HB := Lib.hid hB
  have hgl : g.length ≤ 20 := by rw [HL.out]; exact hn
  have HGF : Hid (∀ k, (g.getD k Sp.z).fit) := fun k => hA.bd k
  have hgf : ∀ s ∈ g, s.fit := fun s hs => by
    obtain ⟨k, hk, rfl⟩ := List.getElem_of_mem hs
    have := hA.bd k
    rwa [show g.getD k Sp.z = g[k] by simp [List.getD, List.getElem?_eq_getElem hk]] at this
  have HVF : Hid (∀ k, ∀ z ∈ valsT g nx k, Fit z) := fun k => valsT_fit hgf hx hgl k
  have HVL : Hid (∀ k, k ≤ n → (valsT g nx k).length = 67) := fun k hk => valsT_len g nx k (by rw [HL.out]; exact hk) hgl
  have HVS : Hid (∀ k, k < n → splice (valsT g nx k) (1 + 3 * k) (spI (g.getD k Sp.z)) = valsT g nx (k + 1)) := fun k hk => vals_step g nx k (by rw [HL.out]; exact hk) hgl
  have HV0 : Hid (((List.replicate 67 (0 : Int)).set 0 (n : Int)).set 66 nx = valsT g nx 0) := by
    show _ = _
    rw [← HL.out]; exact vals_0 g nx
  have HVN : Hid (valsT g nx n = valsB g nx) := by show _ = _; unfold valsB; rw [HL.out]
  have HBK : Hid (strOfNums (writeR wR (valsB g nx)).1 = blockB g nx) := rfl
  have HWD := Lib.hid widths_any
  unfold RetWs at HWD
  clear hA hB hgl hgf
  go_enter Tryz.func71, Tryz.ntmps71
  go_wp2_with fail
  refine (HWD.out _).mono ?_
  rintro e w1 ⟨A1, c1, rfl, -, b1⟩
  have HB1 := Lib.hid b1
  have hmk := Lg.make_ints 67 (by omega) w1
  have hr0 := Lg.IntRow.new w1 (List.replicate 67 0)
  have HR1 := Lib.hid ((hr0.set (k := 0) (n : Int)).set (k := 66) nx)
  rw [HV0.out] at HR1
  have hc0 := hr0.cell 0 (by simp)
  have hz0 := hr0.fz 0
  have hz66 := (hr0.set (k := 0) (n : Int)).fz 66
  have hc66 := (hr0.set (k := 0) (n : Int)).cell 66 (by simp)
  have HB2 : Hid (Below w.heap.size w (((w1.alloc (.cells (Lg.ints (List.replicate 67 0)).toArray 3)).setCell ⟨w1.heap.size, 0, none⟩ (.int .i64 (n : Int))).setCell ⟨w1.heap.size, 66, none⟩ (.int .i64 nx))) := by
    have := HB1.out.size
    exact ((HB1.out.alloc this _).setCell (p := ⟨w1.heap.size, 0, none⟩) this _).setCell (p := ⟨w1.heap.size, 66, none⟩) this _
  simp only [show ((67 : Nat) : Int) = 67 from rfl] at hmk
  clear b1 hr0
  generalize (w1.alloc (.cells (Lg.ints (List.replicate 67 0)).toArray 3)) = W2 at *
  have HG : Hid (w.heap.size ≤ w1.heap.size) := HB1.out.size
  generalize w1.heap.size = gv at *
  go_wp2
  go_loopw [6, 7, 25] (fun _ _ j wr => ∃ k : Nat, k ≤ n ∧ j = .int .i64 (k : Int) ∧ Hid (IntRow wr gv (valsT g nx k)) ∧ Hid (Below w.heap.size w wr)) (fun _ _ j _ => n - (intOf j).toNat)
  case atStart => exact ⟨0, by omega, rfl, HR1.out, HB2.out⟩
  case round =>
    obtain ⟨k, hk, rfl, hrow, hb⟩ := hrel
    by_cases hlt : k < n
    · have hlt2 : (k : Int) < (n : Int) := by omega
      obtain ⟨b, o, rfl, hbB, g1, g2, g3⟩ := (HA.out.below hb.out HB.out).at_ hlt
      have HST := Lib.hid (HVS.out k hlt)
      have HFT := Lib.hid (HGF.out k)
      generalize g.getD k Sp.z = sp at *
      obtain ⟨sa, ss, sl⟩ := sp
      simp only at g1 g2 g3
      have n1 : (wr.alloc (.cells #[.int .i64 sa, .int .i64 ss, .int .i64 sl] 85)).cell? ⟨wr.heap.size, 0, none⟩ = some (.int .i64 sa) := cell_new wr _ 85 0 rfl
      have n2 : (wr.alloc (.cells #[.int .i64 sa, .int .i64 ss, .int .i64 sl] 85)).cell? ⟨wr.heap.size, 1, none⟩ = some (.int .i64 ss) := cell_new wr _ 85 1 rfl
      have n3 : (wr.alloc (.cells #[.int .i64 sa, .int .i64 ss, .int .i64 sl] 85)).cell? ⟨wr.heap.size, 2, none⟩ = some (.int .i64 sl) := cell_new wr _ 85 2 rfl
      have hfi : ∀ z ∈ [sa, ss, sl], Fit z := fun z hz => by
        simp only [List.mem_cons, List.not_mem_nil, or_false] at hz
        have h := HFT.out
        unfold Sp.fit at h
        rcases hz with rfl | rfl | rfl
        · exact h.1
        · exact h.2.1
        · exact h.2.2
      have hs1 : (wr.alloc (.cells #[.int .i64 sa, .int .i64 ss, .int .i64 sl] 85)).drew.heap.size = wr.heap.size + 1 := by show (wr.alloc _).heap.size = _; simp
      have hrd : IntRow ((wr.alloc (.cells #[.int .i64 sa, .int .i64 ss, .int .i64 sl] 85)).drew.alloc (.cells #[.int .i64 sa, .int .i64 ss, .int .i64 sl] 3)) gv (valsT g nx k) := IntRow.alloc (w := (wr.alloc (.cells #[.int .i64 sa, .int .i64 ss, .int .i64 sl] 85)).drew) (hrow.out.alloc _) _
      have hnr := IntRow.new (wr.alloc (.cells #[.int .i64 sa, .int .i64 ss, .int .i64 sl] 85)).drew [sa, ss, sl]
      have hsub := hnr.ints hfi hnr.lt
      rw [hs1] at hsub
      have hlen := HVL.out k hk
      obtain ⟨W4, hc4, hr4, hg4, hs4⟩ := Lg.copy_ints _ gv (1 + 3 * k) (67 - (1 + 3 * k)) (67 - (1 + 3 * k)) _ (some ⟨wr.heap.size + 1, 0, none⟩) 3 3 (valsT g nx k) [sa, ss, sl] hrd (by rw [hlen]; omega) hsub
      have hmin : Nat.min 3 (67 - (1 + 3 * k)) = 3 := Nat.min_eq_left (by omega)
      rw [hmin] at hr4 hc4
      have hc5 : (Builtin.copy_ #[27, 27] 3 #[.slice (some ⟨gv, 1 + 3 * k, none⟩) (67 - (1 + 3 * k)) (67 - (1 + 3 * k)), .slice (some ⟨wr.heap.size + 1, 0, none⟩) 3 3]).run Tryz.prog ((wr.alloc (.cells #[.int .i64 sa, .int .i64 ss, .int .i64 sl] 85)).alloc (.cells #[.int .i64 sa, .int .i64 ss, .int .i64 sl] 3)).drew = .ok (.int .i64 3) W4 := hc4
      clear hc4
      rw [show List.take 3 [sa, ss, sl] = spI ⟨sa, ss, sl⟩ from rfl, HST.out] at hr4
      have HR4 := Lib.hid hr4
      have hba : Below w.heap.size w ((wr.alloc (.cells #[.int .i64 sa, .int .i64 ss, .int .i64 sl] 85)).drew.alloc (.cells #[.int .i64 sa, .int .i64 ss, .int .i64 sl] 3)) := by
        have h1 := hb.out.size
        exact (Below.dr (hb.out.alloc h1 _)).alloc (by rw [hs1]; omega) _
      have HB4 : Hid (Below w.heap.size w W4) := hba.grown hg4 hba.size (fun j hj => by cases hj; exact HG.out)
      clear hr4 hg4 hs4 hba hrd hnr hsub hlen hmin hs1 hfi HST
      have x1 : (1 + 3 * (k : Int)).toNat = 1 + 3 * k := by omega
      have x2 : (0 : Int) ≤ 1 + 3 * (k : Int) := by omega
      have x3 : 1 + 3 * (k : Int) ≤ 67 := by omega
      go_wp2
      go_region
      all_goals
        go_wp2
        go_roundw
        case rel => exact ⟨k + 1, by omega, by go_num, HR4.out, HB4.out⟩
        case measure => simp [intOf]; omega
    · have hlt2 : ¬ (k : Int) < (n : Int) := by omega
      obtain rfl : k = n := by omega
      have hI := hrow.out.ints (B := wr.heap.size) (HVF.out k) hrow.out.lt
      rw [HVL.out k (Nat.le_refl _), HVN.out] at hI
      have HI := Lib.hid hI
      have HB1 := Lib.hid hb.out
      clear hI
      go_wp2_with fail
      refine (HWD.out _).mono ?_
      rintro e w2 ⟨A2, c2, rfl, i2, b2⟩
      have HB2 := Lib.hid (HB1.out.trans (b2.mono HB1.out.size))
      have HWR := Lib.hid (Go.Proofs.YtgdlfiejjnjcpaaGreat.write_any A2 (some ⟨gv, 0, none⟩) 67 c2 67 67 w2.heap.size wR (valsB g nx) w2 i2 ((HI.out.below b2 (Nat.le_refl _)).more b2.size) (Nat.le_refl _) (by omega) (by omega))
      rw [HBK.out] at HWR
      clear i2 b2
      generalize (writeR wR (valsB g nx)).2 = er at *
      go_wp2_with fail
      refine HWR.out.mono ?_
      rintro e w3 ⟨rfl, b3⟩
      have HB3 := Lib.hid (HB2.out.trans (b3.mono HB2.out.size))
      clear b3
      go_wp2
      go_ret
      exact ⟨rfl, HB3.out⟩
end Go.Proofs.YtgdlfiejjnjcpaaGreat.Dl
