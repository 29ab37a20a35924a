/-
  WALK: lives: true. No condition.
-/
import Derived.Test.YtiknbbkblldjiaaBlocks
namespace Go.Proofs.Ytiknbbkblldjiaa
open Go.RowKit Go.Shelf

def zsL : List Int := [0, 0, 0, 0, 0, 0, 0, 0, 0, 0, 0, 0, 9]
theorem zsL_fit : ∀ z ∈ zsL, Fit z := by unfold Fit; decide
theorem zsL_ok : fitsE zsL = 0 := by decide
theorem zsL_1 : optP zsL 1 = none := by decide
theorem zsL_2 : dblL (fun j => optP zsL (j + 2)) = [some [9, 0, 0, 0, 0, 0, 0, 0], none, none, none, none, none, none, none] := by decide
theorem eql22_nil (W : World) : (binOp .eql 22 (.slice none 0 0) (.slice none 0 0)).run Try.prog W = .ok (.bool true) W := by kernel_rfl
theorem zsL_3 : cntTo [some [9, 0, 0, 0, 0, 0, 0, 0], none, none, none, none, none, none, none] 8 = 1 := by decide
theorem IntRow.set {w : World} {g : Nat} {l : List Int} (h : IntRow w g l) (i : Nat) (x : Int) : IntRow (w.setCell ⟨g, i, none⟩ (.int .i64 x)) g (l.set i x) := by
  have := heap_set (i := i) h (.int .i64 x)
  show _ = _
  rw [this]
  simp [Ytiknbbkblldjiaa.ints, List.map_set]

set_option maxHeartbeats 4000000 in
theorem lives_any (w : World) : Calls Try.prog 8 #[] w fun e w' => e = .returned (.bool true) ∧ Below w.heap.size w w' := by
  have hmk : (Instr.makeSlice 22 (.int .i64 13) (.int .i64 13)).run Try.prog w = .ok (.slice (some ⟨w.heap.size, 0, none⟩) 13 13) (w.alloc (.cells (ints (List.replicate 13 0)).toArray 3)) := make_ints 13 (by omega) w
  have hr0 := IntRow.new w (List.replicate 13 0)
  have k12 := hr0.cell 12 (by simp)
  have f12 : (w.alloc (.cells (ints (List.replicate 13 0)).toArray 3)).frozen? ⟨w.heap.size, 12, none⟩ = false := frozen_of_row _ _ _ _ _ hr0
  have hr1 : IntRow (w.alloc (.cells ((ints (List.replicate 13 0)).set 12 (.int .i64 9)).toArray 3)) w.heap.size zsL := IntRow.new w zsL
  rw [show (List.replicate 13 (0 : Int)).getD 12 0 = 0 from rfl] at k12
  generalize ints (List.replicate 13 0) = Z at *
  have hb1 : Below w.heap.size w (w.alloc (.cells (Z.set 12 (.int .i64 9)).toArray 3)) := (Below.refl _ w).alloc (Nat.le_refl _) _
  have HO := of_any (some ⟨w.heap.size, 0, none⟩) 13 13 _ zsL _ (hr1.ints zsL_fit hr1.lt) (Nat.le_refl _) (by omega) (by omega) zsL_ok
  unfold RetOfR at HO
  rw [zsL_1, zsL_2] at HO
  have HOF := Lib.hid HO
  have HB1 := Lib.hid hb1
  have HPL := Lib.hid (fun w => place_any 12 w (by unfold Fit; omega))
  rw [show placeK 12 = (2, 0, 0) from rfl] at HPL
  clear HO hb1 hr0 hr1
  go_enter Try.func8, Try.ntmps8
  have heq := eql22_nil
  go_wp2_with (first | (go_at_call 17; refine HBLK.out.mono ?_; rintro e W4 ⟨rfl, hb4⟩; rw [zsL_3]) | (go_at_call 18; refine (HPL.out _).mono ?_; rintro e w' ⟨rfl, rfl⟩) | (go_at_call 9; refine HOF.out.mono ?_; rintro e W2 ⟨A1, A2, A3, c1, c2, c3, rfl, h1, h2, h3, -, -, hb2⟩; obtain ⟨rfl, rfl⟩ : A2 = none ∧ c2 = 0 := (by have h2' : Value.slice A2 0 c2 = .slice none 0 0 := h2; injection h2' with e1 e2 e3; exact ⟨e1, e3⟩); have H3 := Lib.hid h3; obtain ⟨b, o, u, rfl, hbB, hu, hl⟩ := h3.2 0 (by decide); obtain ⟨a', c', rfl, hc', hi'⟩ := hl; obtain ⟨b', o', e2, hb2', hk⟩ := hi'.at_ (k := 0) (by decide); cases e2; have HB2 := Lib.hid hb2; clear h1 h2 h3 hb2 hi'; rw [Nat.add_zero] at hu hk; have hu2 := (World.cell?_alloc_lt W2 (.cells #[.slice A1 4 c1, .slice none 0 0, .slice (some ⟨b, o, none⟩) 8 c3] 26) ⟨b, o, none⟩ hbB).trans hu; have hk2 := (World.cell?_alloc_lt W2 (.cells #[.slice A1 4 c1, .slice none 0 0, .slice (some ⟨b, o, none⟩) 8 c3] 26) ⟨b', o', none⟩ hb2').trans hk; have HBLK := Lib.hid (blocks_base 1 A1 none (some ⟨b, o, none⟩) 4 0 8 c1 0 c3 W2.heap.size _ (W2.alloc (.cells #[.slice A1 4 c1, .slice none 0 0, .slice (some ⟨b, o, none⟩) 8 c3] 26)) (H3.out.below ((Below.refl _ W2).alloc (Nat.le_refl _) _) (Nat.le_refl _)) (by simp) (by omega) (by rfl))))
  go_ret
  have q1 := HB1.out.size
  have q2 := HB1.out.trans (HB2.out.mono q1)
  have q3 := q2.size
  exact ⟨rfl, (q2.alloc q3 _).trans (hb4.mono (by simp; omega))⟩
end Go.Proofs.Ytiknbbkblldjiaa
