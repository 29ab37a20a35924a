/-
  WALKS: early, lives. Condition: none.
-/
import Derived.Test.YtpljifeebbeakaaLStates
import Derived.Test.YtpljifeebbeakaaLChanges
namespace Go.Proofs.Ytpljifeebbeakaa
open Go.RowKit
open Sl (St SlabAt Turns)

theorem early_any (A : Option Addr) (n c : Nat) (w : World) (hnc : n ≤ c) :
    Calls Try.prog 8 #[.slice A n c] w fun e w' => e = .returned (.slice A (min n 25) c) ∧ w = w' := by
  by_cases h : n ≤ 25
  · have hm : min n 25 = n := Nat.min_eq_left h
    have hmi : min (n : Int) 25 = (n : Int) := by omega
    have HM := Lib.hid hm
    generalize min n 25 = r at *
    clear hm
    go_enter Try.func8, Try.ntmps8
    go_wp2
    go_ret
    exact ⟨by rw [HM.out]; rfl, rfl⟩
  · have hm : min n 25 = 25 := Nat.min_eq_right (by omega)
    have hmi : min (n : Int) 25 = 25 := by omega
    have HM := Lib.hid hm
    have hc25 : ¬ (c : Int) < 25 := by omega
    generalize min n 25 = r at *
    clear hm
    go_enter Try.func8, Try.ntmps8
    go_wp2
    go_ret
    exact ⟨by rw [HM.out]; rfl, rfl⟩

/-- a new slab's blocks. -/
def newD (n : Nat) : List ByteArray := List.replicate n z128
theorem newD_len (n : Nat) : (newD n).length = n := by simp [newD]
theorem newD_whole (n : Nat) : Whole (newD n) := fun s hs => by rw [List.eq_of_mem_replicate hs]; exact z128_size
theorem newD_get {n k : Nat} (h : k < n) : (newD n).getD k ⟨#[]⟩ = z128 := by simp [newD, List.getD, h]
theorem new_calm (n : Nat) (hn : n ≤ 1000) (w : World) :
    Calls Try.prog 9 #[.int .i64 n] w fun e w' => ∃ p pd pm, e = .returned (.pointer (some ⟨p, 0, none⟩)) ∧ SlabAt w' p pd pm (FS (newD n) 0) ∧ w.heap.size ≤ p ∧ w.heap.size ≤ pd ∧ w.heap.size ≤ pm ∧ Below w.heap.size w w' := by
  refine (Sl.new_any n w).mono ?_
  intro e w' ⟨p, pd, pm, h1, h2, h3⟩
  have e2 : Sl.St.new (n : Int) = FS (newD n) 0 := by
    unfold Sl.St.new
    rw [show (min (max (n : Int) 0) 1000).toNat = n by omega]
    rfl
  rw [e2] at h2
  exact ⟨p, pd, pm, h1, h2, h3⟩
def sevenL : List Ch := [⟨50, fillS 7⟩]
theorem seven_ok : rightC sevenL 64 = 0 := by
  refine rightC_ok (by decide) (okL_t.2 fun k hk => ?_)
  obtain rfl : k = 0 := by simp [sevenL] at hk; omega
  exact okC_t.2 ⟨by decide, fillS_size 7⟩

set_option maxRecDepth 100000 in
set_option maxHeartbeats 4000000 in
theorem lives_any (w : World) : Calls Try.prog 7 #[] w fun e w' => e = .returned (.bool true) ∧ Below w.heap.size w w' := by
  have HNEW := Lib.hid (new_calm 64 (by omega))
  have hd0 : (newD 64).getD 1 ⟨#[]⟩ = z128 := newD_get (by omega)
  obtain ⟨k1, k2, k3⟩ := calm_open hd0 0
  have K1 := Lib.hid k1
  have K2 := Lib.hid k2
  have K3 := Lib.hid k3
  have hL : (newD 64).length = 64 := newD_len 64
  have HW := Lib.hid (newD_whole 64)
  have HR : Hid (rightC sevenL (newD 64).length = 0) := by show _ = _; rw [hL]; exact seven_ok
  have hd1 : (cmD (newD 64) sevenL).getD 1 ⟨#[]⟩ = z128 := by rw [cmD_one (by rw [hL]; omega), head_nil]
  obtain ⟨j1, j2, j3⟩ := calm_open hd1 8
  have J1 := Lib.hid j1
  have J2 := Lib.hid j2
  have J3 := Lib.hid j3
  have hL1 : (cmD (newD 64) sevenL).length = 64 := by rw [cmD_len, hL]
  have HW1 := Lib.hid (whole_cm (l := sevenL) (newD_whole 64) (by intro c hc; simp [sevenL] at hc; subst hc; exact fillS_size 7) (by decide))
  have H50 : Hid ((FS (cmD (newD 64) sevenL) 8).read 50 = fillS 7) := by
    have h := read_FS (D := cmD (newD 64) sevenL) (c := 8) (k := 50) (by rw [hL1]; omega)
    refine h.trans ?_
    rw [cmD_get (by decide) (by decide)]
    show ((newD 64).set 50 (fillS 7)).getD 50 ⟨#[]⟩ = _
    simp [List.getD, hL]
  have HL := Lib.hid hL
  have HL1 := Lib.hid hL1
  have HDL : Hid ((FS (cmD (newD 64) sevenL) 8).dur.length = 64) := hL1
  generalize newD 64 = D0 at *
  clear hd0 k1 k2 k3 hd1 j1 j2 j3 hL hL1
  have hfill := fun v : World => fill_any 7 v (by omega)
  have HFILL := Lib.hid hfill
  clear hfill
  go_enter Try.func7, Try.ntmps7
  go_wp2_with fail
  refine (HNEW.out _).mono ?_
  rintro e w1 ⟨p, pd, pm, rfl, h1, hp, hpd, hpm, b1⟩
  have HB1 := Lib.hid b1
  have OP := Lib.hid (open_any p pd pm D0 0 w1 h1 HW.out (by omega))
  have HLp := Lib.hid (⟨h1.lt_p, h1.lt_d, h1.lt_m⟩ : p < w1.heap.size ∧ pd < w1.heap.size ∧ pm < w1.heap.size)
  clear h1 b1
  go_wp2_with fail
  refine OP.out.mono ?_
  rintro e w2 ⟨t2, _, _, hx⟩
  obtain ⟨q, rfl, hq, Q2, S2⟩ := hx (by rw [HL.out]; omega) K1.out
  rw [K2.out, K3.out] at S2
  have HQ2 := Lib.hid Q2
  have HS2 := Lib.hid S2
  have HB2 := Lib.hid (HB1.out.trans (t2.below HB1.out.size (by simp; omega)))
  have hsz : w1.heap.size ≤ w2.heap.size := t2.size
  clear OP hx t2 Q2 S2
  go_wp2_with fail
  refine (HFILL.out _).mono ?_
  rintro e w3 ⟨rfl, b3⟩
  have hsz3 := b3.size
  have HQ3 := Lib.hid (HQ2.out.below b3 HQ2.out.lt)
  have HS3 := Lib.hid (HS2.out.keptB (Turns.of_below [] b3))
  have HB3 := Lib.hid (HB2.out.trans (b3.mono HB2.out.size))
  have hr : ChRow (w3.alloc (.cells #[.int .i64 50, .string (fillS 7)] 58)) w3.heap.size sevenL := ChRow.new w3 sevenL
  have hi := hr.chs (B := (w3.alloc (.cells #[.int .i64 50, .string (fillS 7)] 58)).heap.size) (by intro s hs; simp [sevenL] at hs; subst hs; exact ⟨by rw [fillS_size]; omega, by show -9223372036854775808 ≤ (50 : Int) ∧ _; decide⟩) hr.lt
  have hp3 := HLp.out
  have hq3 := HQ3.out.lt
  have hq2 := HQ2.out.lt
  have CM := Lib.hid (commit_yes q 0 p pd pm D0 0 (some ⟨w3.heap.size, 0, none⟩) 1 1 (w3.alloc (.cells #[.int .i64 50, .string (fillS 7)] 58)).heap.size sevenL (w3.alloc (.cells #[.int .i64 50, .string (fillS 7)] 58)) (HQ3.out.below ((Below.refl w3.heap.size w3).alloc (Nat.le_refl _) _) hq3)
    (HS3.out.keptB (Turns.alloc _ _ _)) hi (Nat.le_refl _) (by intro a ha; cases ha; simp; omega) (by simp; omega) HR.out (by omega) (by omega) (by rw [HL.out]; omega) (by omega))
  have HB3a := Lib.hid (HB3.out.alloc HB3.out.size (.cells #[.int .i64 50, .string (fillS 7)] 58))
  clear b3 hr hi
  go_wp2_with fail
  refine CM.out.mono ?_
  rintro e w4 ⟨rfl, S4, Q4, t4⟩
  have HQ4 := Lib.hid Q4
  have HS4 := Lib.hid S4
  have HB4 := Lib.hid (HB3a.out.trans (t4.below HB3a.out.size (by simp; omega)))
  have hsz4 := t4.size
  have OP2 := Lib.hid (open_any p pd pm (cmD D0 sevenL) 8 w4 S4 HW1.out (by omega))
  clear S4 Q4 t4 CM
  go_wp2_with fail
  refine OP2.out.mono ?_
  rintro e w5 ⟨t5, _, _, hx⟩
  obtain ⟨q', rfl, hq', Q5, S5⟩ := hx (by rw [HL1.out]; omega) J1.out
  rw [J2.out, J3.out] at S5
  have HQ5 := Lib.hid Q5
  have HS5 := Lib.hid S5
  have HQ45 := Lib.hid (HQ4.out.turns t5 (by simp; omega))
  have HB5 := Lib.hid (HB4.out.trans (t5.below HB4.out.size (by simp; omega)))
  have HRD := Lib.hid (lread_any q' 0 p pd pm _ 50 w5 Q5 S5)
  rw [H50.out] at HRD
  clear OP2 hx t5 Q5 S5
  go_wp2_with fail
  refine HRD.out.mono ?_
  rintro e w6 ⟨rfl, b6⟩
  have HQ6 := Lib.hid (HQ5.out.below b6 HQ5.out.lt)
  have HQ46 := Lib.hid (HQ45.out.below b6 HQ45.out.lt)
  have HS6 := Lib.hid (HS5.out.keptB (Turns.of_below [] b6))
  have HB6 := Lib.hid (HB5.out.trans (b6.mono HB5.out.size))
  clear b6
  go_wp2_with fail
  refine (HFILL.out _).mono ?_
  rintro e w7 ⟨rfl, b7⟩
  have HQ7 := Lib.hid (HQ6.out.below b7 HQ6.out.lt)
  have HQ47 := Lib.hid (HQ46.out.below b7 HQ46.out.lt)
  have HS7 := Lib.hid (HS6.out.keptB (Turns.of_below [] b7))
  have HB7 := Lib.hid (HB6.out.trans (b7.mono HB6.out.size))
  clear b7
  go_wp2_with fail
  refine (lcommits_any q _ p w7 HQ47.out).mono ?_
  rintro e w8 ⟨rfl, rfl⟩
  have HSZ := Lib.hid (lsize_any q' 0 p pd pm _ w7 HQ7.out HS7.out)
  rw [HDL.out] at HSZ
  go_wp2_with fail
  refine HSZ.out.mono ?_
  rintro e w8 ⟨rfl, rfl⟩
  go_wp2_with fail
  refine (Sl.calls_any p pd pm _ w7 HS7.out).mono ?_
  rintro e w8 ⟨rfl, rfl⟩
  go_wp2
  go_ret
  exact ⟨rfl, HB7.out⟩
end Go.Proofs.Ytpljifeebbeakaa
