/-
  WALK: lives, the one concrete row of calls with which every law begins, says true. No condition.
-/
import Derived.Test.YtclfklpekkkkfaaCrash
namespace Go.Proofs.Ytclfklpekkkkfaa
open Go.RowKit Go.Maps Go.Sort

theorem whole_pad {s : ByteArray} (h : s.size ≤ 128) : wholeS s = padS s 128 := by
  unfold wholeS
  rw [Nat.min_eq_left h]
  simp
theorem St.run_of {σ : St} (h : σ.stops = false) : σ.halted = false := by unfold St.halted; rw [h]; rfl
theorem St.has_of {σ : St} {i : Int} (h : 0 ≤ i ∧ i < (σ.dur.length : Int)) : σ.has i = true := by unfold St.has; simp [h.1, h.2]
theorem St.fits_of {σ : St} {i : Int} {s : ByteArray} (h : 0 ≤ i ∧ i < (σ.dur.length : Int)) (hs : s.size ≤ 128) : σ.fits i s = true := by unfold St.fits; rw [St.has_of h]; simpa using hs
theorem St.write_ok {σ : St} {i : Int} {s : ByteArray} (hr : σ.stops = false) (h : 0 ≤ i ∧ i < (σ.dur.length : Int)) (hs : s.size ≤ 128) : σ.write i s = σ.tick.put i (padS s 128) ∧ σ.writeE i s = 0 := by
  unfold St.write St.writeE
  rw [St.run_of hr, St.fits_of h hs]
  exact ⟨rfl, rfl⟩
theorem St.flush_ok {σ : St} (hr : σ.stops = false) : σ.flush = { σ.tick with dur := σ.img }.firm ∧ σ.flushE = 0 := by
  unfold St.flush St.flushE
  rw [St.run_of hr]
  exact ⟨rfl, rfl⟩
theorem St.read_put {σ : St} {i : Int} {s : ByteArray} (h : 0 ≤ i ∧ i < (σ.dur.length : Int)) : (σ.put i s).read i = s := by
  unfold St.read
  rw [if_pos (St.has_of (σ := σ.put i s) h)]
  obtain ⟨k, rfl⟩ := Int.eq_ofNat_of_zero_le h.1
  simp [St.at, St.put]
theorem St.img_put {σ : St} {k : Nat} {s : ByteArray} (h : k < σ.dur.length) : (σ.put k s).img[k]? = some s := by
  rw [St.img_at (σ.put k s) (by exact h)]
  simp [St.at, St.put]

def sA : ByteArray := ⟨#[97]⟩
def sB : ByteArray := ⟨#[98]⟩
def S0 : St := St.new 2
def S1 : St := S0.write 0 sA
def S2 : St := S1.flush
def S3 : St := S2.write 0 sB
theorem S0_len : S0.dur.length = 2 := by simp [S0, St.new, St.fresh]; decide
theorem S1_is : S1 = S0.tick.put 0 (padS sA 128) ∧ S0.writeE 0 sA = 0 := St.write_ok rfl (by rw [S0_len]; decide) (by decide)
theorem S1_len : S1.dur.length = 2 := by rw [S1_is.1]; exact S0_len
theorem S1_stops : S1.stops = false := by rw [S1_is.1]; rfl
theorem S1_calls : S1.calls = 1 := by rw [S1_is.1]; rfl
theorem S2_is : S2 = { S1.tick with dur := S1.img }.firm ∧ S1.flushE = 0 := St.flush_ok S1_stops
theorem S2_len : S2.dur.length = 2 := by rw [S2_is.1]; show S1.img.length = 2; rw [St.img_len, S1_len]
theorem S2_stops : S2.stops = false := by rw [S2_is.1]; exact S1_stops
theorem S2_calls : S2.calls = 2 := by rw [S2_is.1]; show S1.calls + 1 = 2; rw [S1_calls]
theorem S3_is : S3 = S2.tick.put 0 (padS sB 128) ∧ S2.writeE 0 sB = 0 := St.write_ok S2_stops (by rw [S2_len]; decide) (by decide)
theorem S3_len : S3.dur.length = 2 := by rw [S3_is.1]; exact S2_len
theorem S3_calls : S3.calls = 3 := by rw [S3_is.1]; show S2.calls + 1 = 3; rw [S2_calls]
theorem S3_read : S3.read 0 = wholeS sB := by
  rw [S3_is.1, whole_pad (by decide)]
  exact St.read_put (by show (0 : Int) ≤ 0 ∧ (0 : Int) < (S2.dur.length : Int); rw [S2_len]; decide)
theorem S4_read : S3.lost.read 0 = wholeS sA := by
  rw [whole_pad (by decide)]
  have e : S3.lost.read ((0 : Nat) : Int) = S3.lost.at 0 := St.read_at _ (by show 0 < S3.dur.length; rw [S3_len]; decide)
  have e2 : S3.lost.at 0 = S3.dur.getD 0 ⟨#[]⟩ := rfl
  have e3 : S3.dur = S1.img := by rw [S3_is.1]; show S2.dur = _; rw [S2_is.1]; rfl
  have e4 : S1.img[0]? = some (padS sA 128) := by
    rw [S1_is.1]
    exact St.img_put (σ := S0.tick) (k := 0) (by show 0 < S0.dur.length; rw [S0_len]; decide)
  show S3.lost.read ((0 : Nat) : Int) = _
  rw [e, e2, e3]
  simp [List.getD, e4]
theorem S4_size : S3.lost.dur.length = 2 := S3_len
theorem S4_calls : S3.lost.calls = 3 := S3_calls

set_option maxHeartbeats 1000000 in
theorem lives_any (w : World) : Calls Try.prog 7 #[] w fun e w' => e = .returned (.bool true) ∧ Below w.heap.size w w' := by
  go_enter Try.func7, Try.ntmps7
  go_wp2_with fail
  refine (new_any 2 w).mono ?_
  rintro e w1 ⟨p, pd, pm, rfl, h1, hp, hd, hm, b1⟩
  have HB1 := Lib.hid b1
  have H1 := Lib.hid (show SlabAt w1 p pd pm S0 from h1)
  clear h1 b1
  go_wp2_with fail
  refine (write_any p pd pm S0 0 sA w1 H1.out (by decide) (by omega) (by decide)).mono ?_
  rintro e w2 ⟨rfl, h2, t2⟩
  rw [S1_is.2]
  have H2 := Lib.hid (show SlabAt w2 p pd pm S1 from h2)
  have T2 := Lib.hid t2
  clear h2 t2
  go_wp2_with fail
  refine (flush_any p pd pm S1 w2 H2.out (by rw [S1_calls]; decide)).mono ?_
  rintro e w3 ⟨rfl, h3, t3⟩
  rw [S2_is.2]
  have H3 := Lib.hid (show SlabAt w3 p pd pm S2 from h3)
  have T3 := Lib.hid t3
  clear h3 t3
  go_wp2_with fail
  refine (write_any p pd pm S2 0 sB w3 H3.out (by rw [S2_calls]; decide) (by omega) (by decide)).mono ?_
  rintro e w4 ⟨rfl, h4, t4⟩
  rw [S3_is.2]
  have H4 := Lib.hid (show SlabAt w4 p pd pm S3 from h4)
  have T4 := Lib.hid t4
  clear h4 t4
  go_wp2_with fail
  refine (read_any p pd pm S3 0 w4 H4.out).mono ?_
  rintro e w5 ⟨rfl, b5⟩
  rw [S3_read]
  have H5 := Lib.hid (H4.out.keptB (Turns.of_below _ b5))
  have B5 := Lib.hid b5
  clear b5
  go_wp2_with fail
  refine (whole_any sB w5 (by decide)).mono ?_
  rintro e w6 ⟨rfl, b6⟩
  have H6 := Lib.hid (H5.out.keptB (Turns.of_below _ b6))
  have B6 := Lib.hid b6
  clear b6
  generalize wholeS sB = R at *
  have hne := bne_same R
  have heq := beq_same R
  go_wp2_with fail
  refine (crash_nil p pd pm S3 w6 H6.out (by rw [S3_calls]; decide)).mono ?_
  rintro e w7 ⟨rfl, h7, t7⟩
  have H7 := Lib.hid h7
  have T7 := Lib.hid t7
  clear h7 t7
  go_wp2_with fail
  refine (read_any p pd pm S3.lost 0 w7 H7.out).mono ?_
  rintro e w8 ⟨rfl, b8⟩
  rw [S4_read]
  have H8 := Lib.hid (H7.out.keptB (Turns.of_below _ b8))
  have B8 := Lib.hid b8
  clear b8
  go_wp2_with fail
  refine (whole_any sA w8 (by decide)).mono ?_
  rintro e w9 ⟨rfl, b9⟩
  have H9 := Lib.hid (H8.out.keptB (Turns.of_below _ b9))
  have B9 := Lib.hid b9
  clear b9
  generalize wholeS sA = R2 at *
  have hne2 := bne_same R2
  have heq2 := beq_same R2
  go_wp2_with fail
  refine (size_any p pd pm S3.lost w9 H9.out).mono ?_
  rintro e w10 ⟨rfl, rfl⟩
  rw [S4_size]
  go_wp2_with fail
  refine (calls_any p pd pm S3.lost w9 H9.out).mono ?_
  rintro e w11 ⟨rfl, rfl⟩
  rw [S4_calls]
  go_wp2
  go_ret
  refine ⟨rfl, ?_⟩
  have hL : ∀ j, j ∈ [p, pd, pm] → w.heap.size ≤ j := by intro j hj; simp at hj; omega
  have s1 := HB1.out.size
  have s2 := T2.out.size
  have s3 := T3.out.size
  have s4 := T4.out.size
  have s5 := B5.out.size
  have s6 := B6.out.size
  have s7 := T7.out.size
  have s8 := B8.out.size
  exact (((((((HB1.out.trans (T2.out.below (by omega) hL)).trans (T3.out.below (by omega) hL)).trans (T4.out.below (by omega) hL)).trans (B5.out.mono (by omega))).trans (B6.out.mono (by omega))).trans (T7.out.below (by omega) hL)).trans (B8.out.mono (by omega))).trans (B9.out.mono (by omega))
end Go.Proofs.Ytclfklpekkkkfaa
