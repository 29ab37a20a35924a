/-
  WALKS: Count, Run, First, Longest, and the statements' own early. Conditions: strings of at most 1000000000000000 bytes, integers of an int64.
-/
import Derived.Test.YtcoahdifjkmelaaIs
namespace Go.Proofs.Ytcoahdifjkmelaa
open Go.RowKit

theorem is_nat (b : Bool) (m : ByteArray) (k : Nat) (w : World) (hm : m.size ≤ 1000000000000000) (hk : (k : Int) ≤ 9223372036854775807) (h : bitN m k = b) :
    Calls Try.prog 8 #[.string m, .int .i64 (k : Int)] w fun e w' => e = .returned (.bool b) ∧ Drew w w' := by
  rw [← h, ← isB_nat]; exact is_any m k w hm ⟨by omega, hk⟩

set_option maxHeartbeats 1000000 in
theorem count_any (m : ByteArray) (n : Int) (w : World) (hm : m.size ≤ 1000000000000000) (hn : -9223372036854775808 ≤ n ∧ n ≤ 9223372036854775807) :
    Calls Try.prog 12 #[.string m, .int .i64 n] w fun e w' => e = .returned (.int .i64 (cntR m n)) ∧ Drew w w' := by
  have HR : Hid (cntR m n = (cnt m (min n 100000).toNat : Nat)) := by show _ = _; rfl
  go_enter Try.func12, Try.ntmps12
  go_wp2
  all_goals
    go_loopw [5, 6, 9] (fun t _ i wr => ∃ k : Nat, (k : Int) ≤ max (min n 100000) 0 ∧ i = .int .i64 (k : Int) ∧ t = .int .i64 ((cnt m k : Nat) : Int) ∧ Drew w wr) (fun _ _ i _ => 100000 - (intOf i).toNat)
    case atStart => exact ⟨0, by omega, rfl, rfl, Drew.refl _⟩
    case round =>
      obtain ⟨k, hk, rfl, rfl, hd⟩ := hrel
      have hc := cnt_le m k
      by_cases hlt : (k : Int) < min n 100000
      · have h1 : (k : Int) < n := by omega
        have h2 : (k : Int) < 100000 := by omega
        cases hb : bitN m k with
        | false =>
          have HS : Hid (cnt m (k + 1) = cnt m k) := by show _ = _; simp [cnt, hb]
          have HB := Lib.hid hb
          clear hb
          generalize cnt m k = c at *
          go_wp2_with fail
          refine (is_nat false m k wr hm (by omega) HB.out).mono ?_
          rintro e w' ⟨rfl, hd'⟩
          go_wp2
          go_roundw
          case rel => exact ⟨k + 1, by omega, by go_num, by rw [HS.out], hd.trans hd'⟩
          case measure => simp [intOf]; omega
        | true =>
          have HS : Hid (cnt m (k + 1) = cnt m k + 1) := by show _ = _; simp [cnt, hb]
          have HB := Lib.hid hb
          clear hb
          generalize cnt m k = c at *
          go_wp2_with fail
          refine (is_nat true m k wr hm (by omega) HB.out).mono ?_
          rintro e w' ⟨rfl, hd'⟩
          go_wp2
          go_roundw
          case rel => exact ⟨k + 1, by omega, by go_num, by rw [HS.out]; go_num, hd.trans hd'⟩
          case measure => simp [intOf]; omega
      · first | (have hge : ¬ (k : Int) < 100000 := by omega) | (have hge : ¬ (k : Int) < n := by omega)
        have hke : (min n 100000).toNat = k := by omega
        have HE : Hid (cntR m n = (cnt m k : Nat)) := by show _ = _; rw [HR.out, hke]
        clear hke
        go_wp2
        go_ret
        exact ⟨ret_int HE.out.symm, hd⟩

theorem runGo_one {m : ByteArray} {f len fuel k z : Nat} (h : bitN m (f + k) = true) : runGo m f len (fuel + 1) k z = runGo m f len fuel (k + 1) 0 := by rw [runGo, if_pos h]
theorem runGo_hit {m : ByteArray} {f len fuel k z : Nat} (h : bitN m (f + k) = false) (he : z + 1 = len) : runGo m f len (fuel + 1) k z = some (f + k + 1 - len) := by rw [runGo, if_neg (by simp [h]), if_pos he]
theorem runGo_zero {m : ByteArray} {f len fuel k z : Nat} (h : bitN m (f + k) = false) (he : z + 1 ≠ len) : runGo m f len (fuel + 1) k z = runGo m f len fuel (k + 1) (z + 1) := by rw [runGo, if_neg (by simp [h]), if_neg he]
theorem ret_int_bool {a b : Int} {c d : Bool} (h : a = b) (h' : c = d) : Ending.returned (.tuple #[.int .i64 a, .bool c]) = .returned (.tuple #[.int .i64 b, .bool d]) := by rw [h, h']
theorem endN_le (m : ByteArray) (n : Int) : endN m n ≤ 8 * m.size := by unfold endN; omega

set_option maxHeartbeats 1000000 in
theorem run_pos (m : ByteArray) (F : Nat) (n : Int) (L : Nat) (w : World) (hm : m.size ≤ 1000000000000) (hFb : (F : Int) ≤ 9223372036854775807)
    (hn : -9223372036854775808 ≤ n ∧ n ≤ 9223372036854775807) (hl : (L : Int) ≤ 9223372036854775807) (hL1 : 1 ≤ L) :
    Calls Try.prog 14 #[.string m, .int .i64 (F : Int), .int .i64 n, .int .i64 (L : Int)] w fun e w' => e = .returned (.tuple #[.int .i64 (runI (runGo m F L (endN m n - F) 0 0)), .bool (runB (runGo m F L (endN m n - F) 0 0))]) ∧ Drew w w' := by
  have hE := endN_le m n
  have HE := Lib.hid (end_any m n w (by omega) hn)
  generalize endN m n = E at *
  obtain ⟨res, hres⟩ : ∃ res, res = runGo m F L (E - F) 0 0 := ⟨_, rfl⟩
  rw [← hres]
  have HR := Lib.hid hres
  clear hres
  go_enter Try.func14, Try.ntmps14
  go_wp2_with fail
  refine HE.out.mono ?_
  rintro e w' ⟨rfl, rfl⟩
  go_wp2
  go_loopw [10, 11, 12, 22] (fun z _ _ i wr => ∃ k zn : Nat, k ≤ E - F ∧ i = .int .i64 (k : Int) ∧ z = .int .i64 (zn : Int) ∧ zn ≤ k ∧ zn < L ∧ Hid (res = runGo m F L (E - F - k) k zn) ∧ Drew w wr) (fun _ _ _ i _ => E - (intOf i).toNat)
  case atStart => exact ⟨0, 0, by omega, rfl, rfl, by omega, by omega, HR, Drew.refl _⟩
  case round =>
    obtain ⟨k, zn, hk, rfl, rfl, hz, hzL, HG, hd⟩ := hrel
    by_cases hlt : k < E - F
    · have h2 : decide ((k : Int) < (E : Int) - F) = true := by simp; omega
      obtain ⟨fu, hfu⟩ : ∃ fu, E - F - k = fu + 1 := ⟨E - F - k - 1, by omega⟩
      have hfu2 : fu = E - F - (k + 1) := by omega
      have hFk : ((F + k : Nat) : Int) = (F : Int) + (k : Int) := by omega
      rw [hfu] at HG
      cases hb : bitN m (F + k) with
      | true =>
        have HS : Hid (res = runGo m F L (E - F - (k + 1)) (k + 1) 0) := by show _ = _; rw [HG.out, runGo_one hb, hfu2]
        have HI := Lib.hid (is_nat true m (F + k) wr (by omega) (by omega) hb)
        rw [hFk] at HI
        clear hb hfu hfu2 hFk HG
        go_wp2_with fail
        refine HI.out.mono ?_
        rintro e w' ⟨rfl, hd'⟩
        go_wp2
        go_roundw
        case rel => exact ⟨k + 1, 0, by omega, by go_num, rfl, by omega, by omega, HS, hd.trans hd'⟩
        case measure => simp [intOf]; omega
      | false =>
        have HI := Lib.hid (is_nat false m (F + k) wr (by omega) (by omega) hb)
        rw [hFk] at HI
        by_cases he : zn + 1 = L
        · have HS : Hid (res = some (F + k + 1 - L)) := by show _ = _; rw [HG.out, runGo_hit hb he]
          have hq : ((zn : Int) + 1 == (L : Int)) = true := by simp; omega
          have hle : L ≤ zn + 1 := by omega
          clear hb hfu hfu2 hFk HG he
          go_wp2_with fail
          refine HI.out.mono ?_
          rintro e w' ⟨rfl, hd'⟩
          go_wp2
          go_ret2
          rw [HS.out]
          exact ⟨ret_int_bool (by simp only [runI]; omega) rfl, hd.trans hd'⟩
        · have HS : Hid (res = runGo m F L (E - F - (k + 1)) (k + 1) (zn + 1)) := by show _ = _; rw [HG.out, runGo_zero hb he, hfu2]
          have hq : ((zn : Int) + 1 == (L : Int)) = false := by simp; omega
          have hz1 : zn + 1 < L := by omega
          clear hb hfu hfu2 hFk HG he
          go_wp2_with fail
          refine HI.out.mono ?_
          rintro e w' ⟨rfl, hd'⟩
          go_wp2
          go_roundw
          case rel => exact ⟨k + 1, zn + 1, by omega, by go_num, by go_num, by omega, by omega, HS, hd.trans hd'⟩
          case measure => simp [intOf]; omega
    · have h2 : decide ((k : Int) < (E : Int) - F) = false := by simp; omega
      have HN : Hid (res = none) := by show _ = _; rw [HG.out, show E - F - k = 0 by omega]; rfl
      clear HG
      go_wp2
      go_ret2
      rw [HN.out]
      exact ⟨rfl, hd⟩

set_option maxHeartbeats 1000000 in
theorem run_neg (m : ByteArray) (fr : Int) (n : Int) (L : Nat) (w : World) (hm : m.size ≤ 1000000000000) (hf : -9223372036854775808 ≤ fr ∧ fr < 0)
    (hn : -9223372036854775808 ≤ n ∧ n ≤ 9223372036854775807) (hl : (L : Int) ≤ 9223372036854775807) (hL1 : 1 ≤ L) :
    Calls Try.prog 14 #[.string m, .int .i64 fr, .int .i64 n, .int .i64 (L : Int)] w fun e w' => e = .returned (.tuple #[.int .i64 (runI (runGo m 0 L (endN m n - 0) 0 0)), .bool (runB (runGo m 0 L (endN m n - 0) 0 0))]) ∧ Drew w w' := by
  have hE := endN_le m n
  have HE := Lib.hid (end_any m n w (by omega) hn)
  generalize endN m n = E at *
  obtain ⟨res, hres⟩ : ∃ res, res = runGo m 0 L (E - 0) 0 0 := ⟨_, rfl⟩
  rw [← hres]
  have HR := Lib.hid hres
  clear hres
  go_enter Try.func14, Try.ntmps14
  go_wp2_with fail
  refine HE.out.mono ?_
  rintro e w' ⟨rfl, rfl⟩
  go_wp2
  go_loopw [10, 11, 12, 22] (fun z _ _ i wr => ∃ k zn : Nat, k ≤ E ∧ i = .int .i64 (k : Int) ∧ z = .int .i64 (zn : Int) ∧ zn ≤ k ∧ zn < L ∧ Hid (res = runGo m 0 L (E - k) k zn) ∧ Drew w wr) (fun _ _ _ i _ => E - (intOf i).toNat)
  case atStart => exact ⟨0, 0, by omega, rfl, rfl, by omega, by omega, HR, Drew.refl _⟩
  case round =>
    obtain ⟨k, zn, hk, rfl, rfl, hz, hzL, HG, hd⟩ := hrel
    by_cases hlt : k < E
    · have h2 : decide (k < E) = true := by simp; omega
      obtain ⟨fu, hfu⟩ : ∃ fu, E - k = fu + 1 := ⟨E - k - 1, by omega⟩
      have hfu2 : fu = E - (k + 1) := by omega
      have hFk : 0 + k = k := by omega
      rw [hfu] at HG
      cases hb : bitN m (0 + k) with
      | true =>
        have HS : Hid (res = runGo m 0 L (E - (k + 1)) (k + 1) 0) := by show _ = _; rw [HG.out, runGo_one hb, hfu2]
        have HI := Lib.hid (is_nat true m (0 + k) wr (by omega) (by omega) hb)
        rw [hFk] at HI
        clear hb hfu hfu2 hFk HG
        go_wp2_with fail
        refine HI.out.mono ?_
        rintro e w' ⟨rfl, hd'⟩
        go_wp2
        go_roundw
        case rel => exact ⟨k + 1, 0, by omega, by go_num, rfl, by omega, by omega, HS, hd.trans hd'⟩
        case measure => simp [intOf]; omega
      | false =>
        have HI := Lib.hid (is_nat false m (0 + k) wr (by omega) (by omega) hb)
        rw [hFk] at HI
        by_cases he : zn + 1 = L
        · have HS : Hid (res = some (0 + k + 1 - L)) := by show _ = _; rw [HG.out, runGo_hit hb he]
          have hq : ((zn : Int) + 1 == (L : Int)) = true := by simp; omega
          have hle : L ≤ zn + 1 := by omega
          clear hb hfu hfu2 hFk HG he
          go_wp2_with fail
          refine HI.out.mono ?_
          rintro e w' ⟨rfl, hd'⟩
          go_wp2
          go_ret2
          rw [HS.out]
          exact ⟨ret_int_bool (by simp only [runI]; omega) rfl, hd.trans hd'⟩
        · have HS : Hid (res = runGo m 0 L (E - (k + 1)) (k + 1) (zn + 1)) := by show _ = _; rw [HG.out, runGo_zero hb he, hfu2]
          have hq : ((zn : Int) + 1 == (L : Int)) = false := by simp; omega
          have hz1 : zn + 1 < L := by omega
          clear hb hfu hfu2 hFk HG he
          go_wp2_with fail
          refine HI.out.mono ?_
          rintro e w' ⟨rfl, hd'⟩
          go_wp2
          go_roundw
          case rel => exact ⟨k + 1, zn + 1, by omega, by go_num, by go_num, by omega, by omega, HS, hd.trans hd'⟩
          case measure => simp [intOf]; omega
    · have h2 : decide (k < E) = false := by simp; omega
      have HN : Hid (res = none) := by show _ = _; rw [HG.out, show E - k = 0 by omega]; rfl
      clear HG
      go_wp2
      go_ret2
      rw [HN.out]
      exact ⟨rfl, hd⟩

set_option maxHeartbeats 1000000 in
theorem run_any (m : ByteArray) (fr n len : Int) (w : World) (hm : m.size ≤ 1000000000000) (hf : -9223372036854775808 ≤ fr ∧ fr ≤ 9223372036854775807)
    (hn : -9223372036854775808 ≤ n ∧ n ≤ 9223372036854775807) (hl : -9223372036854775808 ≤ len ∧ len ≤ 9223372036854775807) :
    Calls Try.prog 14 #[.string m, .int .i64 fr, .int .i64 n, .int .i64 len] w fun e w' => e = .returned (.tuple #[.int .i64 (runI (runR m fr n len)), .bool (runB (runR m fr n len))]) ∧ Drew w w' := by
  by_cases h1 : len < 1
  · have HR : Hid (runR m fr n len = none) := by show _ = _; unfold runR; rw [if_pos h1]
    go_enter Try.func14, Try.ntmps14
    go_wp2
    go_ret2
    rw [HR.out]
    exact ⟨rfl, Drew.refl _⟩
  · unfold runR
    rw [if_neg h1]
    obtain ⟨L, rfl⟩ : ∃ L : Nat, len = (L : Int) := ⟨len.toNat, by omega⟩
    rw [Int.toNat_natCast]
    by_cases h0 : 0 ≤ fr
    · obtain ⟨F, rfl⟩ := Int.eq_ofNat_of_zero_le h0
      exact run_pos m F n L w hm hf.2 hn hl.2 (by omega)
    · rw [show fr.toNat = 0 by omega]
      exact run_neg m fr n L w hm (by omega) hn hl.2 (by omega)

set_option maxHeartbeats 1000000 in
theorem first_any (m : ByteArray) (fr n : Int) (w : World) (hm : m.size ≤ 1000000000000) (hf : -9223372036854775808 ≤ fr ∧ fr ≤ 9223372036854775807)
    (hn : -9223372036854775808 ≤ n ∧ n ≤ 9223372036854775807) :
    Calls Try.prog 16 #[.string m, .int .i64 fr, .int .i64 n] w fun e w' => e = .returned (.tuple #[.int .i64 (runI (runR m fr n 1)), .bool (runB (runR m fr n 1))]) ∧ Drew w w' := by
  have HC := Lib.hid (run_any m fr n 1 w hm hf hn (by omega))
  generalize runI (runR m fr n 1) = a at *
  generalize runB (runR m fr n 1) = b at *
  go_enter Try.func16, Try.ntmps16
  go_wp2_with fail
  refine HC.out.mono ?_
  rintro e w' ⟨rfl, hd⟩
  go_wp2
  go_ret2
  exact ⟨rfl, hd⟩

theorem lonGo_one {m : ByteArray} {fuel k st ln z : Nat} (h : bitN m k = true) : lonGo m (fuel + 1) k st ln z = lonGo m fuel (k + 1) st ln 0 := by rw [lonGo, if_pos h]
theorem lonGo_more {m : ByteArray} {fuel k st ln z : Nat} (h : bitN m k = false) (he : ln < z + 1) : lonGo m (fuel + 1) k st ln z = lonGo m fuel (k + 1) (k - z) (z + 1) (z + 1) := by rw [lonGo, if_neg (by simp [h]), if_pos he]
theorem lonGo_same {m : ByteArray} {fuel k st ln z : Nat} (h : bitN m k = false) (he : ¬ ln < z + 1) : lonGo m (fuel + 1) k st ln z = lonGo m fuel (k + 1) st ln (z + 1) := by rw [lonGo, if_neg (by simp [h]), if_neg he]

set_option maxHeartbeats 1000000 in
theorem longest_any (m : ByteArray) (n : Int) (w : World) (hm : m.size ≤ 1000000000000) (hn : -9223372036854775808 ≤ n ∧ n ≤ 9223372036854775807) :
    Calls Try.prog 15 #[.string m, .int .i64 n] w fun e w' => e = .returned (.tuple #[.int .i64 ((lonR m n).1 : Nat), .int .i64 ((lonR m n).2 : Nat)]) ∧ Drew w w' := by
  have HR : Hid (lonR m n = lonGo m (endN m n) 0 0 0 0) := by show _ = _; rfl
  have hE := endN_le m n
  have HE := Lib.hid (end_any m n w (by omega) hn)
  generalize lonR m n = res at *
  generalize endN m n = E at *
  go_enter Try.func15, Try.ntmps15
  go_wp2_with fail
  refine HE.out.mono ?_
  rintro e w' ⟨rfl, rfl⟩
  go_wp2
  go_loopw [6, 7, 8, 9, 13] (fun s l z _ i wr => ∃ k st ln zn : Nat, k ≤ E ∧ i = .int .i64 (k : Int) ∧ s = .int .i64 (st : Int) ∧ l = .int .i64 (ln : Int) ∧ z = .int .i64 (zn : Int) ∧ zn ≤ k ∧ ln ≤ k ∧ Hid (res = lonGo m (E - k) k st ln zn) ∧ Drew w wr) (fun _ _ _ _ i _ => E - (intOf i).toNat)
  case atStart => exact ⟨0, 0, 0, 0, by omega, rfl, rfl, rfl, rfl, by omega, by omega, HR, Drew.refl _⟩
  case round =>
    obtain ⟨k, st, ln, zn, hk, rfl, rfl, rfl, rfl, hz, hl, HG, hd⟩ := hrel
    by_cases hlt : k < E
    · obtain ⟨fu, hfu⟩ : ∃ fu, E - k = fu + 1 := ⟨E - k - 1, by omega⟩
      have hfu2 : fu = E - (k + 1) := by omega
      rw [hfu] at HG
      cases hb : bitN m k with
      | true =>
        have HS : Hid (res = lonGo m (E - (k + 1)) (k + 1) st ln 0) := by show _ = _; rw [HG.out, lonGo_one hb, hfu2]
        have HI := Lib.hid (is_nat true m k wr (by omega) (by omega) hb)
        clear hb hfu hfu2 HG
        go_wp2_with fail
        refine HI.out.mono ?_
        rintro e w' ⟨rfl, hd'⟩
        go_wp2
        go_roundw
        case rel => exact ⟨k + 1, st, ln, 0, by omega, by go_num, rfl, rfl, rfl, by omega, by omega, HS, hd.trans hd'⟩
        case measure => simp [intOf]; omega
      | false =>
        have HI := Lib.hid (is_nat false m k wr (by omega) (by omega) hb)
        by_cases he : ln < zn + 1
        · have HS : Hid (res = lonGo m (E - (k + 1)) (k + 1) (k - zn) (zn + 1) (zn + 1)) := by show _ = _; rw [HG.out, lonGo_more hb he, hfu2]
          have hq : (ln : Int) < (zn : Int) + 1 := by omega
          have hkz : (k : Int) - ((zn : Int) + 1) + 1 = ((k - zn : Nat) : Int) := by omega
          have HKZ := Lib.hid hkz
          clear hb hfu hfu2 HG he hkz
          go_wp2_with fail
          refine HI.out.mono ?_
          rintro e w' ⟨rfl, hd'⟩
          go_wp2
          go_roundw
          case rel => exact ⟨k + 1, k - zn, zn + 1, zn + 1, by omega, by go_num, by rw [← HKZ.out], by go_num, by go_num, by omega, by omega, HS, hd.trans hd'⟩
          case measure => simp [intOf]; omega
        · have HS : Hid (res = lonGo m (E - (k + 1)) (k + 1) st ln (zn + 1)) := by show _ = _; rw [HG.out, lonGo_same hb he, hfu2]
          have hq : ¬ (ln : Int) < (zn : Int) + 1 := by omega
          clear hb hfu hfu2 HG he
          go_wp2_with fail
          refine HI.out.mono ?_
          rintro e w' ⟨rfl, hd'⟩
          go_wp2
          go_roundw
          case rel => exact ⟨k + 1, st, ln, zn + 1, by omega, by go_num, rfl, rfl, by go_num, by omega, by omega, HS, hd.trans hd'⟩
          case measure => simp [intOf]; omega
    · have HN : Hid (res = (st, ln)) := by show _ = _; rw [HG.out, show E - k = 0 by omega]; rfl
      clear HG
      go_wp2
      go_ret2
      rw [HN.out]
      exact ⟨rfl, hd⟩

/-- The first 60 bytes. -/
def earlyS (m : ByteArray) : ByteArray := m.extract 0 (min m.size 60)
theorem early_size (m : ByteArray) : (earlyS m).size ≤ 60 := by unfold earlyS; rw [ByteArray.size_extract]; omega
set_option maxHeartbeats 400000 in
theorem early_any (m : ByteArray) (w : World) (hm : m.size ≤ 1000000000000000) :
    Calls Try.prog 7 #[.string m] w fun e w' => e = .returned (.string (earlyS m)) ∧ w = w' := by
  by_cases h : m.size ≤ 60
  · have HE : Hid (earlyS m = m) := by show _ = _; unfold earlyS; rw [Nat.min_eq_left h]; exact ByteArray.extract_zero_size
    go_enter Try.func7, Try.ntmps7
    go_wp2
    all_goals go_ret
    all_goals (rw [HE.out]; exact ⟨rfl, rfl⟩)
  · have HE : Hid (earlyS m = m.extract 0 60) := by show _ = _; unfold earlyS; rw [Nat.min_eq_right (by omega)]
    go_enter Try.func7, Try.ntmps7
    go_wp2
    all_goals go_ret
    all_goals (rw [HE.out]; exact ⟨rfl, rfl⟩)
end Go.Proofs.Ytcoahdifjkmelaa
