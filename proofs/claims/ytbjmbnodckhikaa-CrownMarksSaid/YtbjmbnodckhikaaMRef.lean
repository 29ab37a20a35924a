/-
  WALKS: the reference's Is, Set and Count, and the statements' own lives. Conditions: strings of at most 1000000000000 bytes, integers of an int64.
-/
import Derived.Test.YtbjmbnodckhikaaMSet
namespace Go.Proofs.Ytbjmbnodckhikaa
open Go.RowKit

theorem bit_div (x j y : Nat) (h : y = x / 2 ^ j) : ((y : Int) % 2 == 1) = x.testBit j := by
  rw [Nat.testBit_eq_decide_div_mod_eq, ← h, Bool.eq_iff_iff]
  simp
  omega
theorem mask_mod (k : Nat) : maskI k = (2 : Int) ^ (k % 8) % 256 := by
  have hj : k % 8 = 0 ∨ k % 8 = 1 ∨ k % 8 = 2 ∨ k % 8 = 3 ∨ k % 8 = 4 ∨ k % 8 = 5 ∨ k % 8 = 6 ∨ k % 8 = 7 := by omega
  unfold maskI
  rcases hj with h | h | h | h | h | h | h | h <;> rw [h] <;> rfl
theorem halves (x j : Nat) : x / 2 ^ (j + 1) = x / 2 ^ j / 2 := by rw [Nat.pow_succ, Nat.div_div_eq_div_mul]

set_option maxHeartbeats 1000000 in
theorem ris_any (m : ByteArray) (i : Int) (w : World) (hm : m.size ≤ 1000000000000) (hi : -9223372036854775808 ≤ i ∧ i ≤ 9223372036854775807) :
    Calls Try.prog 44 #[.string m, .int .i64 i] w fun e w' => e = .returned (.bool (isB m i)) ∧ w = w' := by
  cases hx : exB m i with
  | false =>
    have HS := Lib.hid (isB_none hx)
    rcases exB_f hx with h | h
    · have d1 : decide (i < 0) = true := by simpa using h
      clear hx
      go_enter Try.func44, Try.ntmps44
      go_wp2
      go_ret
      exact ⟨ret_bool HS.out.symm, rfl⟩
    · have d1 : decide (i < 0) = false := by simp; omega
      have d2 : decide (8 * (m.size : Int) ≤ i) = true := by simp; omega
      clear hx h
      go_enter Try.func44, Try.ntmps44
      go_wp2
      go_ret
      exact ⟨ret_bool HS.out.symm, rfl⟩
  | true =>
    obtain ⟨h0, h1⟩ := exB_t hx
    obtain ⟨k, rfl⟩ := Int.eq_ofNat_of_zero_le h0
    have hk : k / 8 < m.size := by omega
    have d1 : decide ((k : Int) < 0) = false := by simp
    have d2 : decide (8 * (m.size : Int) ≤ (k : Int)) = false := by simp; omega
    have HB : Hid (isB m k = (m[k / 8]).toNat.testBit (k % 8)) := by show _ = _; rw [isB_nat, bitN, if_pos hk, byte_at m _ hk]
    have hxl : (m[k / 8]).toNat < 256 := (m[k / 8]).toNat_lt
    clear hx
    generalize hX : (m[k / 8]).toNat = x at *
    go_enter Try.func44, Try.ntmps44
    go_wp2
    go_loop [5, 6] (fun v i => ∃ t y : Nat, t ≤ k % 8 ∧ Hid (y = x / 2 ^ t) ∧ y < 256 ∧ i = .int .i64 (t : Int) ∧ v = .int .i64 (y : Int)) (fun _ i => 8 - (intOf i).toNat)
    case atStart => exact ⟨0, x, by omega, by show _ = _; simp, hxl, rfl, rfl⟩
    case round =>
      obtain ⟨t, y, ht, HY, hy, rfl, rfl⟩ := hrel
      by_cases hlt : t < k % 8
      · have HY2 : Hid (y / 2 = x / 2 ^ (t + 1)) := by show _ = _; rw [halves, ← HY.out]
        have h3 : (t : Int) < (k : Int) % 8 := by omega
        go_wp2
        go_round
        case rel => exact ⟨t + 1, y / 2, by omega, HY2, by omega, by go_num, by go_num⟩
        case measure => simp [intOf]; omega
      · have h3 : ¬ (t : Int) < (k : Int) % 8 := by omega
        have HF := Lib.hid (bit_div x (k % 8) y (by rw [HY.out, show t = k % 8 by omega]))
        go_wp2
        go_ret
        exact ⟨ret_bool (by rw [HB.out, HF.out]), rfl⟩

theorem ris_is (b : Bool) (m : ByteArray) (i : Int) (w : World) (hm : m.size ≤ 1000000000000) (hi : -9223372036854775808 ≤ i ∧ i ≤ 9223372036854775807) (h : isB m i = b) :
    Calls Try.prog 44 #[.string m, .int .i64 i] w fun e w' => e = .returned (.bool b) ∧ w = w' := by rw [← h]; exact ris_any m i w hm hi

set_option maxHeartbeats 1000000 in
theorem rset_any (m : ByteArray) (i : Int) (yes : Bool) (w : World) (hm : m.size ≤ 1000000000000) (hi : -9223372036854775808 ≤ i ∧ i ≤ 9223372036854775807) :
    Calls Try.prog 33 #[.string m, .int .i64 i, .bool yes] w fun e w' => e = .returned (.string (setR m i yes)) ∧ Below w.heap.size w w' := by
  cases hx : exB m i with
  | false =>
    have HS := Lib.hid (setR_none hx yes)
    rcases exB_f hx with h | h
    · have d1 : decide (i < 0) = true := by simpa using h
      clear hx
      go_enter Try.func33, Try.ntmps33
      go_wp2
      go_ret
      rw [HS.out]
      exact ⟨rfl, Below.refl _ _⟩
    · have d1 : decide (i < 0) = false := by simp; omega
      have d2 : decide (8 * (m.size : Int) ≤ i) = true := by simp; omega
      clear hx h
      go_enter Try.func33, Try.ntmps33
      go_wp2
      go_ret
      rw [HS.out]
      exact ⟨rfl, Below.refl _ _⟩
  | true =>
    obtain ⟨h0, h1⟩ := exB_t hx
    obtain ⟨k, rfl⟩ := Int.eq_ofNat_of_zero_le h0
    have hk : k / 8 < m.size := by omega
    have d1 : decide ((k : Int) < 0) = false := by simp
    have d2 : decide (8 * (m.size : Int) ≤ (k : Int)) = false := by simp; omega
    have HS := Lib.hid (setR_nat m k yes)
    have HI := fun b (h : bitN m k = b) => ris_is b m k w hm hi (by rw [isB_nat]; exact h)
    clear hx
    by_cases he : bitN m k = yes
    · have HE : Hid (setR m k yes = m) := by show _ = _; rw [HS.out]; exact setN_same m k yes he
      have HB := Lib.hid (HI yes he)
      have hyy : (yes == yes) = true := by simp
      clear HI he
      go_enter Try.func33, Try.ntmps33
      go_wp2_with fail
      refine HB.out.mono ?_
      rintro e w' ⟨rfl, rfl⟩
      go_wp2
      go_ret
      rw [HE.out]
      exact ⟨rfl, Below.refl _ _⟩
    · have he' : bitN m k = !yes := by cases yes <;> simp_all
      have HB := Lib.hid (HI _ he')
      have hyy : ((!yes) == yes) = false := by cases yes <;> rfl
      obtain ⟨W1, cap, hcv, hb1, hc1, hf1⟩ := bytes_new m w
      have hck := hc1 (k / 8) hk
      have hfk := hf1 (k / 8) hk
      have hbb : bitN m k = (byteN m (k / 8)).toNat.testBit (k % 8) := by unfold bitN; rw [if_pos hk]
      have hv : bits .xor .u8 ((byteN m (k / 8)).toNat : Int) (maskI k) = ((setByte (byteN m (k / 8)) (k % 8) yes).toNat : Int) := by
        have := byte_xor (byteN m (k / 8)) (k % 8) (by omega)
        rw [← hbb, he'] at this
        simpa [maskI] using this
      have hcs := set_cells m k yes _ hk hc1 hv
      have hcv2 := conv_back (W := (W1.setCell ⟨w.heap.size, k / 8, none⟩ (.int .u8 (bits .xor .u8 ((byteN m (k / 8)).toNat : Int) (maskI k))))) (cap := cap) (setN m k yes) hcs
      rw [size_setN] at hcv2
      have hb2 : Below w.heap.size w (W1.setCell ⟨w.heap.size, k / 8, none⟩ (.int .u8 (bits .xor .u8 ((byteN m (k / 8)).toNat : Int) (maskI k)))) := hb1.setCell (Nat.le_refl _) _
      rw [mask_mod] at hcv2 hb2
      have hd : (k : Int) / 8 < (m.size : Int) := by omega
      clear hv hcs hc1 hf1 hbb HI he he'
      generalize setN m k yes = R at *
      generalize (byteN m (k / 8)).toNat = x at *
      go_enter Try.func33, Try.ntmps33
      go_wp2_with fail
      refine HB.out.mono ?_
      rintro e w' ⟨rfl, rfl⟩
      go_wp2
      go_ret
      rw [HS.out]
      exact ⟨rfl, hb2⟩
end Go.Proofs.Ytbjmbnodckhikaa
