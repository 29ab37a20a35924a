/-
  WALKS: check, Fits, copied, pieces, Same. Conditions: at most 1000000000 elements.
-/
import Derived.Test.YtiknbbkblldjiaaSmall
namespace Go.Proofs.Ytiknbbkblldjiaa
open Go.RowKit

theorem tail_at {w : World} {A : Option Addr} {n B : Nat} (c : Nat) {zs : List Int} (hr : IntsAt w B A n zs) (hc : n ≤ c) (M : Nat) (hM : M = min n 76) : IntsAt w B (if c = M then A else Option.map (fun x => x.add M) A) (n - M) (zs.drop 76) := by
  have hl := hr.len
  by_cases h : n ≤ 76
  · rw [List.drop_eq_nil_of_le (by omega), show n - M = 0 by omega]
    exact IntsAt.nil _ _ _
  · obtain rfl : M = 76 := by omega
    obtain ⟨b, o, rfl, _, _⟩ := hr.at_ (k := 0) (by omega)
    rw [if_neg (by omega)]
    exact hr.drop 76 (by omega)

set_option maxHeartbeats 2000000 in
theorem check_true (A A' : Option Addr) (n c B : Nat) (zs : List Int) (w : World) (HA : Hid (IntsAt w B A n zs)) (hn : n ≤ 1000000000) (hc : n ≤ c) (HL : Hid (zs.length = n)) (HZ : Hid (zeroB (zs.drop 76) = true))
    (hA' : Hid ((if c = (min (n : Int) 76).toNat then A else Option.map (fun x => x.add (min (n : Int) 76).toNat) A) = A'))
    (HT : Hid (Calls Try.prog 26 #[.slice A' (n - (min (n : Int) 76).toNat) (c - (min (n : Int) 76).toNat)] w fun e w' => e = .returned (.bool true) ∧ w = w')) :
    Calls Try.prog 23 #[.slice A n c] w fun e w' => e = .returned (.int .i64 (fitsE zs)) ∧ w = w' := by
  go_enter Try.func23, Try.ntmps23
  go_wp2_with (go_at_call 26; rw [hA'.out]; refine HT.out.mono ?_; rintro e w' ⟨rfl, rfl⟩; clear hA')
  go_loop [14] (fun i => ∃ k : Nat, k ≤ n ∧ i = .int .i64 (k : Int) ∧ Hid (∀ j, j < k → 0 ≤ zs.getD j 0 ∧ zs.getD j 0 ≤ 65535)) (fun i => n - (intOf i).toNat)
  case atStart => exact ⟨0, by omega, rfl, fun j hj => absurd hj (Nat.not_lt_zero _)⟩
  case round =>
    obtain ⟨k, hk, rfl, hR⟩ := hrel
    clear HT
    by_cases hlt : k < n
    · obtain ⟨b, o, rfl, hbB, h1⟩ := HA.out.at_ hlt
      by_cases h0 : 0 ≤ zs.getD k 0 ∧ zs.getD k 0 ≤ 65535
      · have HN : Hid (∀ j, j < k + 1 → 0 ≤ zs.getD j 0 ∧ zs.getD j 0 ≤ 65535) := fun j hj => by
          by_cases e : j = k
          · subst e; exact h0
          · exact hR.out j (by omega)
        generalize zs.getD k 0 = z at *
        go_wp2
        go_round
        case rel => exact ⟨k + 1, by omega, by go_num, HN⟩
        case measure => simp [intOf]; omega
      · have HF := Lib.hid (fitsE_range HZ.out (rangeB_f (by rw [HL.out]; exact hlt) h0))
        generalize zs.getD k 0 = z at *
        by_cases h2 : z < 0
        · go_wp2
          go_ret
          exact ⟨ret_int HF.out.symm, rfl⟩
        · have h3 : 65535 < z := by omega
          go_wp2
          go_ret
          exact ⟨ret_int HF.out.symm, rfl⟩
    · have hkn : k = n := by omega
      subst hkn
      have HE := Lib.hid (fitsE_ok HZ.out (rangeB_t (zs := zs) (fun j hj => hR.out j (by rw [← HL.out]; exact hj))))
      go_wp2
      go_ret
      exact ⟨ret_int HE.out.symm, rfl⟩

set_option maxHeartbeats 2000000 in
theorem check_any (A : Option Addr) (n c B : Nat) (zs : List Int) (w : World) (hr : IntsAt w B A n zs) (hn : n ≤ 1000000000) (hc : n ≤ c) :
    Calls Try.prog 23 #[.slice A n c] w fun e w' => e = .returned (.int .i64 (fitsE zs)) ∧ w = w' := by
  have HL := Lib.hid hr.len
  have HA := Lib.hid hr
  cases hz : zeroB (zs.drop 76) with
  | false =>
    have HT := Lib.hid (fun w (h : IntsAt w B A n zs) => allZero_any false (if c = (min (n : Int) 76).toNat then A else Option.map (fun x => x.add (min (n : Int) 76).toNat) A) (n - (min (n : Int) 76).toNat) (c - (min (n : Int) 76).toNat) B (zs.drop 76) w (tail_at c h hc _ (by omega)) (by omega) hz)
    have HE := Lib.hid (fitsE_large hz)
    clear hr hz
    go_enter Try.func23, Try.ntmps23
    go_wp2_with (go_at_call 26; refine (HT.out _ HA.out).mono ?_; rintro e w' ⟨rfl, rfl⟩)
    all_goals
      go_ret
      exact ⟨ret_int HE.out.symm, rfl⟩
  | true =>
    exact check_true A _ n c B zs w HA hn hc HL hz (show _ = _ from rfl) (allZero_any true _ _ _ B (zs.drop 76) w (tail_at c hr hc _ (by omega)) (by omega) hz)

set_option maxHeartbeats 2000000 in
theorem rfits_any (A : Option Addr) (n c B : Nat) (zs : List Int) (w : World) (hr : IntsAt w B A n zs) (hn : n ≤ 1000000000) :
    Calls Try.prog 10 #[.slice A n c] w fun e w' => e = .returned (.int .i64 (fitsE zs)) ∧ w = w' := by
  have HL := Lib.hid hr.len
  have HA := Lib.hid hr
  clear hr
  go_enter Try.func10, Try.ntmps10
  go_wp2
  go_loop [3] (fun i => ∃ k : Nat, (k ≤ n ∨ k = 76) ∧ 76 ≤ k ∧ i = .int .i64 (k : Int) ∧ Hid (∀ j, 76 ≤ j → j < k → zs.getD j 0 = 0)) (fun i => n - (intOf i).toNat)
  case atStart => exact ⟨76, by omega, by omega, rfl, fun j hj hj2 => absurd hj2 (by omega)⟩
  case round =>
    obtain ⟨k, hk, hk6, rfl, hz⟩ := hrel
    by_cases hlt : k < n
    · obtain ⟨b, o, rfl, hbB, h1⟩ := HA.out.at_ hlt
      by_cases h0 : zs.getD k 0 = 0
      · have HN : Hid (∀ j, 76 ≤ j → j < k + 1 → zs.getD j 0 = 0) := fun j h6 hj => by
          by_cases e : j = k
          · subst e; exact h0
          · exact hz.out j h6 (by omega)
        rw [h0] at h1
        clear h0
        go_wp2
        go_round
        case rel => exact ⟨k + 1, by omega, by omega, by go_num, HN⟩
        case measure => simp [intOf]; omega
      · have HF : Hid (fitsE zs = 12) := fitsE_large (zeroB_f (k := k - 76) (by rw [List.length_drop, HL.out]; omega) (by rw [drop_getD, show 76 + (k - 76) = k by omega]; exact h0))
        generalize zs.getD k 0 = z at *
        have h0' : (z != 0) = true := bne_iff_ne.2 h0
        go_wp2
        go_ret
        exact ⟨ret_int HF.out.symm, rfl⟩
    · have HZ : Hid (zeroB (zs.drop 76) = true) := zeroB_t (fun j hj => by
        rw [List.length_drop, HL.out] at hj
        rw [drop_getD]
        exact hz.out _ (by omega) (by omega))
      clear hz hk
      go_wp2
      go_loop [4] (fun i => ∃ k : Nat, k ≤ n ∧ i = .int .i64 (k : Int) ∧ Hid (∀ j, j < k → 0 ≤ zs.getD j 0 ∧ zs.getD j 0 ≤ 65535)) (fun i => n - (intOf i).toNat)
      case atStart => exact ⟨0, by omega, rfl, fun j hj => absurd hj (Nat.not_lt_zero _)⟩
      case round =>
        obtain ⟨k, hk, rfl, hR⟩ := hrel
        by_cases hlt : k < n
        · obtain ⟨b, o, rfl, hbB, h1⟩ := HA.out.at_ hlt
          by_cases h0 : 0 ≤ zs.getD k 0 ∧ zs.getD k 0 ≤ 65535
          · have HN : Hid (∀ j, j < k + 1 → 0 ≤ zs.getD j 0 ∧ zs.getD j 0 ≤ 65535) := fun j hj => by
              by_cases e : j = k
              · subst e; exact h0
              · exact hR.out j (by omega)
            generalize zs.getD k 0 = z at *
            go_wp2
            go_round
            case rel => exact ⟨k + 1, by omega, by go_num, HN⟩
            case measure => simp [intOf]; omega
          · have HF := Lib.hid (fitsE_range HZ.out (rangeB_f (by rw [HL.out]; exact hlt) h0))
            generalize zs.getD k 0 = z at *
            by_cases h2 : z < 0
            · go_wp2
              go_ret
              exact ⟨ret_int HF.out.symm, rfl⟩
            · have h3 : 65535 < z := by omega
              go_wp2
              go_ret
              exact ⟨ret_int HF.out.symm, rfl⟩
        · have hkn : k = n := by omega
          subst hkn
          have HE := Lib.hid (fitsE_ok HZ.out (rangeB_t (zs := zs) (fun j hj => hR.out j (by rw [← HL.out]; exact hj))))
          go_wp2
          go_ret
          exact ⟨ret_int HE.out.symm, rfl⟩
end Go.Proofs.Ytiknbbkblldjiaa
