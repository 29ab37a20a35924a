/-
  WALKS: allZero, check, copied, Place, pieces, and of the reference: at, Fits, Same. Conditions: at most 1000000000000000 elements (400 for check and Fits, 1000 for copied).
-/
import Derived.Test.YtiknbbkblldjiaaMem
import Derived.Deep.QuietTactic
import Derived.BigQuiet
import Derived.OwnWalk
namespace Go.Proofs.Ytiknbbkblldjiaa
open Go.RowKit

theorem Drew.trans {a b c : World} (h : Drew a b) (k : Drew b c) : Drew a c := by
  obtain ⟨n, rfl⟩ := h
  obtain ⟨m, rfl⟩ := k
  exact ⟨n + m, World.drewN_drewN _ _ _⟩
theorem Drew.cells {a b : World} (h : Drew a b) (p : Addr) : b.cell? p = a.cell? p := by
  obtain ⟨n, rfl⟩ := h
  rfl

/-! ### plain -/
def zeroB (zs : List Int) : Bool := decide (∀ k, k < zs.length → zs.getD k 0 = 0)
theorem zeroB_t {zs : List Int} (h : ∀ k, k < zs.length → zs.getD k 0 = 0) : zeroB zs = true := by simpa [zeroB] using h
theorem zeroB_f {zs : List Int} {k : Nat} (hk : k < zs.length) (h : zs.getD k 0 ≠ 0) : zeroB zs = false := by
  unfold zeroB
  exact decide_eq_false (fun h' => h (h' k hk))
def rangeB (zs : List Int) : Bool := decide (∀ k, k < zs.length → 0 ≤ zs.getD k 0 ∧ zs.getD k 0 ≤ 65535)
theorem rangeB_t {zs : List Int} (h : ∀ k, k < zs.length → 0 ≤ zs.getD k 0 ∧ zs.getD k 0 ≤ 65535) : rangeB zs = true := decide_eq_true h
theorem rangeB_f {zs : List Int} {k : Nat} (hk : k < zs.length) (h : ¬ (0 ≤ zs.getD k 0 ∧ zs.getD k 0 ≤ 65535)) : rangeB zs = false := decide_eq_false (fun h' => h (h' k hk))
/-- why a map may not be told. -/
def fitsE (zs : List Int) : Int := if zeroB (zs.drop 76) = true then (if rangeB zs = true then 0 else 3) else 12
theorem fitsE_large {zs : List Int} (h : zeroB (zs.drop 76) = false) : fitsE zs = 12 := by unfold fitsE; rw [h]; rfl
theorem fitsE_range {zs : List Int} (h : zeroB (zs.drop 76) = true) (h2 : rangeB zs = false) : fitsE zs = 3 := by unfold fitsE; rw [h, h2]; rfl
theorem fitsE_ok {zs : List Int} (h : zeroB (zs.drop 76) = true) (h2 : rangeB zs = true) : fitsE zs = 0 := by unfold fitsE; rw [h, h2]; rfl
def placeK (i : Int) : Int × Int × Int :=
  if i < 0 ∨ 76 ≤ i then (-1, 0, 0) else if i < 4 then (0, i, 0) else if i < 12 then (1, i - 4, 0) else (2, (i - 12) / 8, (i - 12) % 8)
theorem drop_getD (zs : List Int) (m k : Nat) : (zs.drop m).getD k 0 = zs.getD (m + k) 0 := by simp [List.getD]

/-! ### walks -/
set_option maxHeartbeats 1000000 in
theorem allZero_any (b : Bool) (A : Option Addr) (n c B : Nat) (zs : List Int) (w : World) (hr : IntsAt w B A n zs) (hn : n ≤ 1000000000000000) (hb : zeroB zs = b) :
    Calls Try.prog 26 #[.slice A n c] w fun e w' => e = .returned (.bool b) ∧ w = w' := by
  have HL := Lib.hid hr.len
  have HA := Lib.hid hr
  have HB := Lib.hid hb
  clear hr hb
  go_enter Try.func26, Try.ntmps26
  go_wp2
  go_loop [4, 7] (fun _ i => ∃ k : Nat, k ≤ n ∧ i = .int .i64 (k : Int) ∧ Hid (∀ j, j < k → zs.getD j 0 = 0)) (fun _ i => n - (intOf i).toNat)
  case atStart => exact ⟨0, by omega, rfl, fun j hj => absurd hj (Nat.not_lt_zero _)⟩
  case round =>
    obtain ⟨k, hk, rfl, hz⟩ := hrel
    by_cases hlt : k < n
    · obtain ⟨b, o, rfl, hbB, h1⟩ := HA.out.at_ hlt
      by_cases h0 : zs.getD k 0 = 0
      · have HZ : Hid (∀ j, j < k + 1 → zs.getD j 0 = 0) := fun j hj => by
          by_cases e : j = k
          · subst e; exact h0
          · exact hz.out j (by omega)
        rw [h0] at h1
        clear h0
        go_wp2
        go_round
        case rel => exact ⟨k + 1, by omega, by go_num, HZ⟩
        case measure => simp [intOf]; omega
      · have HF := Lib.hid (zeroB_f (by rw [HL.out]; exact hlt) h0)
        generalize zs.getD k 0 = z at *
        have h0' : (z != 0) = true := bne_iff_ne.2 h0
        go_wp2
        go_ret
        exact ⟨ret_bool (by rw [← HB.out, HF.out]), rfl⟩
    · have hkn : k = n := by omega
      subst hkn
      have HT := Lib.hid (zeroB_t (zs := zs) (fun j hj => hz.out j (by rw [← HL.out]; exact hj)))
      go_wp2
      go_ret
      exact ⟨ret_bool (by rw [← HB.out, HT.out]), rfl⟩

set_option maxHeartbeats 1000000 in
theorem at_any (A : Option Addr) (n c B : Nat) (zs : List Int) (i : Nat) (w : World) (hr : IntsAt w B A n zs) (_hn : n ≤ 1000000000000000) (hi : i ≤ 1000000) :
    Calls Try.prog 27 #[.slice A n c, .int .i64 (i : Int)] w fun e w' => e = .returned (.int .i64 (zs.getD i 0)) ∧ w = w' := by
  by_cases hlt : i < n
  · obtain ⟨b, o, rfl, hbB, h1⟩ := hr.at_ hlt
    generalize zs.getD i 0 = z at *
    go_enter Try.func27, Try.ntmps27
    go_wp2
    go_ret
    exact ⟨rfl, rfl⟩
  · have e : zs.getD i 0 = 0 := by
      have := hr.len
      simp [List.getD, List.getElem?_eq_none (show zs.length ≤ i by omega)]
    rw [e]
    go_enter Try.func27, Try.ntmps27
    go_wp2
    go_ret
    exact ⟨rfl, rfl⟩

set_option maxHeartbeats 1000000 in
theorem place_any (i : Int) (w : World) (hi : Fit i) :
    Calls Try.prog 18 #[.int .i64 i] w fun e w' => e = .returned (.tuple #[.int .i64 (placeK i).1, .int .i64 (placeK i).2.1, .int .i64 (placeK i).2.2]) ∧ w = w' := by
  have HP : Hid (placeK i = if i < 0 ∨ 76 ≤ i then (-1, 0, 0) else if i < 4 then (0, i, 0) else if i < 12 then (1, i - 4, 0) else (2, (i - 12) / 8, (i - 12) % 8)) := by show _ = _; rfl
  generalize placeK i = p at *
  have e1 : ∀ h : i < 0 ∨ 76 ≤ i, p = (-1, 0, 0) := fun h => by rw [HP.out, if_pos h]
  have e2 : ∀ (h : ¬ (i < 0 ∨ 76 ≤ i)) (h2 : i < 4), p = (0, i, 0) := fun h h2 => by rw [HP.out, if_neg h, if_pos h2]
  have e3 : ∀ (h : ¬ (i < 0 ∨ 76 ≤ i)) (h2 : ¬ i < 4) (h3 : i < 12), p = (1, i - 4, 0) := fun h h2 h3 => by rw [HP.out, if_neg h, if_neg h2, if_pos h3]
  have e4 : ∀ (h : ¬ (i < 0 ∨ 76 ≤ i)) (h2 : ¬ i < 4) (h3 : ¬ i < 12), p = (2, (i - 12) / 8, (i - 12) % 8) := fun h h2 h3 => by rw [HP.out, if_neg h, if_neg h2, if_neg h3]
  have E1 := Lib.hid e1
  have E2 := Lib.hid e2
  have E3 := Lib.hid e3
  have E4 := Lib.hid e4
  clear e1 e2 e3 e4 HP
  by_cases c1 : i < 0
  · rw [E1.out (Or.inl c1)]
    go_enter Try.func18, Try.ntmps18
    go_wp2
    go_ret3
    exact ⟨rfl, rfl⟩
  · by_cases c2 : 76 ≤ i
    · rw [E1.out (Or.inr c2)]
      go_enter Try.func18, Try.ntmps18
      go_wp2
      go_ret3
      exact ⟨rfl, rfl⟩
    · by_cases c3 : i < 4
      · rw [E2.out (by omega) c3]
        go_enter Try.func18, Try.ntmps18
        go_wp2
        go_ret3
        exact ⟨rfl, rfl⟩
      · by_cases c4 : i < 12
        · rw [E3.out (by omega) c3 c4]
          go_enter Try.func18, Try.ntmps18
          go_wp2
          go_ret3
          exact ⟨rfl, rfl⟩
        · rw [E4.out (by omega) c3 c4]
          obtain ⟨m, hm⟩ : ∃ m : Nat, (m : Int) = i - 12 := ⟨(i - 12).toNat, by omega⟩
          have hm2 : m < 64 := by omega
          obtain rfl : i = (m : Int) + 12 := by omega
          have ea : (m : Int) + 12 - 12 = (m : Int) := by omega
          rw [ea]
          clear E1 E2 E3 E4 ea hm hi c1 c2 c3 c4
          go_enter Try.func18, Try.ntmps18
          go_wp2
          go_ret3
          exact ⟨rfl, rfl⟩
end Go.Proofs.Ytiknbbkblldjiaa
