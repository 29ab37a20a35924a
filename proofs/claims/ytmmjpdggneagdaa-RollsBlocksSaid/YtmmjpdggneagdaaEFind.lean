/-
  WALKS: Find, the reference's Find and Same, early. Conditions: at most 100000 entries.
-/
import Derived.Test.YtmmjpdggneagdaaESmall
namespace Go.Proofs.Ytmmjpdggneagdaa
open Go.RowKit

theorem findR_neg {l : List En} {s : ByteArray} (h : placeR l s < 0) : findR l s = (0, false) := by unfold findR; rw [if_pos h]
theorem findR_pos {l : List En} {s : ByteArray} {k : Nat} (h : placeR l s = k) : findR l s = ((l.getD k En.z).nd, true) := by
  unfold findR; rw [if_neg (by omega), h]; rfl

set_option maxHeartbeats 1000000 in
theorem find_any (A : Option Addr) (n c B : Nat) (l : List En) (t : ByteArray) (w : World) (hA : EnsAt w B A n l) (hB : B ≤ w.heap.size) (hn : n ≤ 100000) :
    Calls Try.prog 10 #[.slice A n c, .string t] w fun e w' => e = .returned (.tuple #[.int .i64 (findR l t).1, .bool (findR l t).2]) ∧ Below w.heap.size w w' := by
  have HA := Lib.hid hA
  have HP := Lib.hid (place_any A n c B l t w hA hB hn)
  clear hA
  by_cases hp : placeR l t < 0
  · have HR := Lib.hid (findR_neg hp)
    have d1 : decide (placeR l t < 0) = true := by simpa using hp
    clear hp
    generalize placeR l t = z at *
    go_enter Try.func10, Try.ntmps10
    go_wp2_with fail
    refine HP.out.mono ?_
    rintro e w1 ⟨rfl, b1⟩
    go_wp2
    go_ret2
    exact ⟨by rw [HR.out]; rfl, b1⟩
  · obtain ⟨k, hk, hpk, -, -, -⟩ := place_pos hp
    have HR := Lib.hid (findR_pos hpk)
    rw [HA.out.len] at hk
    obtain ⟨b, o, rfl, hbB, h1, h2⟩ := HA.out.at_ hk
    rw [hpk] at HP
    clear hp hpk h1
    generalize (l.getD k En.z).nd = z at *
    have HC := Lib.hid h2
    clear h2
    have x1 : (0 : Int) ≤ (k : Int) := by omega
    have x2 : (k : Int) < (n : Int) := by omega
    go_enter Try.func10, Try.ntmps10
    go_wp2_with fail
    refine HP.out.mono ?_
    rintro e w1 ⟨rfl, b1⟩
    have c2 := bcell b1 HC.out (by show b < _; omega)
    go_wp2
    go_ret2
    exact ⟨by rw [HR.out]; rfl, b1⟩

set_option maxHeartbeats 2000000 in
theorem rfind_any (A : Option Addr) (n c B : Nat) (l : List En) (t : ByteArray) (w : World) (hA : EnsAt w B A n l) (hn : n ≤ 100000) (ht : t.size ≤ 9223372036854775807) :
    Calls Try.prog 11 #[.slice A n c, .string t] w fun e w' => e = .returned (.tuple #[.int .i64 (findR l t).1, .bool (findR l t).2]) ∧ w = w' := by
  have HL := Lib.hid hA.len
  have HA := Lib.hid hA
  clear hA
  have HC := Lib.hid (fun w => rright_any t w ht)
  cases hr : rightB t with
  | false =>
    have HR : Hid (findR l t = (0, false)) := findR_neg (by unfold placeR; rw [hr, if_neg (by decide)]; decide)
    rw [hr] at HC
    clear hr
    go_enter Try.func11, Try.ntmps11
    go_wp2_with fail
    refine (HC.out _).mono ?_
    rintro e w1 ⟨rfl, rfl⟩
    go_wp2
    go_ret2
    exact ⟨by rw [HR.out]; rfl, rfl⟩
  | true =>
    have HPL : Hid (placeR l t = idx (fun e => eqB e.nm t) l) := by show _ = _; unfold placeR; rw [hr]; rfl
    rw [hr] at HC
    clear hr
    go_enter Try.func11, Try.ntmps11
    go_wp2_with fail
    refine (HC.out _).mono ?_
    rintro e w1 ⟨rfl, rfl⟩
    go_wp2
    go_loop [6] (fun i => ∃ k : Nat, k ≤ n ∧ i = .int .i64 (k : Int) ∧ Hid (∀ j, j < k → (fun e : En => eqB e.nm t) (l.getD j En.z) = false)) (fun i => n - (intOf i).toNat)
    case atStart => exact ⟨0, by omega, rfl, fun j hj => absurd hj (Nat.not_lt_zero _)⟩
    case round =>
      obtain ⟨k, hk, rfl, hok⟩ := hrel
      by_cases hlt : k < n
      · obtain ⟨b, o, rfl, hbB, h1, h2⟩ := HA.out.at_ hlt
        cases hv : eqB (l.getD k En.z).nm t with
        | true =>
          have HR := Lib.hid (findR_pos (HPL.out.trans (idx_found (p := fun e => eqB e.nm t) (l := l) (k := k) (by rw [HL.out]; exact hlt) hok.out hv)))
          have hv' : ((l.getD k En.z).nm.toList == t.toList) = true := hv
          clear hv
          generalize l.getD k En.z = x at *
          obtain ⟨s, z⟩ := x
          simp only at h1 h2 HR hv'
          go_wp2
          go_ret2
          exact ⟨by rw [HR.out]; rfl, rfl⟩
        | false =>
          have HV := Lib.hid hv
          have hv' : ((l.getD k En.z).nm.toList == t.toList) = false := hv
          clear hv
          generalize hX : l.getD k En.z = x at *
          have HX := Lib.hid hX
          clear hX
          obtain ⟨s, z⟩ := x
          simp only at h1 h2 HV hv'
          go_wp2
          go_round
          case rel => exact ⟨k + 1, by omega, by go_num, fun j hj => by
            rcases Nat.lt_or_ge j k with h' | h'
            · exact hok.out j h'
            · obtain rfl : j = k := by omega
              show eqB (l.getD j En.z).nm t = false
              rw [HX.out]; exact HV.out⟩
          case measure => simp [intOf]; omega
      · have HR : Hid (findR l t = (0, false)) := findR_neg (by rw [HPL.out, idx_none (p := fun e => eqB e.nm t) (l := l) (fun j hj => hok.out j (by rw [HL.out] at hj; omega))]; omega)
        go_wp2
        go_ret2
        exact ⟨by rw [HR.out]; rfl, rfl⟩

set_option maxHeartbeats 1000000 in
theorem same_any (A A' : Option Addr) (n c c' B B' : Nat) (l : List En) (w : World) (hA : EnsAt w B A n l) (hA' : EnsAt w B' A' n l) (hn : n ≤ 100000) :
    Calls Try.prog 14 #[.slice A n c, .slice A' n c'] w fun e w' => e = .returned (.bool true) ∧ Drew w w' := by
  have HA := Lib.hid hA
  have HA' := Lib.hid hA'
  clear hA hA'
  go_enter Try.func14, Try.ntmps14
  go_wp2
  go_loopw [5] (fun i wr => ∃ k : Nat, k ≤ n ∧ i = .int .i64 (k : Int) ∧ Drew w wr) (fun i _ => n - (intOf i).toNat)
  case atStart => exact ⟨0, by omega, rfl, Drew.refl _⟩
  case round =>
    obtain ⟨k, hk, rfl, hd⟩ := hrel
    by_cases hlt : k < n
    · obtain ⟨b, o, rfl, _, h1, h2⟩ := HA.out.at_ hlt
      obtain ⟨b', o', rfl, _, g1, g2⟩ := HA'.out.at_ hlt
      rw [← hd.cells] at h1 h2 g1 g2
      generalize l.getD k En.z = s at *
      obtain ⟨sa, sp⟩ := s
      simp only at h1 h2 g1 g2
      have h0 : (0 : Int) ≤ (k : Int) := by omega
      have hkn : (k : Int) < (n : Int) := by omega
      go_wp2
      go_quiet (fail)
      go_wp2
      go_roundw
      case rel => exact ⟨k + 1, by omega, by go_num, hd.trans ⟨_, rfl⟩⟩
      case measure => simp [intOf]; omega
    · go_wp2
      go_ret
      exact ⟨rfl, hd⟩

set_option maxHeartbeats 1000000 in
theorem early_any (A : Option Addr) (n c : Nat) (w : World) (hnc : n ≤ c) :
    Calls Try.prog 9 #[.slice A n c] w fun e w' => e = .returned (.slice A (min n 200) c) ∧ w = w' := by
  by_cases h : n ≤ 200
  · have HM : Hid (min n 200 = n) := by show _ = _; omega
    have h1 : ¬ (200 : Int) < (n : Int) := by omega
    have h2 : (n : Int) ≤ 200 := by omega
    rw [HM.out]
    go_enter Try.func9, Try.ntmps9
    go_wp2
    go_ret
    exact ⟨by rw [show (min (n : Int) 200).toNat = n by omega]; rfl, rfl⟩
  · have HM : Hid (min n 200 = 200) := by show _ = _; omega
    have h1 : (200 : Int) < (n : Int) := by omega
    rw [HM.out]
    go_enter Try.func9, Try.ntmps9
    go_wp2
    go_ret
    exact ⟨by first | rfl | (rw [show (min (n : Int) 200).toNat = 200 by omega]; rfl), rfl⟩
end Go.Proofs.Ytmmjpdggneagdaa
