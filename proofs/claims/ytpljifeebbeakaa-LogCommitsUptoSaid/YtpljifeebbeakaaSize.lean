/-
  WALKS: isWidth, Size and the reference's Size return what sizeS says of the numbers that the slice reads as. Condition: at most 100000000000000 elements.
-/
import Derived.Test.YtpljifeebbeakaaWords
import Derived.Deep.QuietTactic
import Derived.BigQuiet
namespace Go.Proofs.Ytpljifeebbeakaa
open Go.RowKit
theorem ret_bool {a b : Bool} (h : a = b) : Ending.returned (.bool a) = .returned (.bool b) := by rw [h]
theorem ret_int {k : IntKind} {a b : Int} (h : a = b) : Ending.returned (.int k a) = .returned (.int k b) := by rw [h]

set_option maxHeartbeats 400000 in
theorem isWidth_any (z : Int) (w : World) :
    Calls Try.prog 90 #[.int .i64 z] w fun e w' => e = .returned (.bool (wOk z)) ∧ w = w' := by
  go_enter Try.func90, Try.ntmps90
  go_wp2
  all_goals go_ret
  all_goals refine ⟨ret_bool ?_, rfl⟩
  all_goals (simp [wOk]; try omega)
  all_goals (rw [Bool.eq_iff_iff]; simp; try omega)

set_option maxHeartbeats 400000 in
theorem size_any (A : Option Addr) (n c B : Nat) (ws : List Int) (w : World) (hr : IntsAt w B A n ws) (hn : n ≤ 100000000000000) :
    Calls Try.prog 78 #[.slice A n c] w fun e w' => e = .returned (.int .i64 (sizeS ws)) ∧ w = w' := by
  go_enter Try.func78, Try.ntmps78
  go_wp2
  go_loop [3, 8] (fun t i => ∃ k : Nat, k ≤ n ∧ okTo ws k = true ∧ i = .int .i64 k ∧ t = .int .i64 (sumTo ws k)) (fun _ i => n - (intOf i).toNat)
  case atStart => exact ⟨0, Nat.zero_le _, rfl, rfl, rfl⟩
  case round =>
    obtain ⟨k, hk, hok, rfl, rfl⟩ := hrel
    have hbd := sumTo_bd ws k hok
    by_cases hlt : k < n
    · obtain ⟨b, o, rfl, hb, hc⟩ := hr.at_ hlt
      have hbz := hr.bd k
      have hl := hr.len
      cases hw : wOk (ws.getD k 0) with
      | false =>
        have HS := Lib.hid (sizeS_bad ws (by omega) hw)
        have Hw := Lib.hid hw
        have HOK := Lib.hid hok
        clear hw hok hl
        generalize ws.getD k 0 = z at *
        go_wp2_with (go_at_call 90; refine (isWidth_any _ _).mono ?_; rintro e w' ⟨rfl, rfl⟩; rw [Hw.out])
        go_ret
        exact ⟨ret_int HS.out.symm, rfl⟩
      | true =>
        have HS : Hid (okTo ws (k + 1) = true) := by show okTo ws (k + 1) = true; simp only [okTo, hok, hw]; rfl
        have HT : Hid (sumTo ws (k + 1) = sumTo ws k + ws.getD k 0) := by show _ = _; rfl
        have hz := wOk_d hw
        have hz1 : 1 ≤ ws.getD k 0 ∧ ws.getD k 0 ≤ 4 := by omega
        have Hw := Lib.hid hw
        clear hw hok hl hz hbz
        generalize ws.getD k 0 = z at *
        go_wp2_with (go_at_call 90; refine (isWidth_any _ _).mono ?_; rintro e w' ⟨rfl, rfl⟩; rw [Hw.out])
        go_round
        case rel => exact ⟨k + 1, by omega, HS.out, by go_num, by rw [HT.out]⟩
        case measure => simp [intOf]; omega
    · have hkn : k = n := by omega
      subst hkn
      have HS := Lib.hid (sizeS_good ws (by rw [hr.len]; exact hok))
      have HL := Lib.hid hr.len
      clear hok
      go_wp2
      go_ret
      exact ⟨ret_int (by rw [HS.out, HL.out]), rfl⟩

set_option maxHeartbeats 400000 in
theorem rsize_any (A : Option Addr) (n c B : Nat) (ws : List Int) (w : World) (hr : IntsAt w B A n ws) (hn : n ≤ 100000000000000) :
    Calls Try.prog 77 #[.slice A n c] w fun e w' => e = .returned (.int .i64 (sizeS ws)) ∧ w = w' := by
  go_enter Try.func77, Try.ntmps77
  go_wp2
  go_loop [3, 4] (fun t i => ∃ k : Nat, k ≤ n ∧ okTo ws k = true ∧ i = .int .i64 k ∧ t = .int .i64 (sumTo ws k)) (fun _ i => n - (intOf i).toNat)
  case atStart => exact ⟨0, Nat.zero_le _, rfl, rfl, rfl⟩
  case round =>
    obtain ⟨k, hk, hok, rfl, rfl⟩ := hrel
    have hbd := sumTo_bd ws k hok
    by_cases hlt : k < n
    · obtain ⟨b, o, rfl, hb, hc⟩ := hr.at_ hlt
      have hbz := hr.bd k
      have hl := hr.len
      cases hw : wOk (ws.getD k 0) with
      | false =>
        have HS := Lib.hid (sizeS_bad ws (by omega) hw)
        have hz := wOk_n hw
        have h1 : (ws.getD k 0 != 1) = true := bne_iff_ne.2 (by omega)
        have h2 : (ws.getD k 0 != 2) = true := bne_iff_ne.2 (by omega)
        have h4 : (ws.getD k 0 != 4) = true := bne_iff_ne.2 (by omega)
        clear hw hok hl hz
        generalize ws.getD k 0 = z at *
        go_wp2
        go_ret
        exact ⟨ret_int HS.out.symm, rfl⟩
      | true =>
        have HS : Hid (okTo ws (k + 1) = true) := by show okTo ws (k + 1) = true; simp only [okTo, hok, hw]; rfl
        have HT : Hid (sumTo ws (k + 1) = sumTo ws k + ws.getD k 0) := by show _ = _; rfl
        have hz := wOk_d hw
        have hz1 : 1 ≤ ws.getD k 0 ∧ ws.getD k 0 ≤ 4 := by omega
        clear hw hok hl hbz
        generalize ws.getD k 0 = z at *
        rcases hz with rfl | rfl | rfl
        all_goals
          go_wp2
          go_round
          case rel => exact ⟨k + 1, by omega, HS.out, by go_num, by rw [HT.out]⟩
          case measure => simp [intOf]; omega
    · have hkn : k = n := by omega
      subst hkn
      have HS := Lib.hid (sizeS_good ws (by rw [hr.len]; exact hok))
      have HL := Lib.hid hr.len
      clear hok
      go_wp2
      go_ret
      exact ⟨ret_int (by rw [HS.out, HL.out]), rfl⟩
end Go.Proofs.Ytpljifeebbeakaa
