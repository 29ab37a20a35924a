/-
  WALKS: fits, most and appendField. Conditions: the width is 1, 2 or 4 (fits); the value is not negative and the row that is appended to is owned, of at most 100000000000000 elements (appendField).
-/
import Derived.Test.YtpljifeebbeakaaSize
namespace Go.Proofs.Ytpljifeebbeakaa
open Go.RowKit

theorem fit1 (v : Int) (h0 : 0 ≤ v) : (v / 256 == 0) = fitB v 1 := by rw [Bool.eq_iff_iff]; simp [fitB, mostOf]; omega
theorem fit2 (v : Int) (h0 : 0 ≤ v) : (v / 65536 == 0) = fitB v 2 := by rw [Bool.eq_iff_iff]; simp [fitB, mostOf]; omega
theorem fit4 (v : Int) (h0 : 0 ≤ v) : (v / 4294967296 == 0) = fitB v 4 := by rw [Bool.eq_iff_iff]; simp [fitB, mostOf]; omega
theorem fitn (v z : Int) (h0 : ¬ 0 ≤ v) : fitB v z = false := by simp [fitB]; omega

set_option maxHeartbeats 400000 in
theorem fits_any (v z : Int) (w : World) (hz : wOk z = true) (_hv : -9223372036854775808 ≤ v ∧ v ≤ 9223372036854775807) :
    Calls Try.prog 82 #[.int .i64 v, .int .i64 z] w fun e w' => e = .returned (.bool (fitB v z)) ∧ w = w' := by
  have hz := wOk_d hz
  by_cases h0 : 0 ≤ v
  · rcases hz with rfl | rfl | rfl
    · have F := Lib.hid (fit1 v h0)
      go_enter Try.func82, Try.ntmps82
      go_wp2
      go_ret
      exact ⟨ret_bool F.out, rfl⟩
    · have F := Lib.hid (fit2 v h0)
      go_enter Try.func82, Try.ntmps82
      go_wp2
      go_ret
      exact ⟨ret_bool F.out, rfl⟩
    · have F := Lib.hid (fit4 v h0)
      go_enter Try.func82, Try.ntmps82
      go_wp2
      go_ret
      exact ⟨ret_bool F.out, rfl⟩
  · have F := Lib.hid (fitn v z h0)
    have h1 : decide (0 ≤ v) = false := by simpa using h0
    clear hz
    go_enter Try.func82, Try.ntmps82
    go_wp2
    go_ret
    exact ⟨ret_bool F.out.symm, rfl⟩

theorem quot_step (v : Int) (k : Nat) : v / 256 ^ (k + 1) = v / 256 ^ k / 256 := by
  rw [Int.pow_succ, Int.ediv_ediv_of_nonneg (Int.pow_nonneg (by decide))]
theorem quot_bd (v : Int) (k : Nat) (h0 : 0 ≤ v) (h1 : v ≤ 9223372036854775807) : 0 ≤ v / 256 ^ k ∧ v / 256 ^ k ≤ 9223372036854775807 := by
  have hp : (0 : Int) < 256 ^ k := Int.pow_pos (by decide)
  refine ⟨Int.ediv_nonneg h0 (by omega), ?_⟩
  have : v / 256 ^ k ≤ v := Int.ediv_le_self _ h0
  omega

theorem Try.info5 : (Try.prog.info? 5).map (fun i => (i.zero, i.size, i.bytes)) = some (some (.int .u8 0), 1, 1) := by kernel_rfl
theorem Try.info3 : (Try.prog.info? 3).map (fun i => (i.zero, i.size, i.bytes)) = some (some (.int .i64 0), 1, 8) := by kernel_rfl

set_option maxHeartbeats 400000 in
theorem appendField_any (rv : Value) (v : Int) (z m base : Nat) (xs : List Value) (w : World) (hz : z ≤ 4) (h0 : 0 ≤ v ∧ v ≤ 9223372036854775807)
    (hm : m ≤ 100000000000000) (hb : base ≤ w.heap.size) (hown : w.ownsRow base 5 1 rv m xs) :
    Calls Try.prog 83 #[rv, .int .i64 v, .int .i64 z] w fun e w' => ∃ rv', e = .returned rv' ∧ w'.ownsRow base 5 1 rv' (m + z) (xs ++ (encF v z).map (.int .u8)) ∧ Below base w w' := by
  obtain ⟨i0, hi, hz0, hz1, hz2⟩ := info_parts Try.info5
  go_enter Try.func83, Try.ntmps83
  go_wp2
  go_loopw [0, 1, 8] (fun r vv i wr => ∃ k : Nat, k ≤ z ∧ i = .int .i64 k ∧ vv = .int .i64 (v / 256 ^ k) ∧ wr.ownsRow base 5 1 r (m + k) (xs ++ (encF v k).map (.int .u8)) ∧ Below base w wr) (fun _ _ i _ => z - (intOf i).toNat)
  case atStart => exact ⟨0, Nat.zero_le _, rfl, by simp, by simpa [encF] using hown, Below.refl _ _⟩
  case round =>
    obtain ⟨k, hk, rfl, rfl, hown', hbel⟩ := hrel
    have HQ := Lib.hid (quot_step v k)
    have HE : Hid (encF v (k + 1) = encF v k ++ [(v / 256 ^ k) % 256]) := by show _ = _; rfl
    have hq := quot_bd v k h0.1 h0.2
    generalize v / 256 ^ k = q at *
    clear hown
    by_cases hlt : k < z
    · go_wp2_with (first | (at_builtin; refine wpList_append_own _ rfl _ _ 36 rfl base 5 i0 (.int .u8 0) 1 1 Try.underlying36 hi hz0 hz1 hz2 rfl (by decide) _ _ _ rfl (hown'.alloc _) ⟨wr.heap.size, 0, none⟩ 1 1 [.int .u8 (q % 256)] rfl rfl (cell_one_new _ _ _) ?c2 ?c3 ?c4 ?c5 ?_))
      case c2 => intro u hu; simp at hu; subst hu; rfl
      case c3 => unfold maxLen; omega
      case c4 => omega
      case c5 => have := hbel.size; simp; omega
      intro v' w1 hown2 hgrow _
      have hb2 : Below base w w1 := (hbel.alloc (by have := hbel.size; omega) _).grown hgrow (by have := hbel.size; simp; omega) (fun g hg => (hown'.lt g hg).1)
      clear hgrow hown' hbel
      go_wp2
      go_roundw
      case rel => exact ⟨k + 1, by omega, by go_num, by rw [HQ.out], by rw [HE.out]; simpa [Nat.add_assoc] using hown2, hb2⟩
      case measure => simp [intOf]; omega
    · have hkn : k = z := by omega
      subst hkn
      go_wp2
      go_ret
      exact ⟨_, rfl, hown', hbel⟩
end Go.Proofs.Ytpljifeebbeakaa
