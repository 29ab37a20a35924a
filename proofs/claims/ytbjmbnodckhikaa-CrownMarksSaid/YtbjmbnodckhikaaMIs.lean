/-
  WALKS: exists, mask, end and Is. Conditions: strings of at most 1000000000000000 bytes, integers of an int64.
-/
import Derived.Test.YtbjmbnodckhikaaMPlain
import Derived.Test.YtbjmbnodckhikaaSize
import Derived.WalkKit
import Derived.WalkSpells
import Derived.WalkLawsBesides
import Derived.Lib.Hide
import Derived.Deep.QuietTactic
import Derived.BigQuiet
namespace Go.Proofs.Ytbjmbnodckhikaa
open Go.RowKit
set_option maxHeartbeats 400000 in
theorem exists_any (m : ByteArray) (i : Int) (w : World) (_hm : m.size ≤ 1000000000000000) (hi : -9223372036854775808 ≤ i ∧ i ≤ 9223372036854775807) :
    Calls Try.prog 34 #[.string m, .int .i64 i] w fun e w' => e = .returned (.bool (exB m i)) ∧ w = w' := by
  by_cases h0 : 0 ≤ i
  · go_enter Try.func34, Try.ntmps34
    go_wp2
    go_ret
    refine ⟨ret_bool ?_, rfl⟩
    unfold exB
    simp [h0]
  · have h1 : decide (0 ≤ i) = false := by simpa using h0
    go_enter Try.func34, Try.ntmps34
    go_wp2
    go_ret
    refine ⟨ret_bool ?_, rfl⟩
    unfold exB
    rw [h1]; rfl

set_option maxHeartbeats 400000 in
theorem mask_any (k : Nat) (w : World) (hk : (k : Int) ≤ 9223372036854775807) :
    Calls Try.prog 35 #[.int .i64 (k : Int)] w fun e w' => e = .returned (.int .u8 (maskI k)) ∧ w = w' := by
  have hj : k % 8 = 0 ∨ k % 8 = 1 ∨ k % 8 = 2 ∨ k % 8 = 3 ∨ k % 8 = 4 ∨ k % 8 = 5 ∨ k % 8 = 6 ∨ k % 8 = 7 := by omega
  go_enter Try.func35, Try.ntmps35
  go_wp2
  go_ret
  refine ⟨ret_int ?_, rfl⟩
  unfold maskI
  rcases hj with h | h | h | h | h | h | h | h <;> rw [h] <;> rfl

theorem quiet_left {P : Program} {f : FuncId} {args : Array Value} {w : World} {n : Nat} {v : Value}
    (h : Calls P f args (w.drewN n) fun e w' => e = .returned v ∧ w.drewN n = w') : Calls P f args (w.drewN n) fun e w'' => e = .returned v ∧ ∃ m, w'' = w.drewN m :=
  h.mono fun _ _ ⟨he, hm⟩ => ⟨he, n, hm.symm⟩

/-- Nothing but draws has happened. -/
def Drew (w w' : World) : Prop := ∃ n, w' = w.drewN n
theorem Drew.refl (w : World) : Drew w w := ⟨0, rfl⟩
theorem Drew.trans {a b c : World} (h : Drew a b) (k : Drew b c) : Drew a c := by
  obtain ⟨n, rfl⟩ := h
  obtain ⟨m, rfl⟩ := k
  exact ⟨n + m, World.drewN_drewN _ _ _⟩

theorem exists_is (b : Bool) (m : ByteArray) (i : Int) (w : World) (hm : m.size ≤ 1000000000000000) (hi : -9223372036854775808 ≤ i ∧ i ≤ 9223372036854775807) (h : exB m i = b) :
    Calls Try.prog 34 #[.string m, .int .i64 i] w fun e w' => e = .returned (.bool b) ∧ w = w' := by rw [← h]; exact exists_any m i w hm hi

set_option maxHeartbeats 1000000 in
theorem is_any (m : ByteArray) (i : Int) (w : World) (hm : m.size ≤ 1000000000000000) (hi : -9223372036854775808 ≤ i ∧ i ≤ 9223372036854775807) :
    Calls Try.prog 21 #[.string m, .int .i64 i] w fun e w' => e = .returned (.bool (isB m i)) ∧ Drew w w' := by
  cases hx : exB m i with
  | false =>
    have HS := Lib.hid (isB_none hx)
    have HX := Lib.hid hx
    clear hx
    go_enter Try.func21, Try.ntmps21
    go_wp2
    go_quiet ((go_at_call 34; exact quiet_left (exists_is false m i _ hm hi HX.out)))
    go_wp2
    go_ret
    exact ⟨ret_bool HS.out.symm, _, rfl⟩
  | true =>
    obtain ⟨h0, h1⟩ := exB_t hx
    have HX := Lib.hid hx
    clear hx
    obtain ⟨k, rfl⟩ := Int.eq_ofNat_of_zero_le h0
    have hk : k / 8 < m.size := by omega
    have HB : Hid ((bits .and .u8 ((m[k / 8]).toNat : Int) (maskI k) != 0) = isB m k) := by
      show _ = _
      unfold maskI
      rw [byte_and _ _ (by omega), isB_nat, bitN, if_pos hk, byte_at m _ hk]
    have ha : IntKind.i64.wrap ((k : Int) / 8) = (k : Int) / 8 := IntWalk.i64_in _ (by omega)
    have hb : (0 : Int) ≤ (k : Int) / 8 := by omega
    have hc : ((k : Int) / 8).toNat = k / 8 := by omega
    go_enter Try.func21, Try.ntmps21
    go_wp2
    go_quiet ((first | (go_at_call 34; exact quiet_left (exists_is true m k _ hm hi HX.out)) | (go_at_call 35; exact quiet_left (mask_any k _ hi.2))))
    go_wp2
    go_ret
    exact ⟨ret_bool HB.out, _, rfl⟩
end Go.Proofs.Ytbjmbnodckhikaa
