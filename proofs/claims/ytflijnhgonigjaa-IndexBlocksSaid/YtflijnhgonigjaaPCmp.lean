/-
  THE LIBRARY's CONTRACT of strings.Compare, laid at this program; WALKS: Compare, isNode, the reference's Ahead. Conditions: texts of at most 2^47 bytes.
-/
import Derived.Shelf.Small.Strs
import Derived.Shelf.Small.Wraps
import Derived.Test.YtflijnhgonigjaaEWords
import Derived.Test.YtflijnhgonigjaaPPut
import Derived.Deep.QuietTactic
import Derived.BigQuiet
import Derived.Deep.RegionWith
import Derived.Deep.RegionHeld3
import Derived.Deep.DeepFit
namespace Go.Proofs.Ytflijnhgonigjaa
open Go.Shelf Go.RowKit

def lays106_ren : Go.Shelf.Ren := ⟨fun | 106 => 65 | 213 => 83 | 265 => 95 | n => n, fun | 9 => 9 | 3 => 3 | n => n, fun | n => n⟩
theorem lays106 : Go.Proofs.Lays.n106 Try.prog lays106_ren := {
  mixed := by kernel_rfl
  f106 := Try.func65.trans (congrArg some (by kernel_rfl))
  f213 := Try.func83.trans (congrArg some (by kernel_rfl))
  f265 := Try.func95.trans (congrArg some (by kernel_rfl))
  t3 := Try.underlying3
  a3 := Try.isAgg3
  z3 := Try.sizeOf3
  v3 := Try.zeroValue3
  t9 := Try.underlying9
  a9 := Try.isAgg9
  z9 := Try.sizeOf9
  v9 := Try.zeroValue9 }
theorem strings_Compare (a b : ByteArray) (w : World) :
    Calls Try.prog 65 #[.string a, .string b] w fun e w' => e = .returned (.int .i64 (cmpB a b)) ∧ w' = w := Any.strings_Compare lays106 a b w
theorem compare_any (a b : ByteArray) (w : World) : Calls Try.prog 35 #[.string a, .string b] w fun e w' => e = .returned (.int .i64 (cmpB a b)) ∧ w = w' := by
  go_enter Try.func35, Try.ntmps35
  go_wp2_with fail
  refine (strings_Compare a b w).mono ?_
  rintro e w' ⟨rfl, rfl⟩
  go_wp2
  go_ret
  exact ⟨rfl, rfl⟩
set_option maxHeartbeats 1000000 in
theorem isNode_any (z : Int) (w : World) : Calls Try.prog 34 #[.int .i64 z] w fun e w' => e = .returned (.bool (nodeB z)) ∧ w = w' := by
  go_enter Try.func34, Try.ntmps34
  go_wp2
  all_goals
    go_ret
    refine ⟨ret_bool ?_, rfl⟩
    unfold nodeB
    simp_all
  all_goals (try (intro; omega))

/-! ### Ahead -/
theorem cmp_drop : ∀ (k : Nat) (a b : List UInt8), k ≤ a.length → k ≤ b.length → (∀ j, j < k → a.getD j 0 = b.getD j 0) → Lib.compareBytes a b = Lib.compareBytes (a.drop k) (b.drop k)
  | 0, a, b, _, _, _ => rfl
  | k + 1, x :: a, y :: b, h1, h2, h => by
    have h0 : x = y := h 0 (by omega)
    subst h0
    have ih := cmp_drop k a b (by simpa using h1) (by simpa using h2) (fun j hj => h (j + 1) (by omega))
    rw [Lib.compareBytes, if_neg (UInt8.lt_irrefl x), if_neg (UInt8.lt_irrefl x), List.drop_succ_cons, List.drop_succ_cons]
    exact ih
  | k + 1, [], _, h1, _, _ => by simp at h1
  | k + 1, _ :: _, [], _, h2, _ => by simp at h2
def aheadL (a b : List UInt8) : Bool := decide (Lib.compareBytes a b < 0)
theorem ahead_at (a b : List UInt8) (k : Nat) (h1 : k < a.length) (h2 : k < b.length) (h : ∀ j, j < k → a.getD j 0 = b.getD j 0) (hne : a[k] ≠ b[k]) : aheadL a b = decide (((a[k].toNat : Nat) : Int) < ((b[k].toNat : Nat) : Int)) := by
  unfold aheadL
  rw [cmp_drop k a b (by omega) (by omega) h, List.drop_eq_getElem_cons h1, List.drop_eq_getElem_cons h2, Lib.compareBytes]
  have hl : (a[k] < b[k]) ↔ (((a[k].toNat : Nat) : Int) < ((b[k].toNat : Nat) : Int)) := by rw [UInt8.lt_iff_toNat_lt]; omega
  have hn : a[k].toNat ≠ b[k].toNat := fun e => hne (UInt8.toNat_inj.1 e)
  by_cases hlt : a[k] < b[k]
  · rw [if_pos hlt]; simp [hl.1 hlt]
  · have hgt : b[k] < a[k] := by
      rw [UInt8.lt_iff_toNat_lt] at hlt ⊢; omega
    have : ¬ (((a[k].toNat : Nat) : Int) < ((b[k].toNat : Nat) : Int)) := fun x => hlt (hl.2 x)
    rw [if_neg hlt, if_pos hgt]; simp [this]
theorem ahead_end (a b : List UInt8) (k : Nat) (h1 : k ≤ a.length) (h2 : k ≤ b.length) (hk : k = a.length ∨ k = b.length) (h : ∀ j, j < k → a.getD j 0 = b.getD j 0) : aheadL a b = decide (((a.length : Nat) : Int) < ((b.length : Nat) : Int)) := by
  unfold aheadL
  rw [cmp_drop k a b h1 h2 h]
  rcases hk with e | e
  · rw [List.drop_of_length_le (l := a) (by omega)]
    rcases Nat.lt_or_ge k b.length with hl | hl
    · rw [List.drop_eq_getElem_cons hl, Lib.compareBytes]
      have : (((a.length : Nat) : Int) < ((b.length : Nat) : Int)) := by omega
      simp [this]
    · rw [List.drop_of_length_le (l := b) (by omega), Lib.compareBytes]
      have : ¬ (((a.length : Nat) : Int) < ((b.length : Nat) : Int)) := by omega
      simp [this]
  · rw [List.drop_of_length_le (l := b) (by omega)]
    have : ¬ (((a.length : Nat) : Int) < ((b.length : Nat) : Int)) := by omega
    rcases Nat.lt_or_ge k a.length with hl | hl
    · rw [List.drop_eq_getElem_cons hl, Lib.compareBytes]
      simp [this]
    · rw [List.drop_of_length_le (l := a) (by omega), Lib.compareBytes]
      simp [this]
theorem data_getD (s : ByteArray) (k : Nat) (hk : k < s.size) : s.data.toList.getD k 0 = s[k] := by
  have : k < s.data.toList.length := by simpa using hk
  simp only [List.getD, List.getElem?_eq_getElem this, Option.getD_some]
  rfl

set_option maxHeartbeats 4000000 in
theorem ahead_any (a b : ByteArray) (w : World) (ha : a.size ≤ 140737488355328) :
    Calls Try.prog 36 #[.string a, .string b] w fun e w' => e = .returned (.bool (ltB a b)) ∧ Drew w w' := by
  have HLT : ltB a b = aheadL a.data.toList b.data.toList := rfl
  rw [HLT]
  clear HLT
  have HAT : Hid (∀ (k : Nat) (h1 : k < a.size) (h2 : k < b.size), (∀ j, j < k → a.data.toList.getD j 0 = b.data.toList.getD j 0) → a[k] ≠ b[k] → aheadL a.data.toList b.data.toList = decide (((a[k].toNat : Nat) : Int) < ((b[k].toNat : Nat) : Int))) :=
    fun k h1 h2 h hne => ahead_at a.data.toList b.data.toList k (by simpa using h1) (by simpa using h2) h hne
  have HEND : Hid (∀ k : Nat, k ≤ a.size → k ≤ b.size → (k = a.size ∨ k = b.size) → (∀ j, j < k → a.data.toList.getD j 0 = b.data.toList.getD j 0) → aheadL a.data.toList b.data.toList = decide (a.size < b.size)) :=
    fun k h1 h2 h3 h => by
      rw [ahead_end a.data.toList b.data.toList k (by simpa using h1) (by simpa using h2) (by simpa using h3) h, decide_eq_decide]
      simp
  have HGA : Hid (∀ (k : Nat) (h1 : k < a.size) (h2 : k < b.size), a[k] = b[k] → a.data.toList.getD k 0 = b.data.toList.getD k 0) := fun k h1 h2 e => by
    rw [data_getD a k h1, data_getD b k h2, e]
  generalize aheadL a.data.toList b.data.toList = v at *
  go_enter Try.func36, Try.ntmps36
  go_wp2
  go_loopw [5] (fun i wr => ∃ k : Nat, i = .int .i64 (k : Int) ∧ k ≤ a.size ∧ k ≤ b.size ∧ (∃ q, wr = w.drewN q) ∧ Hid (∀ j, j < k → a.data.toList.getD j 0 = b.data.toList.getD j 0)) (fun i _ => a.size - (intOf i).toNat)
  case atStart => exact ⟨0, rfl, Nat.zero_le _, Nat.zero_le _, ⟨0, rfl⟩, fun j hj => absurd hj (Nat.not_lt_zero _)⟩
  case round =>
    obtain ⟨k, rfl, hk, hk2, ⟨q, rfl⟩, hok⟩ := hrel
    have hk0 : (0 : Int) ≤ (k : Int) := by omega
    by_cases hlt : k < a.size
    · by_cases hlt2 : k < b.size
      · have e1 : (k : Int) < (a.size : Int) := by omega
        have e2 : (k : Int) < (b.size : Int) := by omega
        by_cases hq : a[k] = b[k]
        · have HOK : Hid (∀ j, j < k + 1 → a.data.toList.getD j 0 = b.data.toList.getD j 0) := fun j hj => by
            rcases Nat.lt_or_ge j k with h | h
            · exact hok.out j h
            · obtain rfl : j = k := by omega
              exact HGA.out j hlt hlt2 hq
          have e3 : (((a[k].toNat : Nat) : Int) != ((b[k].toNat : Nat) : Int)) = false := by rw [hq]; simp
          clear hq
          go_wp2
          go_quiet (fail)
          go_wp2
          go_roundw
          case rel => exact ⟨k + 1, by go_num, hlt, hlt2, ⟨_, rfl⟩, HOK⟩
          case measure => simp [intOf]; omega
        · have HN := Lib.hid (HAT.out k hlt hlt2 hok.out hq)
          have e3 : (((a[k].toNat : Nat) : Int) != ((b[k].toNat : Nat) : Int)) = true := by
            rw [bne_iff_ne]
            intro e
            exact hq (UInt8.toNat_inj.1 (by omega))
          clear hq
          go_wp2
          go_quiet (fail)
          go_wp2
          go_quiet (fail)
          go_wp2
          go_ret
          refine ⟨ret_bool (a := decide (a[k].toNat < b[k].toNat)) ?_, ((Drew.trans ⟨q, rfl⟩ ⟨_, rfl⟩).trans ⟨_, rfl⟩)⟩
          rw [HN.out, decide_eq_decide]
          omega
      · have e2 : ¬ (k : Int) < (b.size : Int) := by omega
        have e1 : (k : Int) < (a.size : Int) := by omega
        have HN := Lib.hid (HEND.out k hk hk2 (Or.inr (by omega)) hok.out)
        go_wp2
        go_ret
        exact ⟨ret_bool HN.out.symm, ⟨q, rfl⟩⟩
    · have e1 : ¬ (k : Int) < (a.size : Int) := by omega
      have HN := Lib.hid (HEND.out k hk hk2 (Or.inl (by omega)) hok.out)
      go_wp2
      go_ret
      exact ⟨ret_bool HN.out.symm, ⟨q, rfl⟩⟩
end Go.Proofs.Ytflijnhgonigjaa
