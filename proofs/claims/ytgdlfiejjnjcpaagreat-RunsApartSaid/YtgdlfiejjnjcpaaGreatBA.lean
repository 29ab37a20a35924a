/-
  PLAIN MATHEMATICS of layer 3 (marks): bits of bytes, one bit set, how many are 1, the first run of zeros, the longest one. No condition.
  WALKS: exists, mask, end and Is. Conditions: strings of at most 1000000000000000 bytes, integers of an int64.
  WALKS: Count, Run, First, Longest, and the statements' own early. Conditions: strings of at most 1000000000000000 bytes, integers of an int64.
-/
import Derived.Laws.BitsAllLaws
import Derived.IntWalk
import Derived.Test.YtgdlfiejjnjcpaaGreatRows
import Derived.WalkKit
import Derived.WalkSpells
import Derived.WalkLawsBesides
import Derived.Lib.Hide
import Derived.Deep.QuietTactic
import Derived.BigQuiet
namespace Go.Proofs.YtgdlfiejjnjcpaaGreat.Mk
/-- The byte with the index k (0 beyond the last one). -/
def byteN (m : ByteArray) (k : Nat) : UInt8 := m.data.toList.getD k 0
/-- Bit k: those that do not exist read as 1. -/
def bitN (m : ByteArray) (k : Nat) : Bool := if k / 8 < m.size then (byteN m (k / 8)).toNat.testBit (k % 8) else true
/-- Does bit i exist? -/
def exB (m : ByteArray) (i : Int) : Bool := decide (0 ≤ i) && decide (i / 8 < (m.size : Int))
def isB (m : ByteArray) (i : Int) : Bool := if 0 ≤ i then bitN m i.toNat else true
/-- The value of bit k in its byte. -/
def maskI (k : Nat) : Int := ((2 ^ (k % 8) : Nat) : Int)
/-- A byte with its bit j set. -/
def setByte (x : UInt8) (j : Nat) (yes : Bool) : UInt8 :=
  UInt8.ofNat (if yes then x.toNat ||| 2 ^ j else x.toNat &&& (255 ^^^ 2 ^ j))
def setN (m : ByteArray) (k : Nat) (yes : Bool) : ByteArray :=
  if k / 8 < m.size then ⟨(m.data.toList.set (k / 8) (setByte (byteN m (k / 8)) (k % 8) yes)).toArray⟩ else m
def setR (m : ByteArray) (i : Int) (yes : Bool) : ByteArray := if 0 ≤ i then setN m i.toNat yes else m

set_option maxRecDepth 100000 in
theorem byte_at (m : ByteArray) (k : Nat) (h : k < m.size) : byteN m k = m[k] := by
  unfold byteN
  rw [List.getD, List.getElem?_eq_getElem (show k < m.data.toList.length by simpa using h)]
  rfl

set_option maxRecDepth 100000 in
theorem byte_and_all : ∀ x : Fin 256, ∀ j : Fin 8, (bits .and .u8 (x.val : Int) ((2 ^ j.val : Nat) : Int) != 0) = x.val.testBit j.val := by decide +kernel
set_option maxRecDepth 100000 in
theorem byte_or_all : ∀ x : Fin 256, ∀ j : Fin 8, bits .or .u8 (x.val : Int) ((2 ^ j.val : Nat) : Int) = ((x.val ||| 2 ^ j.val : Nat) : Int) := by decide +kernel
set_option maxRecDepth 100000 in
theorem byte_andNot_all : ∀ x : Fin 256, ∀ j : Fin 8, bits .andNot .u8 (x.val : Int) ((2 ^ j.val : Nat) : Int) = ((x.val &&& (255 ^^^ 2 ^ j.val) : Nat) : Int) := by decide +kernel
set_option maxRecDepth 100000 in
theorem byte_xor_all : ∀ x : Fin 256, ∀ j : Fin 8, bits .xor .u8 (x.val : Int) ((2 ^ j.val : Nat) : Int) = if x.val.testBit j.val then ((x.val &&& (255 ^^^ 2 ^ j.val) : Nat) : Int) else ((x.val ||| 2 ^ j.val : Nat) : Int) := by decide +kernel
set_option maxRecDepth 100000 in
theorem set_or_lt : ∀ x : Fin 256, ∀ j : Fin 8, x.val ||| 2 ^ j.val < 256 ∧ x.val &&& (255 ^^^ 2 ^ j.val) < 256 := by decide +kernel
set_option maxRecDepth 100000 in
theorem set_bit_all : ∀ x : Fin 256, ∀ j : Fin 8, ∀ t : Fin 8, (x.val ||| 2 ^ j.val).testBit t.val = (decide (t = j) || x.val.testBit t.val) ∧ (x.val &&& (255 ^^^ 2 ^ j.val)).testBit t.val = (!decide (t = j) && x.val.testBit t.val) := by decide +kernel
set_option maxRecDepth 100000 in
theorem set_back_all : ∀ x : Fin 256, ∀ j : Fin 8, (if x.val.testBit j.val then (x.val &&& (255 ^^^ 2 ^ j.val)) ||| 2 ^ j.val = x.val ∧ x.val ||| 2 ^ j.val = x.val else (x.val ||| 2 ^ j.val) &&& (255 ^^^ 2 ^ j.val) = x.val ∧ x.val &&& (255 ^^^ 2 ^ j.val) = x.val) := by decide +kernel


set_option maxRecDepth 100000 in
theorem byte_and (x : UInt8) (j : Nat) (hj : j < 8) : (bits .and .u8 (x.toNat : Int) ((2 ^ j : Nat) : Int) != 0) = x.toNat.testBit j := byte_and_all ⟨x.toNat, x.toNat_lt⟩ ⟨j, hj⟩
set_option maxRecDepth 100000 in
theorem byte_or (x : UInt8) (j : Nat) (hj : j < 8) : bits .or .u8 (x.toNat : Int) ((2 ^ j : Nat) : Int) = ((setByte x j true).toNat : Int) := by
  rw [byte_or_all ⟨x.toNat, x.toNat_lt⟩ ⟨j, hj⟩]
  unfold setByte
  have := set_or_lt ⟨x.toNat, x.toNat_lt⟩ ⟨j, hj⟩
  simp only [if_pos, UInt8.toNat_ofNat'] at *
  rw [Nat.mod_eq_of_lt (by exact this.1)]
set_option maxRecDepth 100000 in
theorem byte_andNot (x : UInt8) (j : Nat) (hj : j < 8) : bits .andNot .u8 (x.toNat : Int) ((2 ^ j : Nat) : Int) = ((setByte x j false).toNat : Int) := by
  rw [byte_andNot_all ⟨x.toNat, x.toNat_lt⟩ ⟨j, hj⟩]
  unfold setByte
  have := set_or_lt ⟨x.toNat, x.toNat_lt⟩ ⟨j, hj⟩
  simp only [Bool.false_eq_true, if_false, UInt8.toNat_ofNat'] at *
  rw [Nat.mod_eq_of_lt (by exact this.2)]
set_option maxRecDepth 100000 in
theorem byte_xor (x : UInt8) (j : Nat) (hj : j < 8) : bits .xor .u8 (x.toNat : Int) ((2 ^ j : Nat) : Int) = ((setByte x j (!x.toNat.testBit j)).toNat : Int) := by
  rw [byte_xor_all ⟨x.toNat, x.toNat_lt⟩ ⟨j, hj⟩]
  unfold setByte
  have := set_or_lt ⟨x.toNat, x.toNat_lt⟩ ⟨j, hj⟩
  cases hb : x.toNat.testBit j <;> simp only [hb, Bool.not_true, Bool.not_false, Bool.false_eq_true, if_true, if_false, UInt8.toNat_ofNat'] at *
  · rw [Nat.mod_eq_of_lt (by exact this.1)]
  · rw [Nat.mod_eq_of_lt (by exact this.2)]
set_option maxRecDepth 100000 in
theorem setByte_nat (x : UInt8) (j : Nat) (hj : j < 8) (yes : Bool) : (setByte x j yes).toNat = if yes then x.toNat ||| 2 ^ j else x.toNat &&& (255 ^^^ 2 ^ j) := by
  unfold setByte
  have := set_or_lt ⟨x.toNat, x.toNat_lt⟩ ⟨j, hj⟩
  rw [UInt8.toNat_ofNat']
  cases yes <;> simp only [Bool.false_eq_true, if_true, if_false] at *
  · rw [Nat.mod_eq_of_lt (by exact this.2)]
  · rw [Nat.mod_eq_of_lt (by exact this.1)]
set_option maxRecDepth 100000 in
theorem setByte_bit (x : UInt8) (j t : Nat) (hj : j < 8) (ht : t < 8) (yes : Bool) : (setByte x j yes).toNat.testBit t = if t = j then yes else x.toNat.testBit t := by
  rw [setByte_nat x j hj]
  have h := set_bit_all ⟨x.toNat, x.toNat_lt⟩ ⟨j, hj⟩ ⟨t, ht⟩
  simp only [Fin.mk.injEq] at h
  cases yes
  · simp only [Bool.false_eq_true, if_false]; rw [h.2]; by_cases e : t = j <;> simp [e]
  · simp only [if_true]; rw [h.1]; by_cases e : t = j <;> simp [e]
set_option maxRecDepth 100000 in
theorem setByte_back (x : UInt8) (j : Nat) (hj : j < 8) (yes : Bool) : setByte (setByte x j yes) j (x.toNat.testBit j) = x := by
  apply UInt8.toNat_inj.1
  rw [setByte_nat _ j hj, setByte_nat x j hj]
  have h := set_back_all ⟨x.toNat, x.toNat_lt⟩ ⟨j, hj⟩
  cases hb : x.toNat.testBit j <;> simp only [hb, Bool.false_eq_true, if_true, if_false] at h ⊢ <;> cases yes <;> simp [h]

set_option maxRecDepth 100000 in
theorem size_setN (m : ByteArray) (k : Nat) (yes : Bool) : (setN m k yes).size = m.size := by
  unfold setN
  split
  · show (List.set _ _ _).toArray.size = _
    simp
  · rfl
set_option maxRecDepth 100000 in
theorem byte_setN (m : ByteArray) (k t : Nat) (yes : Bool) (h : k / 8 < m.size) : byteN (setN m k yes) t = if t = k / 8 then setByte (byteN m (k / 8)) (k % 8) yes else byteN m t := by
  unfold setN
  rw [if_pos h]
  show (List.set _ _ _).getD t 0 = _
  by_cases e : t = k / 8
  · subst e; rw [if_pos rfl, List.getD, List.getElem?_set_self (by simpa using h)]; rfl
  · rw [if_neg e, List.getD, List.getElem?_set_ne (by omega)]; rfl
set_option maxRecDepth 100000 in
theorem bit_setN (m : ByteArray) (k t : Nat) (yes : Bool) (h : k / 8 < m.size) : bitN (setN m k yes) t = if t = k then yes else bitN m t := by
  unfold bitN
  rw [size_setN]
  by_cases ht : t / 8 < m.size
  · rw [if_pos ht, if_pos ht, byte_setN m k _ yes h]
    by_cases e : t / 8 = k / 8
    · rw [if_pos e, setByte_bit _ _ _ (by omega) (by omega), ← e]
      by_cases e2 : t = k
      · rw [if_pos e2, if_pos (by omega)]
      · rw [if_neg e2, if_neg (by omega)]
    · rw [if_neg e, if_neg (by omega)]
  · rw [if_neg ht, if_neg ht]
    have : t ≠ k := by rintro rfl; exact ht h
    rw [if_neg this]
set_option maxRecDepth 100000 in
theorem ba_ext {a b : ByteArray} (hs : a.size = b.size) (h : ∀ t, t < a.size → byteN a t = byteN b t) : a = b := by
  apply ByteArray.ext
  apply Array.ext'
  apply List.ext_getElem (by simpa using hs)
  intro t h1 h2
  have := h t (by simpa using h1)
  unfold byteN at this
  simpa [List.getD, List.getElem?_eq_getElem h1, List.getElem?_eq_getElem h2] using this
set_option maxRecDepth 100000 in
theorem setN_back (m : ByteArray) (k : Nat) (yes : Bool) (h : k / 8 < m.size) : setN (setN m k yes) k (bitN m k) = m := by
  apply ba_ext
  · rw [size_setN, size_setN]
  · intro t ht
    rw [byte_setN _ _ _ _ (by rw [size_setN]; exact h)]
    by_cases e : t = k / 8
    · rw [if_pos e, byte_setN _ _ _ _ h, if_pos rfl, e]
      have hb : bitN m k = (byteN m (k / 8)).toNat.testBit (k % 8) := by unfold bitN; rw [if_pos h]
      rw [hb, setByte_back _ _ (by omega)]
    · rw [if_neg e, byte_setN _ _ _ _ h, if_neg e]
set_option maxRecDepth 100000 in
theorem setN_same (m : ByteArray) (k : Nat) (yes : Bool) (h : bitN m k = yes) : setN m k yes = m := by
  by_cases hx : k / 8 < m.size
  · have h1 := setN_back m k yes hx
    apply ba_ext
    · rw [size_setN]
    · intro t ht
      rw [byte_setN _ _ _ _ hx]
      by_cases e : t = k / 8
      · rw [if_pos e]
        apply UInt8.toNat_inj.1
        have hb : bitN m k = (byteN m (k / 8)).toNat.testBit (k % 8) := by unfold bitN; rw [if_pos hx]
        rw [hb] at h
        rw [setByte_nat _ _ (by omega), e]
        have h2 := set_back_all ⟨(byteN m (k / 8)).toNat, (byteN m (k / 8)).toNat_lt⟩ ⟨k % 8, by omega⟩
        cases yes <;> simp only [h, Bool.false_eq_true, if_true, if_false] at h2 ⊢ <;> simp [h2]
      · rw [if_neg e]
  · unfold setN; rw [if_neg hx]

set_option maxRecDepth 100000 in
theorem exB_t {m : ByteArray} {i : Int} (h : exB m i = true) : 0 ≤ i ∧ i / 8 < (m.size : Int) := by unfold exB at h; simpa using h
set_option maxRecDepth 100000 in
theorem exB_f {m : ByteArray} {i : Int} (h : exB m i = false) : i < 0 ∨ (m.size : Int) ≤ i / 8 := by
  unfold exB at h
  simp only [Bool.and_eq_false_iff, decide_eq_false_iff_not] at h
  omega
set_option maxRecDepth 100000 in
theorem isB_none {m : ByteArray} {i : Int} (h : exB m i = false) : isB m i = true := by
  unfold isB bitN
  have := exB_f h
  by_cases h0 : 0 ≤ i
  · rw [if_pos h0, if_neg (by omega)]
  · rw [if_neg h0]
set_option maxRecDepth 100000 in
theorem isB_nat (m : ByteArray) (k : Nat) : isB m (k : Int) = bitN m k := by unfold isB; rw [if_pos (by omega)]; rfl
set_option maxRecDepth 100000 in
theorem setR_none {m : ByteArray} {i : Int} (h : exB m i = false) (yes : Bool) : setR m i yes = m := by
  unfold setR setN
  have := exB_f h
  by_cases h0 : 0 ≤ i
  · rw [if_pos h0, if_neg (by omega)]
  · rw [if_neg h0]
set_option maxRecDepth 100000 in
theorem setR_nat (m : ByteArray) (k : Nat) (yes : Bool) : setR m (k : Int) yes = setN m k yes := by unfold setR; rw [if_pos (by omega)]; rfl
set_option maxRecDepth 100000 in
theorem setR_size (m : ByteArray) (i : Int) (yes : Bool) : (setR m i yes).size = m.size := by
  unfold setR; split
  · exact size_setN _ _ _
  · rfl

/-- How many of the first n bits are 1. -/
def cnt (m : ByteArray) : Nat → Nat
  | 0 => 0
  | n + 1 => cnt m n + if bitN m n then 1 else 0
set_option maxRecDepth 100000 in
theorem cnt_le (m : ByteArray) : ∀ n, cnt m n ≤ n
  | 0 => Nat.le_refl _
  | n + 1 => by have := cnt_le m n; unfold cnt; split <;> omega
set_option maxRecDepth 100000 in
theorem cnt_set (m : ByteArray) (k : Nat) (h : k / 8 < m.size) (hb : bitN m k = false) : ∀ n, cnt (setN m k true) n = cnt m n + if k < n then 1 else 0
  | 0 => by simp [cnt]
  | n + 1 => by
    unfold cnt
    rw [cnt_set m k h hb n, bit_setN m k n true h]
    by_cases e : n = k
    · subst e; simp [hb]
    · rw [if_neg e]
      have hk : (k < n + 1) = (k < n) := propext ⟨fun _ => by omega, fun _ => by omega⟩
      simp only [hk]
      omega
def cntR (m : ByteArray) (n : Int) : Int := (cnt m (min n 100000).toNat : Nat)

/-- How many bits a search within n visits. -/
def endN (m : ByteArray) (n : Int) : Nat := min n.toNat (8 * m.size)

/-- From bit f + k on, z zeros behind it: the start of the first run of len zeros. -/
def runGo (m : ByteArray) (f len : Nat) : Nat → Nat → Nat → Option Nat
  | 0, _, _ => none
  | fuel + 1, k, z => if bitN m (f + k) then runGo m f len fuel (k + 1) 0 else if z + 1 = len then some (f + k + 1 - len) else runGo m f len fuel (k + 1) (z + 1)
def runR (m : ByteArray) (fr n len : Int) : Option Nat :=
  if len < 1 then none else runGo m fr.toNat len.toNat (endN m n - fr.toNat) 0 0
def runI (o : Option Nat) : Int := match o with | some i => (i : Nat) | none => 0
def runB (o : Option Nat) : Bool := o.isSome

set_option maxRecDepth 100000 in
theorem runGo_some (m : ByteArray) (f len i : Nat) (hl : 1 ≤ len) : ∀ fuel k z, z < len → z ≤ k → (∀ t, k - z ≤ t → t < k → bitN m (f + t) = false) → runGo m f len fuel k z = some i →
    f ≤ i ∧ i + len ≤ f + k + fuel ∧ ∀ t, t < len → bitN m (i + t) = false := by
  intro fuel
  induction fuel with
  | zero => intro k z _ _ _ h; simp [runGo] at h
  | succ fuel ih =>
    intro k z hz hk hb h
    unfold runGo at h
    split at h
    · have := ih (k + 1) 0 (by omega) (by omega) (by intro t h1 h2; omega) h
      exact ⟨this.1, by omega, this.2.2⟩
    · rename_i hbit
      have hbit' : bitN m (f + k) = false := by simpa using hbit
      split at h
      · rename_i he
        injection h with h
        refine ⟨by omega, by omega, fun t ht => ?_⟩
        by_cases e : t = z
        · have : i + t = f + k := by omega
          rw [this]; exact hbit'
        · have := hb (k - z + t) (by omega) (by omega)
          rw [show i + t = f + (k - z + t) by omega]; exact this
      · have := ih (k + 1) (z + 1) (by omega) (by omega) (by
          intro t h1 h2
          by_cases e : t = k
          · subst e; exact hbit'
          · exact hb t (by omega) (by omega)) h
        exact ⟨this.1, by omega, this.2.2⟩

set_option maxRecDepth 100000 in
theorem runGo_least (m : ByteArray) (f len i j : Nat) (hj : ∀ t, t < len → bitN m (j + t) = false) : ∀ fuel k z, z < len → z ≤ k → f + k ≤ j + z → runGo m f len fuel k z = some i → i ≤ j := by
  intro fuel
  induction fuel with
  | zero => intro k z _ _ _ h; simp [runGo] at h
  | succ fuel ih =>
    intro k z hz hk hb h
    unfold runGo at h
    split at h
    · rename_i hbit
      refine ih (k + 1) 0 (by omega) (by omega) ?_ h
      rcases Nat.lt_or_ge (f + k) j with hlt | hge
      · omega
      · have := hj (f + k - j) (by omega)
        rw [show j + (f + k - j) = f + k by omega] at this
        rw [this] at hbit; cases hbit
    · split at h
      · injection h with h; omega
      · exact ih (k + 1) (z + 1) (by omega) (by omega) (by omega) h

/-- From bit k on: the longest row of zeros so far begins at st and has ln, z zeros are behind k. -/
def lonGo (m : ByteArray) : Nat → Nat → Nat → Nat → Nat → Nat × Nat
  | 0, _, st, ln, _ => (st, ln)
  | fuel + 1, k, st, ln, z => if bitN m k then lonGo m fuel (k + 1) st ln 0 else if ln < z + 1 then lonGo m fuel (k + 1) (k - z) (z + 1) (z + 1) else lonGo m fuel (k + 1) st ln (z + 1)
def lonR (m : ByteArray) (n : Int) : Nat × Nat := lonGo m (endN m n) 0 0 0 0

set_option maxRecDepth 100000 in
theorem lon_lt (m : ByteArray) (len : Nat) : ∀ fuel k st ln z, z < len → ln < len → runGo m 0 len fuel k z = none → (lonGo m fuel k st ln z).2 < len := by
  intro fuel
  induction fuel with
  | zero => intro k st ln z _ h _; exact h
  | succ fuel ih =>
    intro k st ln z hz hl h
    unfold runGo at h
    unfold lonGo
    rw [Nat.zero_add] at h
    split at h
    · rename_i hb; rw [if_pos hb]; exact ih _ _ _ _ (by omega) hl h
    · rename_i hb
      rw [if_neg hb]
      split at h
      · cases h
      · split
        · exact ih _ _ _ _ (by omega) (by omega) h
        · exact ih _ _ _ _ (by omega) (by omega) h

end Go.Proofs.YtgdlfiejjnjcpaaGreat.Mk

namespace Go.Proofs.YtgdlfiejjnjcpaaGreat.Mk
open Go.RowKit
set_option maxRecDepth 100000 in
theorem ret_bool {a b : Bool} (h : a = b) : Ending.returned (.bool a) = .returned (.bool b) := by rw [h]
set_option maxRecDepth 100000 in
theorem ret_int {k : IntKind} {a b : Int} (h : a = b) : Ending.returned (.int k a) = .returned (.int k b) := by rw [h]

set_option maxRecDepth 100000 in
set_option maxHeartbeats 400000 in
theorem exists_any (m : ByteArray) (i : Int) (w : World) (_hm : m.size ≤ 1000000000000000) (hi : -9223372036854775808 ≤ i ∧ i ≤ 9223372036854775807) :
    Calls Tryz.prog 82 #[.string m, .int .i64 i] w fun e w' => e = .returned (.bool (exB m i)) ∧ w = w' := by
  by_cases h0 : 0 ≤ i
  · go_enter Tryz.func82, Tryz.ntmps82
    go_wp2
    go_ret
    refine ⟨ret_bool ?_, rfl⟩
    unfold exB
    simp [h0]
  · have h1 : decide (0 ≤ i) = false := by simpa using h0
    go_enter Tryz.func82, Tryz.ntmps82
    go_wp2
    go_ret
    refine ⟨ret_bool ?_, rfl⟩
    unfold exB
    rw [h1]; rfl

set_option maxRecDepth 100000 in
set_option maxHeartbeats 400000 in
theorem mask_any (k : Nat) (w : World) (hk : (k : Int) ≤ 9223372036854775807) :
    Calls Tryz.prog 83 #[.int .i64 (k : Int)] w fun e w' => e = .returned (.int .u8 (maskI k)) ∧ w = w' := by
  have hj : k % 8 = 0 ∨ k % 8 = 1 ∨ k % 8 = 2 ∨ k % 8 = 3 ∨ k % 8 = 4 ∨ k % 8 = 5 ∨ k % 8 = 6 ∨ k % 8 = 7 := by omega
  go_enter Tryz.func83, Tryz.ntmps83
  go_wp2
  go_ret
  refine ⟨ret_int ?_, rfl⟩
  unfold maskI
  rcases hj with h | h | h | h | h | h | h | h <;> rw [h] <;> rfl

set_option maxRecDepth 100000 in
set_option maxHeartbeats 400000 in
theorem end_any (m : ByteArray) (n : Int) (w : World) (hm : m.size ≤ 1000000000000000) (hn : -9223372036854775808 ≤ n ∧ n ≤ 9223372036854775807) :
    Calls Tryz.prog 151 #[.string m, .int .i64 n] w fun e w' => e = .returned (.int .i64 ((endN m n : Nat) : Int)) ∧ w = w' := by
  by_cases h0 : 0 ≤ n
  · go_enter Tryz.func151, Tryz.ntmps151
    go_wp2
    all_goals go_ret
    all_goals refine ⟨ret_int ?_, rfl⟩
    all_goals (unfold endN; omega)
  · go_enter Tryz.func151, Tryz.ntmps151
    go_wp2
    all_goals go_ret
    all_goals refine ⟨ret_int ?_, rfl⟩
    all_goals (unfold endN)
    · omega
    · have := Int.tdiv_le_tdiv (a := n) (b := 0) (c := 8) (by omega) (by omega); simp at this; omega

set_option maxRecDepth 100000 in
theorem quiet_left {P : Program} {f : FuncId} {args : Array Value} {w : World} {n : Nat} {v : Value}
    (h : Calls P f args (w.drewN n) fun e w' => e = .returned v ∧ w.drewN n = w') : Calls P f args (w.drewN n) fun e w'' => e = .returned v ∧ ∃ m, w'' = w.drewN m :=
  h.mono fun _ _ ⟨he, hm⟩ => ⟨he, n, hm.symm⟩

/-- Nothing but draws has happened. -/
def Drew (w w' : World) : Prop := ∃ n, w' = w.drewN n
set_option maxRecDepth 100000 in
theorem Drew.refl (w : World) : Drew w w := ⟨0, rfl⟩
set_option maxRecDepth 100000 in
theorem Drew.trans {a b c : World} (h : Drew a b) (k : Drew b c) : Drew a c := by
  obtain ⟨n, rfl⟩ := h
  obtain ⟨m, rfl⟩ := k
  exact ⟨n + m, World.drewN_drewN _ _ _⟩

set_option maxRecDepth 100000 in
theorem exists_is (b : Bool) (m : ByteArray) (i : Int) (w : World) (hm : m.size ≤ 1000000000000000) (hi : -9223372036854775808 ≤ i ∧ i ≤ 9223372036854775807) (h : exB m i = b) :
    Calls Tryz.prog 82 #[.string m, .int .i64 i] w fun e w' => e = .returned (.bool b) ∧ w = w' := by rw [← h]; exact exists_any m i w hm hi

set_option maxRecDepth 100000 in
set_option maxHeartbeats 8000000 in
theorem is_any (m : ByteArray) (i : Int) (w : World) (hm : m.size ≤ 1000000000000000) (hi : -9223372036854775808 ≤ i ∧ i ≤ 9223372036854775807) :
    Calls Tryz.prog 47 #[.string m, .int .i64 i] w fun e w' => e = .returned (.bool (isB m i)) ∧ Drew w w' := by
  cases hx : exB m i with
  | false =>
    have HS := Lib.hid (isB_none hx)
    have HX := Lib.hid hx
    clear hx
    go_enter Tryz.func47, Tryz.ntmps47
    go_wp2
    go_quiet ((go_at_call 82; exact quiet_left (exists_is false m i _ hm hi HX.out)))
    go_wp2
    go_ret
    exact ⟨ret_bool HS.out.symm, _, rfl⟩
  | true =>
    obtain ⟨h0, h1⟩ := exB_t hx
    have HX := Lib.hid hx
    clear hx
    obtain ⟨k, rfl⟩ := Int.eq_ofNat_of_zero_le h0
    have hk : k / 8 < m.size := by omega
    have HB : Hid ((bits .and .u8 ((m[k / 8]).toNat : Int) (maskI k) != 0) = isB m k) := by
      show _ = _
      unfold maskI
      rw [byte_and _ _ (by omega), isB_nat, bitN, if_pos hk, byte_at m _ hk]
    have ha : IntKind.i64.wrap ((k : Int) / 8) = (k : Int) / 8 := IntWalk.i64_in _ (by omega)
    have hb : (0 : Int) ≤ (k : Int) / 8 := by omega
    have hc : ((k : Int) / 8).toNat = k / 8 := by omega
    go_enter Tryz.func47, Tryz.ntmps47
    go_wp2
    go_quiet ((first | (go_at_call 82; exact quiet_left (exists_is true m k _ hm hi HX.out)) | (go_at_call 83; exact quiet_left (mask_any k _ hi.2))))
    go_wp2
    go_ret
    exact ⟨ret_bool HB.out, _, rfl⟩
end Go.Proofs.YtgdlfiejjnjcpaaGreat.Mk

namespace Go.Proofs.YtgdlfiejjnjcpaaGreat.Mk
open Go.RowKit

set_option maxRecDepth 100000 in
theorem is_nat (b : Bool) (m : ByteArray) (k : Nat) (w : World) (hm : m.size ≤ 1000000000000000) (hk : (k : Int) ≤ 9223372036854775807) (h : bitN m k = b) :
    Calls Tryz.prog 47 #[.string m, .int .i64 (k : Int)] w fun e w' => e = .returned (.bool b) ∧ Drew w w' := by
  rw [← h, ← isB_nat]; exact is_any m k w hm ⟨by omega, hk⟩

set_option maxRecDepth 100000 in
set_option maxHeartbeats 8000000 in
theorem count_any (m : ByteArray) (n : Int) (w : World) (hm : m.size ≤ 1000000000000000) (hn : -9223372036854775808 ≤ n ∧ n ≤ 9223372036854775807) :
    Calls Tryz.prog 31 #[.string m, .int .i64 n] w fun e w' => e = .returned (.int .i64 (cntR m n)) ∧ Drew w w' := by
  have HR : Hid (cntR m n = (cnt m (min n 100000).toNat : Nat)) := by show _ = _; rfl
  by_cases h9 : n ≤ 100000
  all_goals
    go_enter Tryz.func31, Tryz.ntmps31
    go_wp2
    go_loopw [5, 6, 9] (fun t _ i wr => ∃ k : Nat, (k : Int) ≤ max (min n 100000) 0 ∧ i = .int .i64 (k : Int) ∧ t = .int .i64 ((cnt m k : Nat) : Int) ∧ Drew w wr) (fun _ _ i _ => 100000 - (intOf i).toNat)
    case atStart => exact ⟨0, by omega, rfl, rfl, Drew.refl _⟩
    case round =>
      obtain ⟨k, hk, rfl, rfl, hd⟩ := hrel
      have hc := cnt_le m k
      by_cases hlt : (k : Int) < min n 100000
      · have h1 : (k : Int) < n := by omega
        have h2 : (k : Int) < 100000 := by omega
        cases hb : bitN m k with
        | false =>
          have HS : Hid (cnt m (k + 1) = cnt m k) := by show _ = _; simp [cnt, hb]
          have HB := Lib.hid hb
          clear hb
          generalize cnt m k = c at *
          go_wp2_with fail
          refine (is_nat false m k wr hm (by omega) HB.out).mono ?_
          rintro e w' ⟨rfl, hd'⟩
          go_wp2
          go_roundw
          case rel => exact ⟨k + 1, by omega, by go_num, by rw [HS.out], hd.trans hd'⟩
          case measure => simp [intOf]; omega
        | true =>
          have HS : Hid (cnt m (k + 1) = cnt m k + 1) := by show _ = _; simp [cnt, hb]
          have HB := Lib.hid hb
          clear hb
          generalize cnt m k = c at *
          go_wp2_with fail
          refine (is_nat true m k wr hm (by omega) HB.out).mono ?_
          rintro e w' ⟨rfl, hd'⟩
          go_wp2
          go_roundw
          case rel => exact ⟨k + 1, by omega, by go_num, by rw [HS.out]; go_num, hd.trans hd'⟩
          case measure => simp [intOf]; omega
      · first | (have hge : ¬ (k : Int) < 100000 := by omega) | (have hge : ¬ (k : Int) < n := by omega)
        have hke : (min n 100000).toNat = k := by omega
        have HE : Hid (cntR m n = (cnt m k : Nat)) := by show _ = _; rw [HR.out, hke]
        clear hke
        go_wp2
        go_ret
        exact ⟨ret_int HE.out.symm, hd⟩

set_option maxRecDepth 100000 in
theorem runGo_one {m : ByteArray} {f len fuel k z : Nat} (h : bitN m (f + k) = true) : runGo m f len (fuel + 1) k z = runGo m f len fuel (k + 1) 0 := by rw [runGo, if_pos h]
set_option maxRecDepth 100000 in
theorem runGo_hit {m : ByteArray} {f len fuel k z : Nat} (h : bitN m (f + k) = false) (he : z + 1 = len) : runGo m f len (fuel + 1) k z = some (f + k + 1 - len) := by rw [runGo, if_neg (by simp [h]), if_pos he]
set_option maxRecDepth 100000 in
theorem runGo_zero {m : ByteArray} {f len fuel k z : Nat} (h : bitN m (f + k) = false) (he : z + 1 ≠ len) : runGo m f len (fuel + 1) k z = runGo m f len fuel (k + 1) (z + 1) := by rw [runGo, if_neg (by simp [h]), if_neg he]
set_option maxRecDepth 100000 in
theorem ret_int_bool {a b : Int} {c d : Bool} (h : a = b) (h' : c = d) : Ending.returned (.tuple #[.int .i64 a, .bool c]) = .returned (.tuple #[.int .i64 b, .bool d]) := by rw [h, h']
set_option maxRecDepth 100000 in
theorem endN_le (m : ByteArray) (n : Int) : endN m n ≤ 8 * m.size := by unfold endN; omega

set_option maxRecDepth 100000 in
set_option maxHeartbeats 8000000 in
theorem run_pos (m : ByteArray) (F : Nat) (n : Int) (L : Nat) (w : World) (hm : m.size ≤ 1000000000000) (hFb : (F : Int) ≤ 9223372036854775807)
    (hn : -9223372036854775808 ≤ n ∧ n ≤ 9223372036854775807) (hl : (L : Int) ≤ 9223372036854775807) (hL1 : 1 ≤ L) :
    Calls Tryz.prog 146 #[.string m, .int .i64 (F : Int), .int .i64 n, .int .i64 (L : Int)] w fun e w' => e = .returned (.tuple #[.int .i64 (runI (runGo m F L (endN m n - F) 0 0)), .bool (runB (runGo m F L (endN m n - F) 0 0))]) ∧ Drew w w' := by
  have hE := endN_le m n
  have HE := Lib.hid (end_any m n w (by omega) hn)
  generalize endN m n = E at *
  obtain ⟨res, hres⟩ : ∃ res, res = runGo m F L (E - F) 0 0 := ⟨_, rfl⟩
  rw [← hres]
  have HR := Lib.hid hres
  clear hres
  go_enter Tryz.func146, Tryz.ntmps146
  go_wp2_with fail
  refine HE.out.mono ?_
  rintro e w' ⟨rfl, rfl⟩
  go_wp2
  go_loopw [10, 11, 12, 22] (fun z _ _ i wr => ∃ k zn : Nat, k ≤ E - F ∧ i = .int .i64 (k : Int) ∧ z = .int .i64 (zn : Int) ∧ zn ≤ k ∧ zn < L ∧ Hid (res = runGo m F L (E - F - k) k zn) ∧ Drew w wr) (fun _ _ _ i _ => E - (intOf i).toNat)
  case atStart => exact ⟨0, 0, by omega, rfl, rfl, by omega, by omega, HR, Drew.refl _⟩
  case round =>
    obtain ⟨k, zn, hk, rfl, rfl, hz, hzL, HG, hd⟩ := hrel
    by_cases hlt : k < E - F
    · have h2 : decide ((k : Int) < (E : Int) - F) = true := by simp; omega
      obtain ⟨fu, hfu⟩ : ∃ fu, E - F - k = fu + 1 := ⟨E - F - k - 1, by omega⟩
      have hfu2 : fu = E - F - (k + 1) := by omega
      have hFk : ((F + k : Nat) : Int) = (F : Int) + (k : Int) := by omega
      rw [hfu] at HG
      cases hb : bitN m (F + k) with
      | true =>
        have HS : Hid (res = runGo m F L (E - F - (k + 1)) (k + 1) 0) := by show _ = _; rw [HG.out, runGo_one hb, hfu2]
        have HI := Lib.hid (is_nat true m (F + k) wr (by omega) (by omega) hb)
        rw [hFk] at HI
        clear hb hfu hfu2 hFk HG
        go_wp2_with fail
        refine HI.out.mono ?_
        rintro e w' ⟨rfl, hd'⟩
        go_wp2
        go_roundw
        case rel => exact ⟨k + 1, 0, by omega, by go_num, rfl, by omega, by omega, HS, hd.trans hd'⟩
        case measure => simp [intOf]; omega
      | false =>
        have HI := Lib.hid (is_nat false m (F + k) wr (by omega) (by omega) hb)
        rw [hFk] at HI
        by_cases he : zn + 1 = L
        · have HS : Hid (res = some (F + k + 1 - L)) := by show _ = _; rw [HG.out, runGo_hit hb he]
          have hq : ((zn : Int) + 1 == (L : Int)) = true := by simp; omega
          have hle : L ≤ zn + 1 := by omega
          clear hb hfu hfu2 hFk HG he
          go_wp2_with fail
          refine HI.out.mono ?_
          rintro e w' ⟨rfl, hd'⟩
          go_wp2
          go_ret2
          rw [HS.out]
          exact ⟨ret_int_bool (by simp only [runI]; omega) rfl, hd.trans hd'⟩
        · have HS : Hid (res = runGo m F L (E - F - (k + 1)) (k + 1) (zn + 1)) := by show _ = _; rw [HG.out, runGo_zero hb he, hfu2]
          have hq : ((zn : Int) + 1 == (L : Int)) = false := by simp; omega
          have hz1 : zn + 1 < L := by omega
          clear hb hfu hfu2 hFk HG he
          go_wp2_with fail
          refine HI.out.mono ?_
          rintro e w' ⟨rfl, hd'⟩
          go_wp2
          go_roundw
          case rel => exact ⟨k + 1, zn + 1, by omega, by go_num, by go_num, by omega, by omega, HS, hd.trans hd'⟩
          case measure => simp [intOf]; omega
    · have h2 : decide ((k : Int) < (E : Int) - F) = false := by simp; omega
      have HN : Hid (res = none) := by show _ = _; rw [HG.out, show E - F - k = 0 by omega]; rfl
      clear HG
      go_wp2
      go_ret2
      rw [HN.out]
      exact ⟨rfl, hd⟩

set_option maxRecDepth 100000 in
set_option maxHeartbeats 8000000 in
theorem run_neg (m : ByteArray) (fr : Int) (n : Int) (L : Nat) (w : World) (hm : m.size ≤ 1000000000000) (hf : -9223372036854775808 ≤ fr ∧ fr < 0)
    (hn : -9223372036854775808 ≤ n ∧ n ≤ 9223372036854775807) (hl : (L : Int) ≤ 9223372036854775807) (hL1 : 1 ≤ L) :
    Calls Tryz.prog 146 #[.string m, .int .i64 fr, .int .i64 n, .int .i64 (L : Int)] w fun e w' => e = .returned (.tuple #[.int .i64 (runI (runGo m 0 L (endN m n - 0) 0 0)), .bool (runB (runGo m 0 L (endN m n - 0) 0 0))]) ∧ Drew w w' := by
  have hE := endN_le m n
  have HE := Lib.hid (end_any m n w (by omega) hn)
  generalize endN m n = E at *
  obtain ⟨res, hres⟩ : ∃ res, res = runGo m 0 L (E - 0) 0 0 := ⟨_, rfl⟩
  rw [← hres]
  have HR := Lib.hid hres
  clear hres
  go_enter Tryz.func146, Tryz.ntmps146
  go_wp2_with fail
  refine HE.out.mono ?_
  rintro e w' ⟨rfl, rfl⟩
  go_wp2
  go_loopw [10, 11, 12, 22] (fun z _ _ i wr => ∃ k zn : Nat, k ≤ E ∧ i = .int .i64 (k : Int) ∧ z = .int .i64 (zn : Int) ∧ zn ≤ k ∧ zn < L ∧ Hid (res = runGo m 0 L (E - k) k zn) ∧ Drew w wr) (fun _ _ _ i _ => E - (intOf i).toNat)
  case atStart => exact ⟨0, 0, by omega, rfl, rfl, by omega, by omega, HR, Drew.refl _⟩
  case round =>
    obtain ⟨k, zn, hk, rfl, rfl, hz, hzL, HG, hd⟩ := hrel
    by_cases hlt : k < E
    · have h2 : decide (k < E) = true := by simp; omega
      obtain ⟨fu, hfu⟩ : ∃ fu, E - k = fu + 1 := ⟨E - k - 1, by omega⟩
      have hfu2 : fu = E - (k + 1) := by omega
      have hFk : 0 + k = k := by omega
      rw [hfu] at HG
      cases hb : bitN m (0 + k) with
      | true =>
        have HS : Hid (res = runGo m 0 L (E - (k + 1)) (k + 1) 0) := by show _ = _; rw [HG.out, runGo_one hb, hfu2]
        have HI := Lib.hid (is_nat true m (0 + k) wr (by omega) (by omega) hb)
        rw [hFk] at HI
        clear hb hfu hfu2 hFk HG
        go_wp2_with fail
        refine HI.out.mono ?_
        rintro e w' ⟨rfl, hd'⟩
        go_wp2
        go_roundw
        case rel => exact ⟨k + 1, 0, by omega, by go_num, rfl, by omega, by omega, HS, hd.trans hd'⟩
        case measure => simp [intOf]; omega
      | false =>
        have HI := Lib.hid (is_nat false m (0 + k) wr (by omega) (by omega) hb)
        rw [hFk] at HI
        by_cases he : zn + 1 = L
        · have HS : Hid (res = some (0 + k + 1 - L)) := by show _ = _; rw [HG.out, runGo_hit hb he]
          have hq : ((zn : Int) + 1 == (L : Int)) = true := by simp; omega
          have hle : L ≤ zn + 1 := by omega
          clear hb hfu hfu2 hFk HG he
          go_wp2_with fail
          refine HI.out.mono ?_
          rintro e w' ⟨rfl, hd'⟩
          go_wp2
          go_ret2
          rw [HS.out]
          exact ⟨ret_int_bool (by simp only [runI]; omega) rfl, hd.trans hd'⟩
        · have HS : Hid (res = runGo m 0 L (E - (k + 1)) (k + 1) (zn + 1)) := by show _ = _; rw [HG.out, runGo_zero hb he, hfu2]
          have hq : ((zn : Int) + 1 == (L : Int)) = false := by simp; omega
          have hz1 : zn + 1 < L := by omega
          clear hb hfu hfu2 hFk HG he
          go_wp2_with fail
          refine HI.out.mono ?_
          rintro e w' ⟨rfl, hd'⟩
          go_wp2
          go_roundw
          case rel => exact ⟨k + 1, zn + 1, by omega, by go_num, by go_num, by omega, by omega, HS, hd.trans hd'⟩
          case measure => simp [intOf]; omega
    · have h2 : decide (k < E) = false := by simp; omega
      have HN : Hid (res = none) := by show _ = _; rw [HG.out, show E - k = 0 by omega]; rfl
      clear HG
      go_wp2
      go_ret2
      rw [HN.out]
      exact ⟨rfl, hd⟩

set_option maxRecDepth 100000 in
set_option maxHeartbeats 8000000 in
theorem run_any (m : ByteArray) (fr n len : Int) (w : World) (hm : m.size ≤ 1000000000000) (hf : -9223372036854775808 ≤ fr ∧ fr ≤ 9223372036854775807)
    (hn : -9223372036854775808 ≤ n ∧ n ≤ 9223372036854775807) (hl : -9223372036854775808 ≤ len ∧ len ≤ 9223372036854775807) :
    Calls Tryz.prog 146 #[.string m, .int .i64 fr, .int .i64 n, .int .i64 len] w fun e w' => e = .returned (.tuple #[.int .i64 (runI (runR m fr n len)), .bool (runB (runR m fr n len))]) ∧ Drew w w' := by
  by_cases h1 : len < 1
  · have HR : Hid (runR m fr n len = none) := by show _ = _; unfold runR; rw [if_pos h1]
    go_enter Tryz.func146, Tryz.ntmps146
    go_wp2
    go_ret2
    rw [HR.out]
    exact ⟨rfl, Drew.refl _⟩
  · unfold runR
    rw [if_neg h1]
    obtain ⟨L, rfl⟩ : ∃ L : Nat, len = (L : Int) := ⟨len.toNat, by omega⟩
    rw [Int.toNat_natCast]
    by_cases h0 : 0 ≤ fr
    · obtain ⟨F, rfl⟩ := Int.eq_ofNat_of_zero_le h0
      exact run_pos m F n L w hm hf.2 hn hl.2 (by omega)
    · rw [show fr.toNat = 0 by omega]
      exact run_neg m fr n L w hm (by omega) hn hl.2 (by omega)

set_option maxRecDepth 100000 in
theorem lonGo_one {m : ByteArray} {fuel k st ln z : Nat} (h : bitN m k = true) : lonGo m (fuel + 1) k st ln z = lonGo m fuel (k + 1) st ln 0 := by rw [lonGo, if_pos h]
set_option maxRecDepth 100000 in
theorem lonGo_more {m : ByteArray} {fuel k st ln z : Nat} (h : bitN m k = false) (he : ln < z + 1) : lonGo m (fuel + 1) k st ln z = lonGo m fuel (k + 1) (k - z) (z + 1) (z + 1) := by rw [lonGo, if_neg (by simp [h]), if_pos he]
set_option maxRecDepth 100000 in
theorem lonGo_same {m : ByteArray} {fuel k st ln z : Nat} (h : bitN m k = false) (he : ¬ ln < z + 1) : lonGo m (fuel + 1) k st ln z = lonGo m fuel (k + 1) st ln (z + 1) := by rw [lonGo, if_neg (by simp [h]), if_neg he]

set_option maxRecDepth 100000 in
set_option maxHeartbeats 8000000 in
theorem longest_any (m : ByteArray) (n : Int) (w : World) (hm : m.size ≤ 1000000000000) (hn : -9223372036854775808 ≤ n ∧ n ≤ 9223372036854775807) :
    Calls Tryz.prog 147 #[.string m, .int .i64 n] w fun e w' => e = .returned (.tuple #[.int .i64 ((lonR m n).1 : Nat), .int .i64 ((lonR m n).2 : Nat)]) ∧ Drew w w' := by
  have HR : Hid (lonR m n = lonGo m (endN m n) 0 0 0 0) := by show _ = _; rfl
  have hE := endN_le m n
  have HE := Lib.hid (end_any m n w (by omega) hn)
  generalize lonR m n = res at *
  generalize endN m n = E at *
  go_enter Tryz.func147, Tryz.ntmps147
  go_wp2_with fail
  refine HE.out.mono ?_
  rintro e w' ⟨rfl, rfl⟩
  go_wp2
  go_loopw [6, 7, 8, 9, 13] (fun s l z _ i wr => ∃ k st ln zn : Nat, k ≤ E ∧ i = .int .i64 (k : Int) ∧ s = .int .i64 (st : Int) ∧ l = .int .i64 (ln : Int) ∧ z = .int .i64 (zn : Int) ∧ zn ≤ k ∧ ln ≤ k ∧ Hid (res = lonGo m (E - k) k st ln zn) ∧ Drew w wr) (fun _ _ _ _ i _ => E - (intOf i).toNat)
  case atStart => exact ⟨0, 0, 0, 0, by omega, rfl, rfl, rfl, rfl, by omega, by omega, HR, Drew.refl _⟩
  case round =>
    obtain ⟨k, st, ln, zn, hk, rfl, rfl, rfl, rfl, hz, hl, HG, hd⟩ := hrel
    by_cases hlt : k < E
    · obtain ⟨fu, hfu⟩ : ∃ fu, E - k = fu + 1 := ⟨E - k - 1, by omega⟩
      have hfu2 : fu = E - (k + 1) := by omega
      rw [hfu] at HG
      cases hb : bitN m k with
      | true =>
        have HS : Hid (res = lonGo m (E - (k + 1)) (k + 1) st ln 0) := by show _ = _; rw [HG.out, lonGo_one hb, hfu2]
        have HI := Lib.hid (is_nat true m k wr (by omega) (by omega) hb)
        clear hb hfu hfu2 HG
        go_wp2_with fail
        refine HI.out.mono ?_
        rintro e w' ⟨rfl, hd'⟩
        go_wp2
        go_roundw
        case rel => exact ⟨k + 1, st, ln, 0, by omega, by go_num, rfl, rfl, rfl, by omega, by omega, HS, hd.trans hd'⟩
        case measure => simp [intOf]; omega
      | false =>
        have HI := Lib.hid (is_nat false m k wr (by omega) (by omega) hb)
        by_cases he : ln < zn + 1
        · have HS : Hid (res = lonGo m (E - (k + 1)) (k + 1) (k - zn) (zn + 1) (zn + 1)) := by show _ = _; rw [HG.out, lonGo_more hb he, hfu2]
          have hq : (ln : Int) < (zn : Int) + 1 := by omega
          have hkz : (k : Int) - ((zn : Int) + 1) + 1 = ((k - zn : Nat) : Int) := by omega
          have HKZ := Lib.hid hkz
          clear hb hfu hfu2 HG he hkz
          go_wp2_with fail
          refine HI.out.mono ?_
          rintro e w' ⟨rfl, hd'⟩
          go_wp2
          go_roundw
          case rel => exact ⟨k + 1, k - zn, zn + 1, zn + 1, by omega, by go_num, by rw [← HKZ.out], by go_num, by go_num, by omega, by omega, HS, hd.trans hd'⟩
          case measure => simp [intOf]; omega
        · have HS : Hid (res = lonGo m (E - (k + 1)) (k + 1) st ln (zn + 1)) := by show _ = _; rw [HG.out, lonGo_same hb he, hfu2]
          have hq : ¬ (ln : Int) < (zn : Int) + 1 := by omega
          clear hb hfu hfu2 HG he
          go_wp2_with fail
          refine HI.out.mono ?_
          rintro e w' ⟨rfl, hd'⟩
          go_wp2
          go_roundw
          case rel => exact ⟨k + 1, st, ln, zn + 1, by omega, by go_num, rfl, rfl, by go_num, by omega, by omega, HS, hd.trans hd'⟩
          case measure => simp [intOf]; omega
    · have HN : Hid (res = (st, ln)) := by show _ = _; rw [HG.out, show E - k = 0 by omega]; rfl
      clear HG
      go_wp2
      go_ret2
      rw [HN.out]
      exact ⟨rfl, hd⟩

end Go.Proofs.YtgdlfiejjnjcpaaGreat.Mk
