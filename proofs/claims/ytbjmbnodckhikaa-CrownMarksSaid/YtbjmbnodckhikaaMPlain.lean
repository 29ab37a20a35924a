/-
  PLAIN MATHEMATICS of layer 3 (marks): bits of bytes, one bit set, how many are 1, the first run of zeros, the longest one. No condition.
-/
import Derived.Laws.BitsAllLaws
import Derived.IntWalk
namespace Go.Proofs.Ytbjmbnodckhikaa

/-- The byte with the index k (0 beyond the last one). -/
def byteN (m : ByteArray) (k : Nat) : UInt8 := m.data.toList.getD k 0
/-- Bit k: those that do not exist read as 1. -/
def bitN (m : ByteArray) (k : Nat) : Bool := if k / 8 < m.size then (byteN m (k / 8)).toNat.testBit (k % 8) else true
/-- Does bit i exist? -/
def exB (m : ByteArray) (i : Int) : Bool := decide (0 ≤ i) && decide (i / 8 < (m.size : Int))
def isB (m : ByteArray) (i : Int) : Bool := if 0 ≤ i then bitN m i.toNat else true
/-- The value of bit k in its byte. -/
def maskI (k : Nat) : Int := ((2 ^ (k % 8) : Nat) : Int)
/-- A byte with its bit j set. -/
def setByte (x : UInt8) (j : Nat) (yes : Bool) : UInt8 :=
  UInt8.ofNat (if yes then x.toNat ||| 2 ^ j else x.toNat &&& (255 ^^^ 2 ^ j))
def setN (m : ByteArray) (k : Nat) (yes : Bool) : ByteArray :=
  if k / 8 < m.size then ⟨(m.data.toList.set (k / 8) (setByte (byteN m (k / 8)) (k % 8) yes)).toArray⟩ else m
def setR (m : ByteArray) (i : Int) (yes : Bool) : ByteArray := if 0 ≤ i then setN m i.toNat yes else m

theorem byte_at (m : ByteArray) (k : Nat) (h : k < m.size) : byteN m k = m[k] := by
  unfold byteN
  rw [List.getD, List.getElem?_eq_getElem (show k < m.data.toList.length by simpa using h)]
  rfl

theorem byte_and_all : ∀ x : Fin 256, ∀ j : Fin 8, (bits .and .u8 (x.val : Int) ((2 ^ j.val : Nat) : Int) != 0) = x.val.testBit j.val := by decide +kernel
theorem byte_or_all : ∀ x : Fin 256, ∀ j : Fin 8, bits .or .u8 (x.val : Int) ((2 ^ j.val : Nat) : Int) = ((x.val ||| 2 ^ j.val : Nat) : Int) := by decide +kernel
theorem byte_andNot_all : ∀ x : Fin 256, ∀ j : Fin 8, bits .andNot .u8 (x.val : Int) ((2 ^ j.val : Nat) : Int) = ((x.val &&& (255 ^^^ 2 ^ j.val) : Nat) : Int) := by decide +kernel
theorem byte_xor_all : ∀ x : Fin 256, ∀ j : Fin 8, bits .xor .u8 (x.val : Int) ((2 ^ j.val : Nat) : Int) = if x.val.testBit j.val then ((x.val &&& (255 ^^^ 2 ^ j.val) : Nat) : Int) else ((x.val ||| 2 ^ j.val : Nat) : Int) := by decide +kernel
theorem set_or_lt : ∀ x : Fin 256, ∀ j : Fin 8, x.val ||| 2 ^ j.val < 256 ∧ x.val &&& (255 ^^^ 2 ^ j.val) < 256 := by decide +kernel
theorem set_bit_all : ∀ x : Fin 256, ∀ j : Fin 8, ∀ t : Fin 8, (x.val ||| 2 ^ j.val).testBit t.val = (decide (t = j) || x.val.testBit t.val) ∧ (x.val &&& (255 ^^^ 2 ^ j.val)).testBit t.val = (!decide (t = j) && x.val.testBit t.val) := by decide +kernel
theorem set_back_all : ∀ x : Fin 256, ∀ j : Fin 8, (if x.val.testBit j.val then (x.val &&& (255 ^^^ 2 ^ j.val)) ||| 2 ^ j.val = x.val ∧ x.val ||| 2 ^ j.val = x.val else (x.val ||| 2 ^ j.val) &&& (255 ^^^ 2 ^ j.val) = x.val ∧ x.val &&& (255 ^^^ 2 ^ j.val) = x.val) := by decide +kernel


theorem byte_and (x : UInt8) (j : Nat) (hj : j < 8) : (bits .and .u8 (x.toNat : Int) ((2 ^ j : Nat) : Int) != 0) = x.toNat.testBit j := byte_and_all ⟨x.toNat, x.toNat_lt⟩ ⟨j, hj⟩
theorem byte_or (x : UInt8) (j : Nat) (hj : j < 8) : bits .or .u8 (x.toNat : Int) ((2 ^ j : Nat) : Int) = ((setByte x j true).toNat : Int) := by
  rw [byte_or_all ⟨x.toNat, x.toNat_lt⟩ ⟨j, hj⟩]
  unfold setByte
  have := set_or_lt ⟨x.toNat, x.toNat_lt⟩ ⟨j, hj⟩
  simp only [if_pos, UInt8.toNat_ofNat'] at *
  rw [Nat.mod_eq_of_lt (by exact this.1)]
theorem byte_andNot (x : UInt8) (j : Nat) (hj : j < 8) : bits .andNot .u8 (x.toNat : Int) ((2 ^ j : Nat) : Int) = ((setByte x j false).toNat : Int) := by
  rw [byte_andNot_all ⟨x.toNat, x.toNat_lt⟩ ⟨j, hj⟩]
  unfold setByte
  have := set_or_lt ⟨x.toNat, x.toNat_lt⟩ ⟨j, hj⟩
  simp only [Bool.false_eq_true, if_false, UInt8.toNat_ofNat'] at *
  rw [Nat.mod_eq_of_lt (by exact this.2)]
theorem byte_xor (x : UInt8) (j : Nat) (hj : j < 8) : bits .xor .u8 (x.toNat : Int) ((2 ^ j : Nat) : Int) = ((setByte x j (!x.toNat.testBit j)).toNat : Int) := by
  rw [byte_xor_all ⟨x.toNat, x.toNat_lt⟩ ⟨j, hj⟩]
  unfold setByte
  have := set_or_lt ⟨x.toNat, x.toNat_lt⟩ ⟨j, hj⟩
  cases hb : x.toNat.testBit j <;> simp only [hb, Bool.not_true, Bool.not_false, Bool.false_eq_true, if_true, if_false, UInt8.toNat_ofNat'] at *
  · rw [Nat.mod_eq_of_lt (by exact this.1)]
  · rw [Nat.mod_eq_of_lt (by exact this.2)]
theorem setByte_nat (x : UInt8) (j : Nat) (hj : j < 8) (yes : Bool) : (setByte x j yes).toNat = if yes then x.toNat ||| 2 ^ j else x.toNat &&& (255 ^^^ 2 ^ j) := by
  unfold setByte
  have := set_or_lt ⟨x.toNat, x.toNat_lt⟩ ⟨j, hj⟩
  rw [UInt8.toNat_ofNat']
  cases yes <;> simp only [Bool.false_eq_true, if_true, if_false] at *
  · rw [Nat.mod_eq_of_lt (by exact this.2)]
  · rw [Nat.mod_eq_of_lt (by exact this.1)]
theorem setByte_bit (x : UInt8) (j t : Nat) (hj : j < 8) (ht : t < 8) (yes : Bool) : (setByte x j yes).toNat.testBit t = if t = j then yes else x.toNat.testBit t := by
  rw [setByte_nat x j hj]
  have h := set_bit_all ⟨x.toNat, x.toNat_lt⟩ ⟨j, hj⟩ ⟨t, ht⟩
  simp only [Fin.mk.injEq] at h
  cases yes
  · simp only [Bool.false_eq_true, if_false]; rw [h.2]; by_cases e : t = j <;> simp [e]
  · simp only [if_true]; rw [h.1]; by_cases e : t = j <;> simp [e]
theorem setByte_back (x : UInt8) (j : Nat) (hj : j < 8) (yes : Bool) : setByte (setByte x j yes) j (x.toNat.testBit j) = x := by
  apply UInt8.toNat_inj.1
  rw [setByte_nat _ j hj, setByte_nat x j hj]
  have h := set_back_all ⟨x.toNat, x.toNat_lt⟩ ⟨j, hj⟩
  cases hb : x.toNat.testBit j <;> simp only [hb, Bool.false_eq_true, if_true, if_false] at h ⊢ <;> cases yes <;> simp [h]

theorem size_setN (m : ByteArray) (k : Nat) (yes : Bool) : (setN m k yes).size = m.size := by
  unfold setN
  split
  · show (List.set _ _ _).toArray.size = _
    simp
  · rfl
theorem byte_setN (m : ByteArray) (k t : Nat) (yes : Bool) (h : k / 8 < m.size) : byteN (setN m k yes) t = if t = k / 8 then setByte (byteN m (k / 8)) (k % 8) yes else byteN m t := by
  unfold setN
  rw [if_pos h]
  show (List.set _ _ _).getD t 0 = _
  by_cases e : t = k / 8
  · subst e; rw [if_pos rfl, List.getD, List.getElem?_set_self (by simpa using h)]; rfl
  · rw [if_neg e, List.getD, List.getElem?_set_ne (by omega)]; rfl
theorem bit_setN (m : ByteArray) (k t : Nat) (yes : Bool) (h : k / 8 < m.size) : bitN (setN m k yes) t = if t = k then yes else bitN m t := by
  unfold bitN
  rw [size_setN]
  by_cases ht : t / 8 < m.size
  · rw [if_pos ht, if_pos ht, byte_setN m k _ yes h]
    by_cases e : t / 8 = k / 8
    · rw [if_pos e, setByte_bit _ _ _ (by omega) (by omega), ← e]
      by_cases e2 : t = k
      · rw [if_pos e2, if_pos (by omega)]
      · rw [if_neg e2, if_neg (by omega)]
    · rw [if_neg e, if_neg (by omega)]
  · rw [if_neg ht, if_neg ht]
    have : t ≠ k := by rintro rfl; exact ht h
    rw [if_neg this]
theorem ba_ext {a b : ByteArray} (hs : a.size = b.size) (h : ∀ t, t < a.size → byteN a t = byteN b t) : a = b := by
  apply ByteArray.ext
  apply Array.ext'
  apply List.ext_getElem (by simpa using hs)
  intro t h1 h2
  have := h t (by simpa using h1)
  unfold byteN at this
  simpa [List.getD, List.getElem?_eq_getElem h1, List.getElem?_eq_getElem h2] using this
theorem setN_back (m : ByteArray) (k : Nat) (yes : Bool) (h : k / 8 < m.size) : setN (setN m k yes) k (bitN m k) = m := by
  apply ba_ext
  · rw [size_setN, size_setN]
  · intro t ht
    rw [byte_setN _ _ _ _ (by rw [size_setN]; exact h)]
    by_cases e : t = k / 8
    · rw [if_pos e, byte_setN _ _ _ _ h, if_pos rfl, e]
      have hb : bitN m k = (byteN m (k / 8)).toNat.testBit (k % 8) := by unfold bitN; rw [if_pos h]
      rw [hb, setByte_back _ _ (by omega)]
    · rw [if_neg e, byte_setN _ _ _ _ h, if_neg e]
theorem setN_same (m : ByteArray) (k : Nat) (yes : Bool) (h : bitN m k = yes) : setN m k yes = m := by
  by_cases hx : k / 8 < m.size
  · have h1 := setN_back m k yes hx
    apply ba_ext
    · rw [size_setN]
    · intro t ht
      rw [byte_setN _ _ _ _ hx]
      by_cases e : t = k / 8
      · rw [if_pos e]
        apply UInt8.toNat_inj.1
        have hb : bitN m k = (byteN m (k / 8)).toNat.testBit (k % 8) := by unfold bitN; rw [if_pos hx]
        rw [hb] at h
        rw [setByte_nat _ _ (by omega), e]
        have h2 := set_back_all ⟨(byteN m (k / 8)).toNat, (byteN m (k / 8)).toNat_lt⟩ ⟨k % 8, by omega⟩
        cases yes <;> simp only [h, Bool.false_eq_true, if_true, if_false] at h2 ⊢ <;> simp [h2]
      · rw [if_neg e]
  · unfold setN; rw [if_neg hx]

theorem exB_t {m : ByteArray} {i : Int} (h : exB m i = true) : 0 ≤ i ∧ i / 8 < (m.size : Int) := by unfold exB at h; simpa using h
theorem exB_f {m : ByteArray} {i : Int} (h : exB m i = false) : i < 0 ∨ (m.size : Int) ≤ i / 8 := by
  unfold exB at h
  simp only [Bool.and_eq_false_iff, decide_eq_false_iff_not] at h
  omega
theorem isB_none {m : ByteArray} {i : Int} (h : exB m i = false) : isB m i = true := by
  unfold isB bitN
  have := exB_f h
  by_cases h0 : 0 ≤ i
  · rw [if_pos h0, if_neg (by omega)]
  · rw [if_neg h0]
theorem isB_nat (m : ByteArray) (k : Nat) : isB m (k : Int) = bitN m k := by unfold isB; rw [if_pos (by omega)]; rfl
theorem setR_none {m : ByteArray} {i : Int} (h : exB m i = false) (yes : Bool) : setR m i yes = m := by
  unfold setR setN
  have := exB_f h
  by_cases h0 : 0 ≤ i
  · rw [if_pos h0, if_neg (by omega)]
  · rw [if_neg h0]
theorem setR_nat (m : ByteArray) (k : Nat) (yes : Bool) : setR m (k : Int) yes = setN m k yes := by unfold setR; rw [if_pos (by omega)]; rfl
theorem setR_size (m : ByteArray) (i : Int) (yes : Bool) : (setR m i yes).size = m.size := by
  unfold setR; split
  · exact size_setN _ _ _
  · rfl

/-- How many of the first n bits are 1. -/
def cnt (m : ByteArray) : Nat → Nat
  | 0 => 0
  | n + 1 => cnt m n + if bitN m n then 1 else 0
theorem cnt_le (m : ByteArray) : ∀ n, cnt m n ≤ n
  | 0 => Nat.le_refl _
  | n + 1 => by have := cnt_le m n; unfold cnt; split <;> omega
theorem cnt_set (m : ByteArray) (k : Nat) (h : k / 8 < m.size) (hb : bitN m k = false) : ∀ n, cnt (setN m k true) n = cnt m n + if k < n then 1 else 0
  | 0 => by simp [cnt]
  | n + 1 => by
    unfold cnt
    rw [cnt_set m k h hb n, bit_setN m k n true h]
    by_cases e : n = k
    · subst e; simp [hb]
    · rw [if_neg e]
      have hk : (k < n + 1) = (k < n) := propext ⟨fun _ => by omega, fun _ => by omega⟩
      simp only [hk]
      omega
def cntR (m : ByteArray) (n : Int) : Int := (cnt m (min n 100000).toNat : Nat)

/-- How many bits a search within n visits. -/
def endN (m : ByteArray) (n : Int) : Nat := min n.toNat (8 * m.size)

end Go.Proofs.Ytbjmbnodckhikaa
