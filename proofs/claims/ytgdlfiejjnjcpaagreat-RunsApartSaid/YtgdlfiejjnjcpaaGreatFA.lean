/-
  PLAIN MATHEMATICS of stock: marks joined, the first row of free blocks, the longest one, how many are free. No condition.
-/
import Derived.Test.YtgdlfiejjnjcpaaGreatBU
set_option linter.unusedVariables false
set_option linter.unusedSimpArgs false
namespace Go.Proofs.YtgdlfiejjnjcpaaGreat.Dl
open Mk
open Kr (marksK bit_marks bit_far marks_size)

/-! ### marks joined -/
/-- the bytes of a, the first k of them joined with those of m. -/
def orB (m a : ByteArray) : Nat → ByteArray
  | 0 => a
  | k + 1 => ⟨((orB m a k).data.toList.set k (byteN a k ||| byteN m k)).toArray⟩
theorem orB_size (m a : ByteArray) : ∀ k, (orB m a k).size = a.size
  | 0 => rfl
  | k + 1 => by
    have ih := orB_size m a k
    unfold orB
    show (List.set _ _ _).toArray.size = _
    simpa using ih
theorem byte_orB (m a : ByteArray) (t : Nat) : ∀ k, k ≤ a.size → byteN (orB m a k) t = if t < k then byteN a t ||| byteN m t else byteN a t
  | 0, _ => by rw [orB, if_neg (by omega)]
  | k + 1, h => by
    have ih := byte_orB m a t k (by omega)
    have hs := orB_size m a k
    unfold orB
    show (List.set _ _ _).getD t 0 = _
    by_cases e : t = k
    · subst e
      rw [if_pos (by omega), List.getD, List.getElem?_set_self (by have : (orB m a t).data.toList.length = (orB m a t).size := by simp
                                                                   omega)]
      rfl
    · rw [List.getD, List.getElem?_set_ne (by omega)]
      show byteN (orB m a k) t = _
      rw [ih]
      by_cases h2 : t < k
      · rw [if_pos h2, if_pos (by omega)]
      · rw [if_neg h2, if_neg (by omega)]
/-- the blocks that can't be taken: those that files can't have, and the used ones. -/
def usedB (b : Int) (m : ByteArray) : ByteArray := orB m (marksK b) 128
theorem used_size (b : Int) (m : ByteArray) : (usedB b m).size = 128 := by unfold usedB; rw [orB_size, marks_size]
theorem bit_used {b : Int} {m : ByteArray} (hm : m.size = 128) {t : Nat} (ht : t < 1024) : bitN (usedB b m) t = (decide (t < 51 ∨ b ≤ t) || bitN m t) := by
  have h1 := bit_marks b t ht
  unfold bitN at h1 ⊢
  rw [marks_size, if_pos (by omega)] at h1
  rw [used_size, hm, if_pos (by omega), if_pos (by omega)]
  unfold usedB
  rw [byte_orB _ _ _ _ (by rw [marks_size]; exact Nat.le_refl _), if_pos (by omega), UInt8.toNat_or, Nat.testBit_or, h1]

/-! ### rows of zeros -/
def Zs (m : ByteArray) (i L : Nat) : Prop := ∀ t, t < L → bitN m (i + t) = false
theorem Zs.less {m : ByteArray} {i L K : Nat} (h : Zs m i L) (hk : K ≤ L) : Zs m i K := fun t ht => h t (by omega)
theorem Zs.at_ {m : ByteArray} {i L j : Nat} (h : Zs m i L) (h1 : i ≤ j) (h2 : j < i + L) : bitN m j = false := by
  have := h (j - i) (by omega)
  rwa [show i + (j - i) = j by omega] at this

theorem runGo_none (m : ByteArray) (f len j : Nat) (hj : Zs m j len) : ∀ fuel k z, z < len → z ≤ k → f + k ≤ j + z → j + len ≤ f + k + fuel → runGo m f len fuel k z ≠ none := by
  intro fuel
  induction fuel with
  | zero => intro k z hz hk h1 h2; omega
  | succ fuel ih =>
    intro k z hz hk h1 h2
    unfold runGo
    split
    · rename_i hb
      rcases Nat.lt_or_ge (f + k) j with hlt | hge
      · exact ih (k + 1) 0 (by omega) (by omega) (by omega) (by omega)
      · rw [hj.at_ hge (by omega)] at hb; cases hb
    · split
      · simp
      · exact ih (k + 1) (z + 1) (by omega) (by omega) (by omega) (by omega)

/-- the first row of L zeros from f on, below n. -/
def IsRun (m : ByteArray) (f n L : Nat) : Option Nat → Prop
  | some i => f ≤ i ∧ i + L ≤ n ∧ Zs m i L ∧ ∀ j, f ≤ j → j < i → ¬ Zs m j L
  | none => ∀ j, f ≤ j → j + L ≤ n → ¬ Zs m j L
theorem IsRun.uniq {m : ByteArray} {f n L : Nat} {o p : Option Nat} (h : IsRun m f n L o) (k : IsRun m f n L p) : o = p := by
  cases o with
  | none => cases p with
    | none => rfl
    | some i => exact absurd k.2.2.1 (h i k.1 k.2.1)
  | some j => cases p with
    | none => exact absurd h.2.2.1 (k j h.1 h.2.1)
    | some i =>
      rcases Nat.lt_trichotomy i j with e | e | e
      · exact absurd k.2.2.1 (h.2.2.2 i k.1 e)
      · rw [e]
      · exact absurd h.2.2.1 (k.2.2.2 j h.1 e)
theorem runR_is (m : ByteArray) (f n L : Nat) (hm : m.size = 128) (hn : n ≤ 1024) (hL : 1 ≤ L) : IsRun m f n L (runR m f n L) := by
  have hE : endN m (n : Int) = n := by unfold endN; rw [hm]; omega
  unfold runR
  rw [if_neg (by omega), hE, Int.toNat_natCast, Int.toNat_natCast]
  cases h : runGo m f L (n - f) 0 0 with
  | none =>
    intro j hj hjn hz
    exact runGo_none m f L j hz (n - f) 0 0 (by omega) (by omega) (by omega) (by omega) h
  | some i =>
    obtain ⟨h1, h2, h3⟩ := runGo_some m f L i hL (n - f) 0 0 (by omega) (by omega) (by intro t _ _; omega) h
    refine ⟨h1, by omega, h3, fun j hj hji hz => ?_⟩
    have := runGo_least m f L i j hz (n - f) 0 0 (by omega) (by omega) (by omega) h
    omega

/-- the longest row of zeros below n. -/
def IsLon (m : ByteArray) (n st ln : Nat) : Prop := (∀ j L, j + L ≤ n → Zs m j L → L ≤ ln) ∧ (ln = 0 ∨ (st + ln ≤ n ∧ Zs m st ln ∧ ∀ j, j < st → ¬ Zs m j ln))
theorem lonGo_is (m : ByteArray) : ∀ fuel k st ln z, IsLon m k st ln → z ≤ k → z ≤ ln → Zs m (k - z) z → (z < k → bitN m (k - z - 1) = true) → IsLon m (k + fuel) (lonGo m fuel k st ln z).1 (lonGo m fuel k st ln z).2 := by
  intro fuel
  induction fuel with
  | zero => intro k st ln z h _ _ _ _; exact h
  | succ fuel ih =>
    intro k st ln z h hz hzl hzs hzm
    unfold lonGo
    split
    · rename_i hb
      rw [show k + (fuel + 1) = (k + 1) + fuel by omega]
      refine ih (k + 1) st ln 0 ⟨fun j L hj hL => ?_, ?_⟩ (by omega) (by omega) (fun t ht => by omega) (fun _ => by simpa using hb)
      · rcases Nat.lt_or_ge k (j + L) with e | e
        · rcases Nat.eq_zero_or_pos L with e0 | e0
          · omega
          · have := hL.at_ (j := k) (by omega) (by omega)
            rw [this] at hb; cases hb
        · exact h.1 j L e hL
      · rcases h.2 with e | ⟨h1, h2, h3⟩
        · exact .inl e
        · exact .inr ⟨by omega, h2, h3⟩
    · rename_i hb
      have hb' : bitN m k = false := by simpa using hb
      have hrow : Zs m (k - z) (z + 1) := fun t ht => by
        by_cases e : t = z
        · rw [e, show k - z + z = k by omega]; exact hb'
        · exact hzs t (by omega)
      have hlong : ∀ j L, j + L = k + 1 → Zs m j L → L ≤ z + 1 := fun j L hj hL => by
        rcases Nat.lt_or_ge (z + 1) L with e | e
        · have := hzm (by omega)
          rw [hL.at_ (j := k - z - 1) (by omega) (by omega)] at this
          cases this
        · exact e
      split
      · rename_i hlt
        rw [show k + (fuel + 1) = (k + 1) + fuel by omega]
        refine ih (k + 1) (k - z) (z + 1) (z + 1) ⟨fun j L hj hL => ?_, .inr ⟨by omega, hrow, fun j hj hL => ?_⟩⟩ (by omega) (by omega) (by rw [show k + 1 - (z + 1) = k - z by omega]; exact hrow) (fun hlt2 => by rw [show k + 1 - (z + 1) - 1 = k - z - 1 by omega]; exact hzm (by omega))
        · rcases Nat.lt_or_ge k (j + L) with e | e
          · exact hlong j L (by omega) hL
          · have := h.1 j L e hL; omega
        · have := h.1 j (z + 1) (by omega) hL; omega
      · rename_i hlt
        rw [show k + (fuel + 1) = (k + 1) + fuel by omega]
        refine ih (k + 1) st ln (z + 1) ⟨fun j L hj hL => ?_, ?_⟩ (by omega) (by omega) (by rw [show k + 1 - (z + 1) = k - z by omega]; exact hrow) (fun hlt2 => by rw [show k + 1 - (z + 1) - 1 = k - z - 1 by omega]; exact hzm (by omega))
        · rcases Nat.lt_or_ge k (j + L) with e | e
          · have := hlong j L (by omega) hL; omega
          · exact h.1 j L e hL
        · rcases h.2 with e | ⟨h1, h2, h3⟩
          · exact .inl e
          · exact .inr ⟨by omega, h2, h3⟩
theorem lonR_is (m : ByteArray) (n : Nat) (hm : m.size = 128) (hn : n ≤ 1024) : IsLon m n (lonR m n).1 (lonR m n).2 := by
  have hE : endN m (n : Int) = n := by unfold endN; rw [hm]; omega
  unfold lonR
  rw [hE]
  have := lonGo_is m n 0 0 0 0 ⟨fun j L hj _ => by omega, .inl rfl⟩ (by omega) (by omega) (fun t ht => by omega) (by omega)
  rwa [Nat.zero_add] at this

/-! ### what Run takes -/
/-- a row of free blocks. -/
def Fr (m : ByteArray) (b j L : Nat) : Prop := 51 ≤ j ∧ j + L ≤ b ∧ Zs m j L
theorem Fr.less {m : ByteArray} {b j L K : Nat} (h : Fr m b j L) (hk : K ≤ L) : Fr m b j K := ⟨h.1, by have := h.2.1; omega, h.2.2.less hk⟩
theorem fr_used {m : ByteArray} {b j L : Nat} (hm : m.size = 128) (hb : b ≤ 1024) (hL : 1 ≤ L) : (j + L ≤ b ∧ Zs (usedB b m) j L) ↔ Fr m b j L := by
  constructor
  · rintro ⟨h1, h2⟩
    have hx : ∀ t, t < L → ¬ (j + t < 51 ∨ (b : Int) ≤ (j + t : Nat)) ∧ bitN m (j + t) = false := fun t ht => by
      have := h2 t ht
      rw [bit_used hm (by omega)] at this
      simpa using this
    refine ⟨?_, h1, fun t ht => (hx t ht).2⟩
    have := (hx 0 (by omega)).1
    omega
  · rintro ⟨h0, h1, h2⟩
    refine ⟨h1, fun t ht => ?_⟩
    rw [bit_used hm (by omega), h2 t ht, Bool.or_false, decide_eq_false_iff_not]
    omega
def fndP (m : ByteArray) (b n : Int) : Nat × Nat := match runR (usedB b m) 0 b n with
  | some i => (i, n.toNat)
  | none => lonR (usedB b m) b
/-- l blocks from a on are what Run takes of n. -/
def IsFnd (m : ByteArray) (b n a l : Nat) : Prop :=
  (l = 0 ∧ ∀ j, ¬ Fr m b j 1) ∨ (1 ≤ l ∧ l ≤ n ∧ Fr m b a l ∧ (∀ j, j < a → ¬ Fr m b j l) ∧ ∀ j L, l < L → L ≤ n → ¬ Fr m b j L)
theorem IsFnd.uniq {m : ByteArray} {b n a l a' l' : Nat} (h : IsFnd m b n a l) (k : IsFnd m b n a' l') : l = l' ∧ (l ≠ 0 → a = a') := by
  rcases h with ⟨h0, h1⟩ | ⟨h1, h2, h3, h4, h5⟩
  · rcases k with ⟨k0, _⟩ | ⟨k1, _, k3, _⟩
    · exact ⟨by omega, fun e => absurd h0 e⟩
    · exact absurd (k3.less k1) (h1 a')
  · rcases k with ⟨k0, k1⟩ | ⟨k1, k2, k3, k4, k5⟩
    · exact absurd (h3.less h1) (k1 a)
    · have e : l = l' := by
        rcases Nat.lt_trichotomy l l' with e | e | e
        · exact absurd k3 (h5 a' l' e k2)
        · exact e
        · exact absurd h3 (k5 a l e h2)
      subst e
      refine ⟨rfl, fun _ => ?_⟩
      rcases Nat.lt_trichotomy a a' with e | e | e
      · exact absurd h3 (k4 a e)
      · exact e
      · exact absurd k3 (h4 a' e)
theorem fnd_is (m : ByteArray) (b n : Nat) (hm : m.size = 128) (hb : b ≤ 1024) (hn : 1 ≤ n) : IsFnd m b n (fndP m b n).1 (fndP m b n).2 := by
  have hr := runR_is (usedB b m) 0 b n (used_size _ _) hb hn
  have hl := lonR_is (usedB b m) b (used_size _ _) hb
  unfold fndP
  show IsFnd m b n (match runR (usedB b m) ((0 : Nat) : Int) b n with | some i => (i, (n : Int).toNat) | none => lonR (usedB b m) b).1 (match runR (usedB b m) ((0 : Nat) : Int) b n with | some i => (i, (n : Int).toNat) | none => lonR (usedB b m) b).2
  cases h : runR (usedB b m) ((0 : Nat) : Int) b n with
  | some i =>
    rw [h] at hr
    obtain ⟨_, h2, h3, h4⟩ := hr
    simp only [Int.toNat_natCast]
    refine .inr ⟨hn, Nat.le_refl _, (fr_used hm hb hn).1 ⟨h2, h3⟩, fun j hj hf => ?_, fun j L h5 h6 => by omega⟩
    exact h4 j (by omega) hj ((fr_used hm hb hn).2 hf).2
  | none =>
    rw [h] at hr
    simp only
    generalize (lonR (usedB b m) b).1 = st at *
    generalize (lonR (usedB b m) b).2 = ln at *
    obtain ⟨h1, h2⟩ := hl
    have hmax : ∀ j L, 1 ≤ L → Fr m b j L → L ≤ ln := fun j L hL hf => h1 j L hf.2.1 ((fr_used hm hb hL).2 hf).2
    rcases h2 with e | ⟨h2, h3, h4⟩
    · exact .inl ⟨e, fun j hf => by have := hmax j 1 (by omega) hf; omega⟩
    · rcases Nat.eq_zero_or_pos ln with e | e
      · exact .inl ⟨e, fun j hf => by have := hmax j 1 (by omega) hf; omega⟩
      · have hn2 : ln ≤ n := by
          rcases Nat.lt_or_ge n ln with e2 | e2
          · exact absurd (h3.less (Nat.le_of_lt e2)) (hr st (by omega) (by omega))
          · exact e2
        refine .inr ⟨e, hn2, (fr_used hm hb e).1 ⟨h2, h3⟩, fun j hj hf => h4 j hj ((fr_used hm hb e).2 hf).2, fun j L h5 h6 hf => ?_⟩
        have := hmax j L (by omega) hf
        omega

/-! ### the marks behind it -/
/-- m, with k bits from i on set. -/
def takeN (m : ByteArray) (i : Nat) : Nat → ByteArray
  | 0 => m
  | k + 1 => setN (takeN m i k) (i + k) true
theorem take_size (m : ByteArray) (i : Nat) : ∀ k, (takeN m i k).size = m.size
  | 0 => rfl
  | k + 1 => by rw [takeN, size_setN]; exact take_size m i k
theorem take_bit (m : ByteArray) (i t : Nat) : ∀ k, i + k ≤ 8 * m.size → bitN (takeN m i k) t = if i ≤ t ∧ t < i + k then true else bitN m t
  | 0, _ => by rw [takeN, if_neg (by omega)]
  | k + 1, h => by
    rw [takeN, bit_setN _ _ _ _ (by rw [take_size]; omega), take_bit m i t k (by omega)]
    by_cases e : t = i + k
    · rw [if_pos e, if_pos (by omega)]
    · rw [if_neg e]
      by_cases h2 : i ≤ t ∧ t < i + k
      · rw [if_pos h2, if_pos (by omega)]
      · rw [if_neg h2, if_neg (by omega)]

/-! ### how many are free -/
def fcn (m : ByteArray) : Nat → Nat
  | 0 => 0
  | t + 1 => fcn m t + if 51 ≤ t ∧ bitN m t = false then 1 else 0
theorem fcn_yes {m : ByteArray} {t : Nat} (h1 : 51 ≤ t) (h2 : bitN m t = false) : fcn m (t + 1) = fcn m t + 1 := by rw [fcn, if_pos ⟨h1, h2⟩]
theorem fcn_no {m : ByteArray} {t : Nat} (h2 : bitN m t = true) : fcn m (t + 1) = fcn m t := by rw [fcn, if_neg (fun h => by rw [h2] at h; cases h.2)]; rfl
theorem fcn_low (m : ByteArray) : ∀ t, t ≤ 51 → fcn m t = 0
  | 0, _ => rfl
  | t + 1, h => by rw [fcn, if_neg (by omega), fcn_low m t (by omega)]
theorem fcn_cnt (m : ByteArray) (b : Nat) (hm : m.size = 128) (hb : b ≤ 1024) : ∀ t, t ≤ b → cnt (usedB b m) t + fcn m t = t
  | 0, _ => rfl
  | t + 1, h => by
    have ih := fcn_cnt m b hm hb t (by omega)
    unfold cnt fcn
    rw [bit_used hm (by omega)]
    by_cases h1 : t < 51
    · rw [if_pos (by simp [h1]), if_neg (by omega)]; omega
    · cases h2 : bitN m t with
      | true => rw [if_pos (by simp), if_neg (by simp)]; omega
      | false =>
        rw [if_neg (by simp; omega), if_pos ⟨by omega, rfl⟩]; omega
theorem fcn_le (m : ByteArray) : ∀ t, fcn m t ≤ t
  | 0 => Nat.le_refl _
  | t + 1 => by have := fcn_le m t; unfold fcn; split <;> omega
theorem free_is (m : ByteArray) (b : Nat) (hm : m.size = 128) (hb : b ≤ 1024) : (b : Int) - cntR (usedB b m) b = (fcn m b : Int) := by
  have := fcn_cnt m b hm hb b (Nat.le_refl _)
  unfold cntR
  rw [show (min (b : Int) 100000).toNat = b by omega]
  omega
end Go.Proofs.YtgdlfiejjnjcpaaGreat.Dl
