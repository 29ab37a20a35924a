/-
  PLAIN MATHEMATICS of the laws StockOnce and StockRow: which blocks are taken, how many; the longest row. No condition.
-/
import Derived.Test.YtbkgfkemjhaopaaGreatFJ
set_option linter.unusedVariables false
set_option linter.unusedSimpArgs false
namespace Go.Proofs.YtbkgfkemjhaopaaGreat.Dl
open Mk
open Kr (marksK bit_marks bit_far marks_size)

/-- how many of the first t are true. -/
def tcn (l : List Bool) : Nat → Nat
  | 0 => 0
  | t + 1 => tcn l t + if l.getD t false = true then 1 else 0
theorem getB_set {l : List Bool} {j i : Nat} {b : Bool} : (l.set j b).getD i false = if j = i ∧ j < l.length then b else l.getD i false := by
  by_cases hij : j = i
  · subst hij
    by_cases hj : j < l.length
    · rw [if_pos ⟨rfl, hj⟩]; simp [List.getD, hj]
    · rw [if_neg (fun h => hj h.2)]; simp [List.getD, hj]
  · rw [if_neg (fun h => hij h.1)]; simp [List.getD, hij]
theorem getB_ne {l : List Bool} {j i : Nat} {b : Bool} (h : j ≠ i) : (l.set j b).getD i false = l.getD i false := by rw [getB_set, if_neg (fun x => h x.1)]
theorem getB_eq {l : List Bool} {j : Nat} {b : Bool} (h : j < l.length) : (l.set j b).getD j false = b := by rw [getB_set, if_pos ⟨rfl, h⟩]
theorem tcn_hi {l : List Bool} {j : Nat} {b : Bool} : ∀ t, t ≤ j → tcn (l.set j b) t = tcn l t
  | 0, _ => rfl
  | t + 1, h => by unfold tcn; rw [tcn_hi t (by omega), getB_ne (by omega)]
theorem tcn_true {l : List Bool} {j : Nat} (h : l.getD j false = false) (hj : j < l.length) : ∀ t, j < t → tcn (l.set j true) t = tcn l t + 1
  | 0, h0 => by omega
  | t + 1, h1 => by
    unfold tcn
    by_cases e : j = t
    · subst e
      rw [tcn_hi j (Nat.le_refl _), getB_eq hj, h]; simp
    · rw [tcn_true h hj t (by omega), getB_ne e]; omega
theorem tcn_false {l : List Bool} {j : Nat} (h : l.getD j false = true) (hj : j < l.length) : ∀ t, j < t → tcn (l.set j false) t + 1 = tcn l t
  | 0, h0 => by omega
  | t + 1, h1 => by
    unfold tcn
    by_cases e : j = t
    · subst e
      rw [tcn_hi j (Nat.le_refl _), getB_eq hj, h]; simp
    · have := tcn_false h hj t (by omega)
      rw [getB_ne e]; omega
theorem tcn_le (l : List Bool) : ∀ t, tcn l t ≤ t
  | 0 => Nat.le_refl _
  | t + 1 => by have := tcn_le l t; unfold tcn; split <;> omega

/-- l tells which of the N blocks are taken, by the marks m. -/
structure Tk (m : ByteArray) (N : Nat) (l : List Bool) : Prop where
  len : l.length = N
  is : ∀ i, i < N → l.getD i false = (decide (51 ≤ i) && bitN m i)
theorem Tk.sumTo {m : ByteArray} {N : Nat} {l : List Bool} (h : Tk m N l) : ∀ t, t ≤ N → fcn m t + tcn l t + min t 51 = t
  | 0, _ => rfl
  | t + 1, ht => by
    have ih := h.sumTo t (by omega)
    unfold fcn tcn
    rw [h.is t (by omega)]
    by_cases h1 : 51 ≤ t
    · rw [decide_eq_true h1]
      cases hb : bitN m t with
      | true => rw [if_neg (by simp), if_pos (by simp)]; omega
      | false => rw [if_pos ⟨h1, rfl⟩, if_neg (by simp)]; omega
    · rw [decide_eq_false h1, if_neg (fun x => h1 x.1), if_neg (by simp)]; omega
theorem Tk.sum {m : ByteArray} {N : Nat} {l : List Bool} (h : Tk m N l) (hN : 51 ≤ N) : fcn m N + tcn l N + 51 = N := by
  have := h.sumTo N (Nat.le_refl _)
  omega
theorem Tk.new (N : Nat) (hN : N ≤ 1024) : Tk (marksK N) N (List.replicate N false) := by
  refine ⟨by simp, fun i hi => ?_⟩
  rw [show (List.replicate N false).getD i false = false by simp [List.getD, hi]]
  by_cases h1 : 51 ≤ i
  · rw [bit_new h1 hi hN, Bool.and_false]
  · rw [decide_eq_false h1]; rfl
/-- l, with k from a on true. -/
def lTo (l : List Bool) (a : Nat) : Nat → List Bool
  | 0 => l
  | k + 1 => (lTo l a k).set (a + k) true
theorem lTo_len (l : List Bool) (a : Nat) : ∀ k, (lTo l a k).length = l.length
  | 0 => rfl
  | k + 1 => by rw [lTo, List.length_set]; exact lTo_len l a k
theorem lTo_get (l : List Bool) (a i : Nat) : ∀ k, (lTo l a k).getD i false = if (a ≤ i ∧ i < a + k) ∧ i < l.length then true else l.getD i false
  | 0 => by rw [lTo, if_neg (by omega)]
  | k + 1 => by
    rw [lTo, getB_set, lTo_len, lTo_get l a i k]
    by_cases e : a + k = i ∧ a + k < l.length
    · rw [if_pos e, if_pos (by omega)]
    · rw [if_neg e]
      by_cases h : (a ≤ i ∧ i < a + k) ∧ i < l.length
      · rw [if_pos h, if_pos (by omega)]
      · rw [if_neg h, if_neg (by omega)]
theorem Tk.take {m : ByteArray} {N a k : Nat} {l : List Bool} (h : Tk m N l) (hf : Fr m N a k) (hm : m.size = 128) (hN : N ≤ 1024) : Tk (takeN m a k) N (lTo l a k) := by
  have h1 := hf.1
  have h2 := hf.2.1
  refine ⟨by rw [lTo_len, h.len], fun i hi => ?_⟩
  rw [lTo_get, take_bit _ _ _ _ (by omega), h.len, h.is i hi]
  by_cases e : a ≤ i ∧ i < a + k
  · rw [if_pos ⟨e, hi⟩, if_pos e, decide_eq_true (by omega)]; rfl
  · rw [if_neg (fun x => e x.1), if_neg e]
theorem Tk.free {m : ByteArray} {N a k j : Nat} {l : List Bool} (h : Tk m N l) (hf : Fr m N a k) (hj : j < k) : (lTo l a j).getD (a + j) false = false := by
  have h1 := hf.1
  have h2 := hf.2.1
  rw [lTo_get, if_neg (by omega), h.is _ (by omega), hf.2.2 j hj, Bool.and_false]
theorem Tk.tcnTo {m : ByteArray} {N a k : Nat} {l : List Bool} (h : Tk m N l) (hf : Fr m N a k) : ∀ j, j ≤ k → tcn (lTo l a j) N = tcn l N + j
  | 0, _ => rfl
  | j + 1, hj => by
    have h1 := hf.1
    have h2 := hf.2.1
    rw [lTo, tcn_true (h.free hf (by omega)) (by rw [lTo_len, h.len]; omega) N (by omega), h.tcnTo hf j (by omega)]
    omega
theorem Tk.drop {m : ByteArray} {N i : Nat} {l : List Bool} (h : Tk m N l) (hm : m.size = 128) (hN : N ≤ 1024) (hi : i < N) : Tk (setN m i false) N (l.set i false) := by
  refine ⟨by rw [List.length_set, h.len], fun t ht => ?_⟩
  rw [getB_set, bit_setN _ _ _ _ (by omega), h.len]
  by_cases e : i = t
  · subst e; rw [if_pos ⟨rfl, hi⟩, if_pos rfl, Bool.and_false]
  · rw [if_neg (fun x => e x.1), if_neg (fun x => e x.symm), h.is t ht]
theorem fcn_none {m : ByteArray} {N : Nat} (h : ∀ j, ¬ Fr m N j 1) : ∀ t, t ≤ N → fcn m t = 0
  | 0, _ => rfl
  | t + 1, ht => by
    rw [fcn, fcn_none h t (by omega), if_neg]
    rintro ⟨h1, h2⟩
    exact h t ⟨h1, by omega, fun x hx => by rw [show t + x = t by omega]; exact h2⟩

/-! ### the longest row -/
/-- behind block i: the longest row so far is b, the last one r. -/
structure Bst (m : ByteArray) (N i b r : Nat) : Prop where
  all : ∀ j L, 51 ≤ j → j + L ≤ i → Zs m j L → L ≤ b
  one : b = 0 ∨ ∃ j, 51 ≤ j ∧ j + b ≤ i ∧ Zs m j b
  rb : r ≤ b
  ri : 51 + r ≤ i
  rz : Zs m (i - r) r
  rm : 51 + r < i → bitN m (i - r - 1) = true
theorem Bst.zero (m : ByteArray) (N : Nat) : Bst m N 51 0 0 := ⟨fun j L h1 h2 _ => by omega, .inl rfl, Nat.le_refl _, by omega, fun t ht => by omega, fun h => by omega⟩
theorem Bst.yes {m : ByteArray} {N i b r : Nat} (h : Bst m N i b r) (hb : bitN m i = true) : Bst m N (i + 1) b 0 := by
  refine ⟨fun j L h1 h2 hz => ?_, ?_, Nat.zero_le _, by have := h.ri; omega, fun t ht => by omega, fun _ => by simpa using hb⟩
  · rcases Nat.lt_or_ge i (j + L) with e | e
    · rcases Nat.eq_zero_or_pos L with e0 | e0
      · omega
      · have := hz.at_ (j := i) (by omega) (by omega)
        rw [this] at hb; cases hb
    · exact h.all j L h1 e hz
  · rcases h.one with e | ⟨j, h1, h2, h3⟩
    · exact .inl e
    · exact .inr ⟨j, h1, by omega, h3⟩
theorem Bst.no {m : ByteArray} {N i b r : Nat} (h : Bst m N i b r) (hb : bitN m i = false) : Bst m N (i + 1) (max b (r + 1)) (r + 1) := by
  have hri := h.ri
  have hrow : Zs m (i - r) (r + 1) := fun t ht => by
    by_cases e : t = r
    · rw [e, show i - r + r = i by omega]; exact hb
    · exact h.rz t (by omega)
  refine ⟨fun j L h1 h2 hz => ?_, ?_, by omega, by omega, by rw [show i + 1 - (r + 1) = i - r by omega]; exact hrow, fun hlt => by rw [show i + 1 - (r + 1) - 1 = i - r - 1 by omega]; exact h.rm (by omega)⟩
  · rcases Nat.lt_or_ge i (j + L) with e | e
    · have : L ≤ r + 1 := by
        rcases Nat.lt_or_ge (r + 1) L with e2 | e2
        · have hm := h.rm (by omega)
          rw [hz.at_ (j := i - r - 1) (by omega) (by omega)] at hm
          cases hm
        · exact e2
      omega
    · have := h.all j L h1 e hz
      omega
  · rcases Nat.lt_or_ge b (r + 1) with e | e
    · rw [Nat.max_eq_right (by omega)]
      exact .inr ⟨i - r, by omega, by omega, hrow⟩
    · rw [Nat.max_eq_left e]
      rcases h.one with e2 | ⟨j, h1, h2, h3⟩
      · omega
      · exact .inr ⟨j, h1, by omega, h3⟩
/-- what Run takes of n is the least of n and the longest row. -/
theorem Bst.fnd {m : ByteArray} {N b r n a l : Nat} (h : Bst m N N b r) (hn : 1 ≤ n) (hf : IsFnd m N n a l) : l = min n b := by
  rcases hf with ⟨e, h1⟩ | ⟨h1, h2, h3, h4, h5⟩
  · rcases h.one with e2 | ⟨j, k1, k2, k3⟩
    · omega
    · rcases Nat.eq_zero_or_pos b with e3 | e3
      · omega
      · exact absurd ⟨k1, by omega, k3.less (by omega)⟩ (h1 j)
  · have hl := h.all a l h3.1 h3.2.1 h3.2.2
    rcases h.one with e2 | ⟨j, k1, k2, k3⟩
    · omega
    · rcases Nat.lt_or_ge l (min n b) with e3 | e3
      · exact absurd ⟨k1, by omega, k3.less (by omega)⟩ (h5 j (min n b) e3 (by omega))
      · omega
end Go.Proofs.YtbkgfkemjhaopaaGreat.Dl
