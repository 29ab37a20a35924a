/-
  PLAIN MATHEMATICS of layer 1's Read: the value of bytes, the values of a record. Nothing of the program is named here; no condition.
-/
import Derived.Test.YtpljifeebbeakaaPlain
namespace Go.Proofs.Ytpljifeebbeakaa

def bytesOf (s : ByteArray) : List Int := s.data.toList.map (fun b => (b.toNat : Int))
theorem bytesOf_len (s : ByteArray) : (bytesOf s).length = s.size := by rw [bytesOf, List.length_map, Array.length_toList]; rfl
theorem bytesOf_at (s : ByteArray) (i : Nat) (h : i < s.size) : (bytesOf s).getD i 0 = ((s[i]'h).toNat : Int) := by
  have h' : i < s.data.toList.length := by rw [Array.length_toList]; exact h
  simp only [bytesOf, List.getD, List.getElem?_map, List.getElem?_eq_getElem h']
  rfl
theorem bytesOf_bd (s : ByteArray) (i : Nat) : 0 ≤ (bytesOf s).getD i 0 ∧ (bytesOf s).getD i 0 ≤ 255 := by
  rcases Nat.lt_or_ge i s.size with h | h
  · rw [bytesOf_at s i h]; have := (s[i]'h).toNat_lt; omega
  · simp [List.getD, List.getElem?_eq_none (show (bytesOf s).length ≤ i by rw [bytesOf_len]; exact h)]
theorem bytesOf_mem (s : ByteArray) : ∀ b ∈ bytesOf s, 0 ≤ b ∧ b ≤ 255 := by
  intro b hb
  simp only [bytesOf, List.mem_map] at hb
  obtain ⟨x, _, rfl⟩ := hb
  have := x.toNat_lt; omega

/-- the value of n bytes from place a on, least first. -/
def decF (bs : List Int) (a : Nat) : Nat → Int
  | 0 => 0
  | n + 1 => bs.getD a 0 + 256 * decF bs (a + 1) n
theorem decF_bd (bs : List Int) (hb : ∀ i, 0 ≤ bs.getD i 0 ∧ bs.getD i 0 ≤ 255) : ∀ n a, 0 ≤ decF bs a n ∧ decF bs a n < 256 ^ n := by
  intro n
  induction n with
  | zero => intro a; simp [decF]
  | succ n ih =>
    intro a
    have h1 := ih (a + 1)
    have h2 := hb a
    simp only [decF]
    have : (256 : Int) ^ (n + 1) = 256 * 256 ^ n := by rw [Int.pow_succ, Int.mul_comm]
    rw [this]
    generalize (256 : Int) ^ n = p at *
    omega
theorem decF_congr (bs cs : List Int) (a b : Nat) : ∀ n, (∀ i, i < n → bs.getD (a + i) 0 = cs.getD (b + i) 0) → decF bs a n = decF cs b n := by
  intro n
  induction n generalizing a b with
  | zero => intro _; rfl
  | succ n ih =>
    intro h
    simp only [decF]
    have h0 := h 0 (by omega)
    rw [Nat.add_zero, Nat.add_zero] at h0
    rw [h0, ih (a + 1) (b + 1) (fun i hi => by have := h (i + 1) (by omega); rwa [show a + (i + 1) = a + 1 + i by omega, show b + (i + 1) = b + 1 + i by omega] at this)]
def readTo (ws bs : List Int) : Nat → List Int
  | 0 => []
  | k + 1 => readTo ws bs k ++ [decF bs (sumTo ws k).toNat (ws.getD k 0).toNat]
theorem readTo_len (ws bs : List Int) (k : Nat) : (readTo ws bs k).length = k := by
  induction k with
  | zero => rfl
  | succ k ih => simp [readTo, ih]
/-- what Read answers: the values and the error's number. -/
def readR (ws bs : List Int) : List Int × Int :=
  if okTo ws ws.length = true then (if (bs.length : Int) < sumTo ws ws.length then ([], 2) else (readTo ws bs ws.length, 0)) else ([], 1)
theorem readR_arg {ws bs : List Int} (h : ¬ okTo ws ws.length = true) : readR ws bs = ([], 1) := by unfold readR; rw [if_neg h]
theorem readR_short {ws bs : List Int} (h : okTo ws ws.length = true) (h2 : (bs.length : Int) < sumTo ws ws.length) : readR ws bs = ([], 2) := by unfold readR; rw [if_pos h, if_pos h2]
theorem readR_ok {ws bs : List Int} (h : okTo ws ws.length = true) (h2 : ¬ (bs.length : Int) < sumTo ws ws.length) : readR ws bs = (readTo ws bs ws.length, 0) := by unfold readR; rw [if_pos h, if_neg h2]
theorem sumTo_mono (ws : List Int) (k : Nat) : ∀ n, k ≤ n → okTo ws n = true → sumTo ws k ≤ sumTo ws n := by
  intro n
  induction n with
  | zero => intro h _; have : k = 0 := by omega
            subst this; exact Int.le_refl _
  | succ n ih =>
    intro h ho
    by_cases e : k = n + 1
    · subst e; exact Int.le_refl _
    · simp only [okTo, Bool.and_eq_true] at ho
      have h1 := ih (by omega) ho.1
      have h2 := wOk_d ho.2
      simp only [sumTo]
      omega
theorem pow_le4 (n : Nat) (h : n ≤ 4) : (256 : Int) ^ n ≤ 4294967296 := by
  have : n = 0 ∨ n = 1 ∨ n = 2 ∨ n = 3 ∨ n = 4 := by omega
  rcases this with rfl | rfl | rfl | rfl | rfl <;> decide
theorem pow_le3 (n : Nat) (h : n ≤ 3) : (256 : Int) ^ n ≤ 16777216 := by
  have : n = 0 ∨ n = 1 ∨ n = 2 ∨ n = 3 := by omega
  rcases this with rfl | rfl | rfl | rfl <;> decide

end Go.Proofs.Ytpljifeebbeakaa
