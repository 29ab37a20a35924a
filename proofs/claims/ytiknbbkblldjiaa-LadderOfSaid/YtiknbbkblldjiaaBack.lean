/-
  PLAIN: the rungs of a map tell it; how many blocks they need, counted along the map. No condition.
-/
import Derived.Test.YtiknbbkblldjiaaPush
namespace Go.Proofs.Ytiknbbkblldjiaa
open Go.RowKit Go.Shelf

theorem zeroB_at {zs : List Int} (h : zeroB zs = true) (k : Nat) : zs.getD k 0 = 0 := by
  rcases Nat.lt_or_ge k zs.length with hk | hk
  · exact (of_decide_eq_true h) k hk
  · exact getD_out zs k hk
theorem optP_get (zs : List Int) (k j : Nat) (hk : k < 10) (hj : j < lenP k) : ((optP zs k).getD []).getD j 0 = zs.getD (offP k + j) 0 := by
  rw [← pieceOf_get zs k j hk hj]
  unfold optP
  split
  · rename_i h
    rw [zeroB_at h j]
    rfl
  · rfl
theorem optP_len (zs : List Int) (k : Nat) (hk : k < 10) : ((optP zs k).getD []).length = if zeroB (pieceOf zs k) = true then 0 else lenP k := by
  unfold optP
  split
  · rfl
  · exact pieceOf_len zs k hk
abbrev dblOf (zs : List Int) : List (Option (List Int)) := dblL (fun j => optP zs (j + 2))
theorem lst_dbl (zs : List Int) (k : Nat) (h : k < 8) : lstAt (dblOf zs) k = (optP zs (k + 2)).getD [] := by
  unfold lstAt dblOf
  rw [dblL_get _ k h]
theorem back_num (zs : List Int) (t : Nat) (h : t < 76) : numAt (pieceOf zs 0) ((optP zs 1).getD []) (dblOf zs) t = zs.getD t 0 := by
  unfold numAt
  by_cases h4 : t < 4
  · rw [if_pos h4, pieceOf_get zs 0 t (by omega) (by simpa [lenP] using h4)]
    simp [offP]
  · rw [if_neg h4]
    by_cases h12 : t < 12
    · rw [if_pos h12, optP_get zs 1 (t - 4) (by omega) (by simp [lenP]; omega)]
      congr 1
      simp [offP]; omega
    · rw [if_neg h12, lst_dbl zs _ (by omega), optP_get zs _ _ (by omega) (by simp [lenP]; omega)]
      congr 1
      simp [offP]; omega
theorem back_nums (zs : List Int) : numsTo (pieceOf zs 0) ((optP zs 1).getD []) (dblOf zs) 76 = wholeOf zs := by
  refine getD_ext (by rw [numsTo_len, wholeOf_len]) (fun k hk => ?_)
  rw [numsTo_len] at hk
  rw [wholeOf_get zs k hk, ← back_num zs k hk]
  simp [numsTo, List.getD, hk]

/-! ### counting -/
def sinB (zs : List Int) (i : Nat) : Bool := (List.range i).any fun t => decide (4 ≤ t) && decide (t < 12) && (zs.getD t 0 != 0)
def sinN (zs : List Int) (i : Nat) : Nat := if sinB zs i = true then 1 else 0
theorem sinB_succ (zs : List Int) (i : Nat) : sinB zs (i + 1) = (sinB zs i || (decide (4 ≤ i) && decide (i < 12) && (zs.getD i 0 != 0))) := by simp [sinB, List.range_succ]
theorem sinN_out {zs : List Int} {i : Nat} (h : ¬ (4 ≤ i ∧ i < 12 ∧ zs.getD i 0 ≠ 0)) : sinN zs (i + 1) = sinN zs i := by
  unfold sinN
  rw [sinB_succ]
  have : (decide (4 ≤ i) && decide (i < 12) && (zs.getD i 0 != 0)) = false := by
    simp
    intro h4 h12
    by_cases e : zs.getD i 0 = 0
    · simpa using e
    · exact absurd ⟨h4, h12, e⟩ h
  rw [this, Bool.or_false]
theorem sinN_in {zs : List Int} {i : Nat} (h4 : 4 ≤ i) (h12 : i < 12) (h : zs.getD i 0 ≠ 0) : sinN zs (i + 1) = 1 := by
  unfold sinN
  rw [sinB_succ]
  have : (zs.getD i 0 != 0) = true := bne_iff_ne.2 h
  rw [this, decide_eq_true h4, decide_eq_true h12]
  simp
theorem sinN_le (zs : List Int) (i : Nat) : sinN zs i ≤ 1 := by unfold sinN; split <;> omega
def lisN (zs : List Int) : Nat → Nat
  | 0 => 0
  | i + 1 => lisN zs i + if 12 ≤ i ∧ (i - 12) % 8 = 0 ∧ zeroB (pieceOf zs ((i - 12) / 8 + 2)) = false then 1 else 0
theorem lisN_out {zs : List Int} {i : Nat} (h : ¬ (12 ≤ i ∧ (i - 12) % 8 = 0)) : lisN zs (i + 1) = lisN zs i := by
  simp only [lisN]
  rw [if_neg (fun h' => h ⟨h'.1, h'.2.1⟩), Nat.add_zero]
theorem lisN_at (zs : List Int) (a : Nat) : lisN zs (12 + 8 * a + 1) = lisN zs (12 + 8 * a) + if zeroB (pieceOf zs (a + 2)) = false then 1 else 0 := by
  simp only [lisN]
  rw [show (12 + 8 * a - 12) / 8 = a by omega]
  by_cases h : zeroB (pieceOf zs (a + 2)) = false
  · rw [if_pos ⟨by omega, by omega, h⟩, if_pos h]
  · rw [if_neg (fun h' => h h'.2.2), if_neg h]
theorem lisN_le (zs : List Int) : ∀ i, lisN zs i ≤ i
  | 0 => Nat.le_refl _
  | i + 1 => by
    have := lisN_le zs i
    simp only [lisN]
    split <;> omega
def cntS (zs : List Int) : Nat → Nat
  | 0 => 0
  | k + 1 => cntS zs k + if zeroB (pieceOf zs (k + 2)) = false then 1 else 0
theorem lisN_12 (zs : List Int) : lisN zs 12 = 0 := by
  have : ∀ i, i ≤ 12 → lisN zs i = 0 := by
    intro i
    induction i with
    | zero => intro _; rfl
    | succ i ih => intro h; rw [lisN_out (by omega)]; exact ih (by omega)
  exact this 12 (by omega)
theorem lisN_cnt (zs : List Int) : ∀ k, lisN zs (12 + 8 * k) = cntS zs k := by
  intro k
  induction k with
  | zero => exact lisN_12 zs
  | succ k ih =>
    have step : ∀ r, r < 8 → lisN zs (12 + 8 * k + 1 + r) = lisN zs (12 + 8 * k + 1) := by
      intro r
      induction r with
      | zero => intro _; rfl
      | succ r ihr =>
        intro h
        rw [show 12 + 8 * k + 1 + (r + 1) = (12 + 8 * k + 1 + r) + 1 by omega, lisN_out (by omega)]
        exact ihr (by omega)
    have := step 7 (by omega)
    rw [show 12 + 8 * (k + 1) = 12 + 8 * k + 1 + 7 by omega, this, lisN_at, ih]
    rfl
theorem sinN_76 (zs : List Int) : sinN zs 76 = if 0 < ((optP zs 1).getD []).length then 1 else 0 := by
  rw [optP_len zs 1 (by omega)]
  unfold sinN
  by_cases h : zeroB (pieceOf zs 1) = true
  · rw [if_pos h, if_neg (Nat.lt_irrefl 0), if_neg]
    intro h'
    obtain ⟨t, ht, h2⟩ := List.any_eq_true.1 h'
    simp at h2
    obtain ⟨⟨h4, h12⟩, hz⟩ := h2
    apply hz
    have := zeroB_at h (t - 4)
    rw [pieceOf_get zs 1 (t - 4) (by omega) (by simp [lenP]; omega), show offP 1 + (t - 4) = t by simp [offP]; omega] at this
    simpa [List.getD] using this
  · rw [if_neg h, if_pos (show 0 < lenP 1 by decide), if_pos]
    have h' : ¬ ∀ k, k < (pieceOf zs 1).length → (pieceOf zs 1).getD k 0 = 0 := fun hh => h (zeroB_t hh)
    have h2 : ∃ k, k < 8 ∧ (pieceOf zs 1).getD k 0 ≠ 0 := by
      apply Classical.byContradiction
      intro hn
      apply h'
      intro k hk
      rw [pieceOf_len zs 1 (by omega)] at hk
      apply Classical.byContradiction
      intro hk2
      exact hn ⟨k, hk, hk2⟩
    obtain ⟨k, hk, hk2⟩ := h2
    rw [pieceOf_get zs 1 k (by omega) (by simpa [lenP] using hk), show offP 1 + k = 4 + k by simp [offP]] at hk2
    refine List.any_eq_true.2 ⟨4 + k, List.mem_range.2 (by omega), ?_⟩
    simp
    refine ⟨by omega, ?_⟩
    simpa [List.getD] using hk2
theorem cntS_dbl (zs : List Int) : cntTo (dblOf zs) (dblOf zs).length = cntS zs 8 := by
  have hl : (dblOf zs).length = if anyB (fun j => optP zs (j + 2)) = true then 8 else 0 := dblL_len _
  by_cases h : anyB (fun j => optP zs (j + 2)) = true
  · rw [hl, if_pos h]
    have : ∀ k, k ≤ 8 → cntTo (dblOf zs) k = cntS zs k := by
      intro k
      induction k with
      | zero => intro _; rfl
      | succ k ih =>
        intro hk
        simp only [cntTo, cntS]
        rw [ih (by omega)]
        have e : lenAt (dblOf zs) k = if zeroB (pieceOf zs (k + 2)) = true then 0 else lenP (k + 2) := by
          have := lst_dbl zs k (by omega)
          unfold lstAt at this
          unfold lenAt
          rw [this, optP_len zs (k + 2) (by omega)]
        rw [e]
        cases zeroB (pieceOf zs (k + 2)) <;> simp [lenP]
    exact this 8 (by omega)
  · rw [hl, if_neg h]
    have hz : ∀ j, j < 8 → zeroB (pieceOf zs (j + 2)) = true := fun j hj => by
      cases e : zeroB (pieceOf zs (j + 2)) with
      | true => rfl
      | false => exact absurd ((anyB_iff _).2 ⟨j, hj, by simp [optP, e]⟩) h
    have : ∀ k, k ≤ 8 → cntS zs k = 0 := by
      intro k
      induction k with
      | zero => intro _; rfl
      | succ k ih => intro hk; simp only [cntS]; rw [ih (by omega), hz k (by omega)]; rfl
    rw [this 8 (by omega)]
    rfl
theorem dbl_pos (zs : List Int) : (if 0 < (dblOf zs).length then 1 else 0) = if 0 < cntS zs 8 then 1 else 0 := by
  rw [← cntS_dbl]
  have hl : (dblOf zs).length = if anyB (fun j => optP zs (j + 2)) = true then 8 else 0 := dblL_len _
  by_cases h : anyB (fun j => optP zs (j + 2)) = true
  · rw [hl, if_pos h, if_pos (by omega), if_pos]
    obtain ⟨j, hj, hs⟩ := (anyB_iff _).1 h
    have mono : ∀ k, j < k → 0 < cntTo (dblOf zs) k := by
      intro k
      induction k with
      | zero => intro h; omega
      | succ k ih =>
        intro hk
        simp only [cntTo]
        by_cases e : j = k
        · subst e
          have : lenAt (dblOf zs) j = lenP (j + 2) := by
            have h1 := lst_dbl zs j hj
            unfold lstAt at h1
            unfold lenAt
            rw [h1, optP_len zs (j + 2) (by omega), if_neg]
            intro hz
            exact hs (by simp [optP, hz])
          rw [this, if_pos (by simp [lenP])]
          omega
        · have := ih (by omega); omega
    exact mono 8 hj
  · rw [hl, if_neg h]
    rfl
theorem blocks_back (zs : List Int) : blocksN ((optP zs 1).getD []).length (dblOf zs).length (dblOf zs) = sinN zs 76 + (lisN zs 76 + if 0 < lisN zs 76 then 1 else 0) := by
  have e : lisN zs 76 = cntS zs 8 := lisN_cnt zs 8
  unfold blocksN
  rw [sinN_76, e, dbl_pos, cntS_dbl]
  omega
end Go.Proofs.Ytiknbbkblldjiaa
