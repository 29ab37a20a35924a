/-
  PLAIN MATHEMATICS for the proofs over layer 8: where a name stands in pages, what Find, Add, Drop say. No condition.
-/
import Derived.Test.YtflijnhgonigjaaPOrd
namespace Go.Proofs.Ytflijnhgonigjaa

/-- how many of the first ones a test holds for. -/
def lead {α : Type} (f : α → Bool) (l : List α) : Nat := (l.takeWhile f).length
theorem lead_le {α : Type} (f : α → Bool) (l : List α) : lead f l ≤ l.length := (List.takeWhile_prefix f).length_le
theorem lead_nil {α : Type} (f : α → Bool) : lead f [] = 0 := rfl
theorem lead_cons {α : Type} (f : α → Bool) (a : α) (l : List α) : lead f (a :: l) = if f a then lead f l + 1 else 0 := by
  unfold lead
  rw [List.takeWhile_cons]
  split <;> simp
theorem lead_lt {α : Type} (f : α → Bool) : ∀ (l : List α) (j : Nat) (h : j < l.length), j < lead f l → f l[j] = true
  | a :: l, 0, _, hj => by
    rw [lead_cons] at hj
    split at hj
    · assumption
    · omega
  | a :: l, j + 1, h, hj => by
    rw [lead_cons] at hj
    split at hj
    · exact lead_lt f l j (by simpa using h) (by omega)
    · omega
theorem lead_at {α : Type} (f : α → Bool) : ∀ (l : List α) (h : lead f l < l.length), f l[lead f l] = false
  | a :: l, h => by
    cases ha : f a with
    | false =>
      have e : lead f (a :: l) = 0 := by rw [lead_cons, ha]; rfl
      simp only [e, List.getElem_cons_zero]
      exact ha
    | true =>
      have e : lead f (a :: l) = lead f l + 1 := by rw [lead_cons, ha]; rfl
      have := lead_at f l (by rw [e] at h; simpa using h)
      simp only [e, List.getElem_cons_succ]
      exact this
theorem lead_eq {α : Type} {f : α → Bool} {l : List α} {m : Nat} (hm : m ≤ l.length) (h1 : ∀ j, (h : j < l.length) → j < m → f l[j] = true) (h2 : (h : m < l.length) → f l[m] = false) : lead f l = m := by
  rcases Nat.lt_trichotomy (lead f l) m with h | h | h
  · have h3 := h1 (lead f l) (by omega) h
    rw [lead_at f l (by omega)] at h3; cases h3
  · exact h
  · have h3 := lead_lt f l m (by have := lead_le f l; omega) h
    rw [h2 (by have := lead_le f l; omega)] at h3; cases h3
theorem lead_take {α : Type} (f : α → Bool) (l : List α) : ∀ x ∈ l.take (lead f l), f x = true := by
  intro x hx
  obtain ⟨j, hj, rfl⟩ := List.getElem_of_mem hx
  rw [List.length_take] at hj
  rw [List.getElem_take]
  exact lead_lt f l j (by omega) (by omega)

/-! ### in entries that ascend -/
abbrev belowS (s : ByteArray) (e : En) : Bool := ltB e.nm s
def kL (l : List En) (s : ByteArray) : Nat := lead (belowS s) l
theorem kL_le (l : List En) (s : ByteArray) : kL l s ≤ l.length := lead_le _ _
theorem asc_at {l : List En} (h : Asc l) {i j : Nat} (hi : i < l.length) (hj : j < l.length) (hij : i < j) : ltB l[i].nm l[j].nm = true := by
  exact (List.pairwise_iff_getElem.1 h) i j hi hj hij
theorem asc_append {a b : List En} : Asc (a ++ b) ↔ Asc a ∧ Asc b ∧ ∀ x ∈ a, ∀ y ∈ b, ltB x.nm y.nm = true := List.pairwise_append
theorem kL_drop {l : List En} (h : Asc l) (s : ByteArray) : ∀ e ∈ l.drop (kL l s), ltB e.nm s = false := by
  intro e he
  obtain ⟨j, hj, rfl⟩ := List.getElem_of_mem he
  rw [List.length_drop] at hj
  have hk : kL l s < l.length := by omega
  have h0 := lead_at (belowS s) l hk
  rw [List.getElem_drop]
  rcases Nat.eq_zero_or_pos j with rfl | hp
  · exact h0
  · have h1 := asc_at h hk (show kL l s + j < l.length by omega) (by omega)
    cases hh : ltB l[kL l s + j].nm s with
    | false => rfl
    | true =>
      have h2 : belowS s l[kL l s] = true := ltB_trans h1 hh
      exact absurd (h2.symm.trans h0) (by decide)
theorem kL_pre {l : List En} (s : ByteArray) : ∀ e ∈ l.take (kL l s), ltB e.nm s = true := lead_take _ _
/-- told by what stands ahead and behind. -/
theorem kL_eq {a b : List En} {s : ByteArray} (h1 : ∀ e ∈ a, ltB e.nm s = true) (h2 : ∀ e ∈ b, ltB e.nm s = false) : kL (a ++ b) s = a.length := by
  refine lead_eq (by simp) (fun j hj hlt => ?_) (fun h => ?_)
  · rw [List.getElem_append_left hlt]
    exact h1 _ (List.getElem_mem _)
  · rw [List.getElem_append_right (Nat.le_refl _)]
    exact h2 _ (List.getElem_mem _)
def atL (l : List En) (s : ByteArray) : Bool := decide (kL l s < l.length) && eqB (l.getD (kL l s) En.z).nm s
def hasL (l : List En) (s : ByteArray) : Bool := l.any fun e => eqB e.nm s
theorem atL_iff {l : List En} {s : ByteArray} : atL l s = true ↔ kL l s < l.length ∧ (l.getD (kL l s) En.z).nm = s := by
  unfold atL
  rw [Bool.and_eq_true, decide_eq_true_eq, eqB_iff]
theorem hasL_iff {l : List En} {s : ByteArray} : hasL l s = true ↔ ∃ e ∈ l, e.nm = s := by
  unfold hasL
  rw [List.any_eq_true]
  simp only [eqB_iff]
theorem atL_hasL {l : List En} (h : Asc l) (s : ByteArray) : atL l s = hasL l s := by
  rw [Bool.eq_iff_iff, atL_iff, hasL_iff]
  constructor
  · rintro ⟨h1, h2⟩
    exact ⟨_, by rw [getD_lt h1]; exact List.getElem_mem _, h2⟩
  · rintro ⟨e, he, rfl⟩
    have h0 := kL_pre (l := l) e.nm
    have h1 := kL_drop h e.nm
    have hm : e ∈ l.drop (kL l e.nm) := by
      rw [← List.take_append_drop (kL l e.nm) l, List.mem_append] at he
      rcases he with he | he
      · have := h0 e he
        rw [ltB_irrefl] at this; cases this
      · exact he
    have hk : kL l e.nm < l.length := by
      rcases Nat.lt_or_ge (kL l e.nm) l.length with h2 | h2
      · exact h2
      · rw [List.drop_of_length_le h2] at hm; simp at hm
    refine ⟨hk, ?_⟩
    rw [getD_lt hk]
    obtain ⟨j, hj, hje⟩ := List.getElem_of_mem hm
    rw [List.length_drop] at hj
    rw [List.getElem_drop] at hje
    rcases Nat.eq_zero_or_pos j with rfl | hp
    · exact congrArg En.nm hje
    · have h3 := asc_at h hk (show kL l e.nm + j < l.length by omega) (by omega)
      have h4 := h1 l[kL l e.nm] (by
        rw [List.mem_iff_getElem]
        exact ⟨0, by rw [List.length_drop]; omega, by rw [List.getElem_drop]; rfl⟩)
      rw [hje] at h3
      rw [h3] at h4; cases h4

/-! ### in pages that may be -/
def firstN (l : List En) : ByteArray := (l.getD 0 En.z).nm
abbrev notAfter (s : ByteArray) (l : List En) : Bool := !ltB s (firstN l)
def atP (p : Pg) (s : ByteArray) : Nat := lead (notAfter s) p - 1
theorem atP_lt {p : Pg} (h : p ≠ []) (s : ByteArray) : atP p s < p.length := by
  have := lead_le (notAfter s) p
  have hp : 0 < p.length := List.length_pos_iff.2 h
  unfold atP
  omega

structure Cut (p : Pg) (s : ByteArray) (A l B : List En) : Prop where
  flat : p.flatten = A ++ (l ++ B)
  ahead : ∀ e ∈ A, ltB e.nm s = true
  behind : ∀ e ∈ B, ltB s e.nm = true

theorem right_asc {p : Pg} (h : rightP p = true) : Asc p.flatten := ((ascL_iff _).1 (rightP_iff.1 h).2.1).2
theorem right_good {p : Pg} (h : rightP p = true) : ∀ e ∈ p.flatten, goodB e = true := ((ascL_iff _).1 (rightP_iff.1 h).2.1).1
theorem right_len' {p : Pg} (h : rightP p = true) {i : Nat} (hi : i < p.length) : 1 ≤ (p.getD i []).length ∧ (p.getD i []).length ≤ 9 := by
  rw [pg_getD hi]
  exact (rightP_iff.1 h).1 _ (List.getElem_mem hi)
theorem pg_split {p : Pg} {i : Nat} (hi : i < p.length) : p = p.take i ++ p.getD i [] :: p.drop (i + 1) := by
  have h1 := List.take_append_drop i p
  rw [List.drop_eq_getElem_cons hi, ← pg_getD hi] at h1
  exact h1.symm
theorem flat_split {p : Pg} {i : Nat} (hi : i < p.length) : p.flatten = (p.take i).flatten ++ (p.getD i [] ++ (p.drop (i + 1)).flatten) := by
  have := congrArg List.flatten (pg_split hi)
  rw [this, List.flatten_append, List.flatten_cons]
theorem firstN_mem {l : List En} (h : 1 ≤ l.length) : ∃ e ∈ l, firstN l = e.nm := ⟨l[0], List.getElem_mem _, by unfold firstN; rw [getD_lt (by omega)]⟩
theorem first_le {l : List En} (h : Asc l) (hl : 1 ≤ l.length) : ∀ e ∈ l, ltB e.nm (firstN l) = false := by
  intro e he
  obtain ⟨j, hj, rfl⟩ := List.getElem_of_mem he
  unfold firstN
  rw [getD_lt (by omega)]
  rcases Nat.eq_zero_or_pos j with rfl | hp
  · exact ltB_irrefl _
  · exact ltB_asymm (asc_at h (by omega) hj hp)
/-- the first names of pages that may be ascend. -/
theorem firsts {p : Pg} (h : rightP p = true) {i j : Nat} (hij : i < j) (hj : j < p.length) : ltB (firstN (p.getD i [])) (firstN (p.getD j [])) = true := by
  have ha := right_asc h
  rw [flat_split hj, asc_append] at ha
  obtain ⟨e1, m1, q1⟩ := firstN_mem (right_len' h (show i < p.length by omega)).1
  obtain ⟨e2, m2, q2⟩ := firstN_mem (right_len' h hj).1
  rw [q1, q2]
  refine ha.2.2 e1 ?_ e2 (List.mem_append_left _ m2)
  rw [List.mem_flatten]
  refine ⟨_, ?_, m1⟩
  rw [pg_getD (show i < p.length by omega), List.mem_take_iff_getElem]
  exact ⟨i, by omega, rfl⟩
theorem notAfter_mono {p : Pg} (h : rightP p = true) (s : ByteArray) {i j : Nat} (hij : i ≤ j) (hj : j < p.length) (hn : notAfter s (p.getD j []) = true) : notAfter s (p.getD i []) = true := by
  rcases Nat.lt_or_ge i j with h1 | h1
  · unfold notAfter at *
    rw [Bool.not_eq_true'] at *
    exact ltB_asymm (ltB_of_lt_le (firsts h h1 hj) hn)
  · obtain rfl : i = j := by omega
    exact hn
theorem notAfter_iff {p : Pg} (h : rightP p = true) (s : ByteArray) {j : Nat} (hj : j < p.length) : notAfter s (p.getD j []) = decide (j < lead (notAfter s) p) := by
  rw [Bool.eq_iff_iff, decide_eq_true_eq]
  constructor
  · intro hn
    rcases Nat.lt_or_ge j (lead (notAfter s) p) with h1 | h1
    · exact h1
    · have h2 := notAfter_mono h s h1 hj hn
      rw [pg_getD (by omega), lead_at (notAfter s) p (by omega)] at h2; cases h2
  · intro hl
    rw [pg_getD hj]
    exact lead_lt (notAfter s) p j hj hl
theorem below_iff {l : List En} (h : Asc l) (s : ByteArray) {j : Nat} (hj : j < l.length) : ltB (l.getD j En.z).nm s = decide (j < kL l s) := by
  rw [Bool.eq_iff_iff, decide_eq_true_eq, getD_lt hj]
  constructor
  · intro hn
    rcases Nat.lt_or_ge j (kL l s) with h1 | h1
    · exact h1
    · have := kL_drop h s l[j] (by
        rw [List.mem_iff_getElem]
        exact ⟨j - kL l s, by rw [List.length_drop]; omega, by rw [List.getElem_drop]; congr 1; omega⟩)
      rw [this] at hn; cases hn
  · intro hl
    exact lead_lt (belowS s) l j hj hl
theorem page_asc {p : Pg} (h : rightP p = true) {i : Nat} (hi : i < p.length) : Asc (p.getD i []) := by
  have ha := right_asc h
  rw [flat_split hi, asc_append, asc_append] at ha
  exact ha.2.1.1
theorem cut_at {p : Pg} (h : rightP p = true) (hp : p ≠ []) (s : ByteArray) : Cut p s (p.take (atP p s)).flatten (p.getD (atP p s) []) (p.drop (atP p s + 1)).flatten := by
  have hi := atP_lt hp s
  have ha := right_asc h
  refine ⟨flat_split hi, fun e he => ?_, fun e he => ?_⟩
  · have h0 : 0 < atP p s := by
      rcases Nat.eq_zero_or_pos (atP p s) with h0 | h0
      · rw [h0] at he; simp at he
      · exact h0
    have hn : notAfter s (p.getD (atP p s) []) = true := by
      rw [notAfter_iff h s hi, decide_eq_true_eq]; unfold atP at h0 ⊢; omega
    unfold notAfter at hn
    rw [Bool.not_eq_true'] at hn
    rw [flat_split hi, asc_append] at ha
    obtain ⟨e2, m2, q2⟩ := firstN_mem (right_len' h hi).1
    have h3 := ha.2.2 e he e2 (List.mem_append_left _ m2)
    rw [q2] at hn
    exact ltB_of_lt_le h3 hn
  · obtain ⟨l, hl, hel⟩ := List.mem_flatten.1 he
    obtain ⟨j, hj, rfl⟩ := List.getElem_of_mem hl
    rw [List.length_drop] at hj
    rw [List.getElem_drop, ← pg_getD (by omega)] at hel
    have hjl : atP p s + 1 + j < p.length := by omega
    have hn : notAfter s (p.getD (atP p s + 1 + j) []) = false := by
      rw [notAfter_iff h s hjl, decide_eq_false_iff_not]; unfold atP; omega
    unfold notAfter at hn
    rw [Bool.not_eq_false'] at hn
    exact ltB_of_lt_le hn (first_le (page_asc h hjl) (right_len' h hjl).1 e hel)

/-- the place in a page says what all the pages say. -/
theorem at_has {p : Pg} (h : rightP p = true) (hp : p ≠ []) (s : ByteArray) : atL (p.getD (atP p s) []) s = hasL p.flatten s := by
  have hc := cut_at h hp s
  rw [atL_hasL (page_asc h (atP_lt hp s)), hc.flat, Bool.eq_iff_iff, hasL_iff, hasL_iff]
  constructor
  · rintro ⟨e, he, h2⟩
    exact ⟨e, List.mem_append_right _ (List.mem_append_left _ he), h2⟩
  · rintro ⟨e, he, rfl⟩
    rw [List.mem_append, List.mem_append] at he
    rcases he with he | he | he
    · have := hc.ahead e he
      rw [ltB_irrefl] at this; cases this
    · exact ⟨e, he, rfl⟩
    · have := hc.behind e he
      rw [ltB_irrefl] at this; cases this
theorem kL_flat {p : Pg} (h : rightP p = true) (hp : p ≠ []) (s : ByteArray) : kL p.flatten s = (p.take (atP p s)).flatten.length + kL (p.getD (atP p s) []) s := by
  have hc := cut_at h hp s
  have e : p.flatten = ((p.take (atP p s)).flatten ++ (p.getD (atP p s) []).take (kL (p.getD (atP p s) []) s)) ++ ((p.getD (atP p s) []).drop (kL (p.getD (atP p s) []) s) ++ (p.drop (atP p s + 1)).flatten) := by
    rw [hc.flat]
    rw [List.append_assoc, ← List.append_assoc ((p.getD (atP p s) []).take _), List.take_append_drop]
  have h1 := kL_eq (a := (p.take (atP p s)).flatten ++ (p.getD (atP p s) []).take (kL (p.getD (atP p s) []) s)) (b := (p.getD (atP p s) []).drop (kL (p.getD (atP p s) []) s) ++ (p.drop (atP p s + 1)).flatten) (s := s)
    (fun e he => by
      rcases List.mem_append.1 he with he | he
      · exact hc.ahead e he
      · exact kL_pre s e he)
    (fun e he => by
      rcases List.mem_append.1 he with he | he
      · exact kL_drop (page_asc h (atP_lt hp s)) s e he
      · exact ltB_asymm (hc.behind e he))
  rw [← e] at h1
  rw [h1, List.length_append, List.length_take, Nat.min_eq_left (kL_le _ _)]

/-! ### Find -/
def nodeOf (l : List En) (s : ByteArray) : Int := (l.getD (kL l s) En.z).nd
def findP (p : Pg) (s : ByteArray) : Int × Bool := if rightP p = true ∧ hasL p.flatten s = true then (nodeOf p.flatten s, true) else (0, false)
theorem node_flat {p : Pg} (h : rightP p = true) (hp : p ≠ []) (s : ByteArray) (hk : kL (p.getD (atP p s) []) s < (p.getD (atP p s) []).length) : p.flatten.getD (kL p.flatten s) En.z = (p.getD (atP p s) []).getD (kL (p.getD (atP p s) []) s) En.z := by
  rw [kL_flat h hp s]
  conv => lhs; rw [flat_split (atP_lt hp s)]
  generalize p.getD (atP p s) [] = l at *
  simp only [List.getD, List.getElem?_append_right (Nat.le_add_right _ _), Nat.add_sub_cancel_left]
  rw [List.getElem?_append_left hk]
/-- the first one of that name, in entries that ascend. -/
theorem first_named {l : List En} (h : Asc l) {s : ByteArray} {j : Nat} (hj : j < l.length) (he : (l.getD j En.z).nm = s) : hasL l s = true ∧ nodeOf l s = (l.getD j En.z).nd ∧ kL l s = j := by
  have hk : kL l s = j := by
    unfold kL
    refine lead_eq (by omega) (fun i hi hlt => ?_) (fun hh => ?_)
    · have := asc_at h hi hj hlt
      rw [getD_lt hj] at he
      rw [he] at this; exact this
    · rw [getD_lt hj] at he
      show ltB l[j].nm s = false
      rw [he]; exact ltB_irrefl s
  refine ⟨hasL_iff.2 ⟨_, by rw [getD_lt hj]; exact List.getElem_mem _, he⟩, ?_, hk⟩
  unfold nodeOf
  rw [hk]
end Go.Proofs.Ytflijnhgonigjaa
