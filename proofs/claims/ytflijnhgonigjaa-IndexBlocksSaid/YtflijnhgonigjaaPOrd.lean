/-
  PLAIN MATHEMATICS for the proofs over layer 8: the order of texts, lists of entries in ascending order, pages that may be. No condition.
-/
import Derived.Test.YtflijnhgonigjaaEnts
import Derived.Lib.Bytealg
namespace Go.Proofs.Ytflijnhgonigjaa

/-! ### the order -/
theorem cmp_zero : ∀ a b : List UInt8, Lib.compareBytes a b = 0 ↔ a = b
  | [], [] => by simp [Lib.compareBytes]
  | [], _ :: _ => by simp [Lib.compareBytes]
  | _ :: _, [] => by simp [Lib.compareBytes]
  | x :: a, y :: b => by
    have ih := cmp_zero a b
    rw [Lib.compareBytes]
    by_cases h1 : x < y
    · rw [if_pos h1]
      have : x ≠ y := fun e => UInt8.lt_irrefl y (e ▸ h1)
      simp [this]
    · rw [if_neg h1]
      by_cases h2 : y < x
      · rw [if_pos h2]
        have : x ≠ y := fun e => UInt8.lt_irrefl y (e ▸ h2)
        simp [this]
      · rw [if_neg h2, ih]
        have : x = y := by
          rw [UInt8.lt_iff_toNat_lt] at h1 h2
          exact UInt8.toNat_inj.1 (by omega)
        simp [this]
theorem cmp_neg : ∀ a b : List UInt8, Lib.compareBytes b a = - Lib.compareBytes a b
  | [], [] => by simp [Lib.compareBytes]
  | [], _ :: _ => by simp [Lib.compareBytes]
  | _ :: _, [] => by simp [Lib.compareBytes]
  | x :: a, y :: b => by
    have ih := cmp_neg a b
    rw [Lib.compareBytes, Lib.compareBytes]
    by_cases h1 : x < y
    · have h2 : ¬ y < x := by rw [UInt8.lt_iff_toNat_lt] at h1 ⊢; omega
      simp [h1, h2]
    · by_cases h2 : y < x
      · simp [h1, h2]
      · simp [h1, h2, ih]
theorem cmp_trans : ∀ a b c : List UInt8, Lib.compareBytes a b < 0 → Lib.compareBytes b c < 0 → Lib.compareBytes a c < 0
  | [], [], _, h, _ => by simp [Lib.compareBytes] at h
  | [], _ :: _, [], _, h => by simp [Lib.compareBytes] at h
  | [], _ :: _, _ :: _, _, _ => by simp [Lib.compareBytes]
  | _ :: _, [], _, h, _ => by simp [Lib.compareBytes] at h
  | _ :: _, _ :: _, [], _, h => by simp [Lib.compareBytes] at h
  | x :: a, y :: b, z :: c, h1, h2 => by
    have ih := cmp_trans a b c
    rw [Lib.compareBytes] at h1 h2 ⊢
    simp only [UInt8.lt_iff_toNat_lt] at h1 h2 ⊢
    split at h1
    · split at h2
      · rw [if_pos (by omega)]; omega
      · split at h2
        · omega
        · rw [if_pos (by omega)]; omega
    · split at h1
      · omega
      · split at h2
        · rw [if_pos (by omega)]; omega
        · split at h2
          · omega
          · rw [if_neg (by omega), if_neg (by omega)]
            exact ih h1 h2

def cmpB (a b : ByteArray) : Int := Lib.compareBytes a.data.toList b.data.toList
def ltB (a b : ByteArray) : Bool := decide (cmpB a b < 0)
theorem data_ext {a b : ByteArray} (h : a.data.toList = b.data.toList) : a = b := ByteArray.ext (Array.ext' h)
theorem ltB_irrefl (a : ByteArray) : ltB a a = false := by
  unfold ltB cmpB; rw [(cmp_zero _ _).2 rfl]; rfl
theorem ltB_trans {a b c : ByteArray} (h : ltB a b = true) (k : ltB b c = true) : ltB a c = true := by
  unfold ltB cmpB at *
  rw [decide_eq_true_eq] at *
  exact cmp_trans _ _ _ h k
theorem ltB_asymm {a b : ByteArray} (h : ltB a b = true) : ltB b a = false := by
  cases hh : ltB b a with
  | false => rfl
  | true => have := ltB_trans h hh; rw [ltB_irrefl] at this; cases this
theorem ltB_ne {a b : ByteArray} (h : ltB a b = true) : a ≠ b := by
  rintro rfl; rw [ltB_irrefl] at h; cases h
theorem ltB_tri {a b : ByteArray} (h : ltB a b = false) (k : ltB b a = false) : a = b := by
  unfold ltB cmpB at h k
  rw [cmp_neg a.data.toList b.data.toList] at k
  simp only [decide_eq_false_iff_not] at h k
  exact data_ext ((cmp_zero _ _).1 (by omega))
/-- not above, then below: below. -/
theorem ltB_of_le_lt {a b c : ByteArray} (h : ltB b a = false) (k : ltB b c = true) : ltB a c = true := by
  cases hh : ltB a b with
  | true => exact ltB_trans hh k
  | false => rw [ltB_tri hh h]; exact k
theorem ltB_of_lt_le {a b c : ByteArray} (h : ltB a b = true) (k : ltB c b = false) : ltB a c = true := by
  cases hh : ltB b c with
  | true => exact ltB_trans h hh
  | false => rw [← ltB_tri hh k]; exact h
theorem ltB_le_trans {a b c : ByteArray} (h : ltB b a = false) (k : ltB c b = false) : ltB c a = false := by
  cases hh : ltB c a with
  | false => rfl
  | true => rw [ltB_of_lt_le hh h] at k; cases k
def e0 : ByteArray := ⟨#[]⟩
theorem ltB_empty {s : ByteArray} (h : s ≠ e0) : ltB e0 s = true := by
  unfold ltB cmpB
  cases hs : s.data.toList with
  | nil => exact absurd (data_ext (by rw [hs]; rfl)) h
  | cons x r => rfl
theorem ltB_empty_right (s : ByteArray) : ltB s e0 = false := by
  unfold ltB cmpB
  show decide (Lib.compareBytes s.data.toList [] < 0) = false
  cases s.data.toList with
  | nil => rfl
  | cons x r => rfl

/-! ### entries in ascending order -/
def goodB (e : En) : Bool := nodeB e.nd && rightB e.nm
def lastN (t : ByteArray) (l : List En) : ByteArray := match l.getLast? with
  | some e => e.nm
  | none => t
def ascC : ByteArray → List En → Bool
  | _, [] => true
  | t, e :: r => (goodB e && ltB t e.nm) && ascC e.nm r
theorem lastN_nil (t : ByteArray) : lastN t [] = t := rfl
theorem lastN_snoc (t : ByteArray) (l : List En) (e : En) : lastN t (l ++ [e]) = e.nm := by simp [lastN]
theorem lastN_cons (t : ByteArray) (l : List En) (e : En) : lastN t (e :: l) = lastN e.nm l := by
  unfold lastN
  cases l with
  | nil => rfl
  | cons a r => rw [List.getLast?_cons_cons]; cases h : (a :: r).getLast? with
    | none => simp at h
    | some x => rfl
theorem ascC_append : ∀ (a b : List En) (t : ByteArray), ascC t (a ++ b) = (ascC t a && ascC (lastN t a) b)
  | [], b, t => by simp [ascC, lastN_nil]
  | e :: r, b, t => by
    rw [List.cons_append, ascC, ascC, ascC_append r b e.nm, lastN_cons, Bool.and_assoc, Bool.and_assoc, Bool.and_assoc]
theorem ascC_snoc (a : List En) (e : En) (t : ByteArray) : ascC t (a ++ [e]) = (ascC t a && (goodB e && ltB (lastN t a) e.nm)) := by
  rw [ascC_append]; simp [ascC]
abbrev Asc (l : List En) : Prop := l.Pairwise fun a b => ltB a.nm b.nm = true
theorem asc_cons {e : En} {r : List En} : Asc (e :: r) ↔ (∀ x ∈ r, ltB e.nm x.nm = true) ∧ Asc r := List.pairwise_cons
theorem ascC_iff : ∀ (l : List En) (t : ByteArray), ascC t l = true ↔ (∀ e ∈ l, goodB e = true ∧ ltB t e.nm = true) ∧ Asc l
  | [], t => by simp [ascC]
  | e :: r, t => by
    have ih := ascC_iff r e.nm
    rw [ascC, Bool.and_eq_true, Bool.and_eq_true, ih, asc_cons]
    constructor
    · rintro ⟨⟨h1, h2⟩, h3, h4⟩
      refine ⟨fun x hx => ?_, fun x hx => (h3 x hx).2, h4⟩
      rcases List.mem_cons.1 hx with rfl | hx
      · exact ⟨h1, h2⟩
      · exact ⟨(h3 x hx).1, ltB_trans h2 (h3 x hx).2⟩
    · rintro ⟨h1, h2, h3⟩
      exact ⟨h1 e (by simp), fun x hx => ⟨(h1 x (List.mem_cons_of_mem _ hx)).1, h2 x hx⟩, h3⟩
theorem good_ne {e : En} (h : goodB e = true) : e.nm ≠ e0 := by
  unfold goodB at h
  rw [Bool.and_eq_true] at h
  exact rightB_ne h.2
def ascL (l : List En) : Bool := ascC e0 l
theorem ascL_iff (l : List En) : ascL l = true ↔ (∀ e ∈ l, goodB e = true) ∧ Asc l := by
  unfold ascL
  rw [ascC_iff]
  exact ⟨fun h => ⟨fun e he => (h.1 e he).1, h.2⟩, fun h => ⟨fun e he => ⟨h.1 e he, ltB_empty (good_ne (h.1 e he))⟩, h.2⟩⟩

/-! ### the reference's way to say it -/
def stepP (l : List En) (k : Nat) : Bool := goodB (l.getD k En.z) && (k == 0 || ltB (l.getD (k - 1) En.z).nm (l.getD k En.z).nm)
theorem lastN_take (l : List En) (t : ByteArray) {k : Nat} (h : k < l.length) : lastN t (l.take (k + 1)) = (l.getD k En.z).nm := by
  rw [take_snoc l h, lastN_snoc]
theorem ascL_step (l : List En) {k : Nat} (h : k < l.length) : ascL (l.take (k + 1)) = (ascL (l.take k) && stepP l k) := by
  unfold ascL
  rw [take_snoc l h, ascC_snoc]
  unfold stepP
  congr 1
  cases hg : goodB (l.getD k En.z) with
  | false => rfl
  | true =>
    rw [Bool.true_and, Bool.true_and]
    cases k with
    | zero => rw [List.take_zero, lastN_nil, ltB_empty (good_ne hg)]; rfl
    | succ k => rw [lastN_take l e0 (by omega)]; simp
theorem ascL_take {l : List En} (h : ascL l = true) (k : Nat) : ascL (l.take k) = true := by
  rw [ascL_iff] at h ⊢
  exact ⟨fun e he => h.1 e (List.mem_of_mem_take he), h.2.sublist (List.take_sublist k l)⟩
theorem ascL_no {l : List En} {k : Nat} (hk : k < l.length) (h : stepP l k = false) : ascL l = false := by
  cases hh : ascL l with
  | false => rfl
  | true =>
    have := ascL_take hh (k + 1)
    rw [ascL_step l hk, h, Bool.and_false] at this
    cases this

/-! ### pages -/
abbrev Pg := List (List En)
def lenB (l : List En) : Bool := decide (1 ≤ l.length) && decide (l.length ≤ 9)
def rightP (p : Pg) : Bool := p.all lenB && ascL p.flatten && decide (p.flatten.length ≤ 160)
theorem rightP_iff {p : Pg} : rightP p = true ↔ (∀ l ∈ p, 1 ≤ l.length ∧ l.length ≤ 9) ∧ ascL p.flatten = true ∧ p.flatten.length ≤ 160 := by
  unfold rightP lenB
  simp only [Bool.and_eq_true, List.all_eq_true, decide_eq_true_eq]
  exact ⟨fun h => ⟨h.1.1, h.1.2, h.2⟩, fun h => ⟨⟨h.1, h.2.1⟩, h.2.2⟩⟩
theorem rightP_nil : rightP [] = true := by decide
theorem rightP_no_len {p : Pg} {i : Nat} (hi : i < p.length) (h : lenB (p.getD i []) = false) : rightP p = false := by
  cases hh : rightP p with
  | false => rfl
  | true =>
    unfold rightP at hh
    simp only [Bool.and_eq_true, List.all_eq_true] at hh
    have := hh.1.1 _ (List.getElem_mem hi)
    simp only [List.getD, List.getElem?_eq_getElem hi, Option.getD_some] at h
    rw [h] at this; cases this
theorem rightP_no_ok {p : Pg} {i : Nat} (h : ascL (p.flatten.take i) = false) : rightP p = false := by
  cases hh : rightP p with
  | false => rfl
  | true =>
    rw [rightP_iff] at hh
    rw [ascL_take hh.2.1 i] at h; cases h
theorem rightP_no_cnt {p : Pg} (h : 160 < p.flatten.length) : rightP p = false := by
  cases hh : rightP p with
  | false => rfl
  | true => rw [rightP_iff] at hh; omega
theorem pg_getD {p : Pg} {i : Nat} (h : i < p.length) : p.getD i [] = p[i] := by simp [List.getD, h]
theorem pg_take {p : Pg} {i : Nat} (h : i < p.length) : p.take (i + 1) = p.take i ++ [p.getD i []] := by
  rw [List.take_succ_eq_append_getElem h, pg_getD h]
theorem flat_take {p : Pg} {i : Nat} (h : i < p.length) : (p.take (i + 1)).flatten = (p.take i).flatten ++ p.getD i [] := by
  rw [pg_take h, List.flatten_append]; simp
theorem flat_prefix (p : Pg) (i : Nat) : (p.take i).flatten <+: p.flatten := by
  refine ⟨(p.drop i).flatten, ?_⟩
  rw [← List.flatten_append, List.take_append_drop]
/-- what stands ahead of entry k of page i. -/
def headP (p : Pg) (i k : Nat) : List En := (p.take i).flatten ++ (p.getD i []).take k
theorem headP_zero (p : Pg) (i : Nat) : headP p i 0 = (p.take i).flatten := by simp [headP]
theorem headP_succ {p : Pg} {i k : Nat} (hk : k < (p.getD i []).length) : headP p i (k + 1) = headP p i k ++ [(p.getD i []).getD k En.z] := by
  unfold headP; rw [take_snoc _ hk, List.append_assoc]
theorem headP_all {p : Pg} {i : Nat} (hi : i < p.length) : headP p i (p.getD i []).length = (p.take (i + 1)).flatten := by
  unfold headP; rw [List.take_length, flat_take hi]
theorem headP_prefix {p : Pg} {i k : Nat} (hi : i < p.length) : headP p i k <+: p.flatten := by
  refine List.IsPrefix.trans ?_ (flat_prefix p (i + 1))
  rw [flat_take hi, headP]
  exact (List.prefix_append_right_inj _).2 (List.take_prefix _ _)
theorem ascL_prefix {a b : List En} (h : a <+: b) (hb : ascL b = true) : ascL a = true := by
  obtain ⟨c, rfl⟩ := h
  unfold ascL at *
  rw [ascC_append, Bool.and_eq_true] at hb
  exact hb.1
theorem rightP_no_head {p : Pg} {i k : Nat} (hi : i < p.length) (h : ascL (headP p i k) = false) : rightP p = false := by
  cases hh : rightP p with
  | false => rfl
  | true =>
    rw [rightP_iff] at hh
    rw [ascL_prefix (headP_prefix hi) hh.2.1] at h; cases h
theorem rightP_no_count {p : Pg} (i : Nat) (h : 160 < (p.take i).flatten.length) : rightP p = false :=
  rightP_no_cnt (Nat.lt_of_lt_of_le h (flat_prefix p i).length_le)
/-- all that the loops find. -/
theorem rightP_yes {p : Pg} (h1 : ∀ i, i < p.length → lenB (p.getD i []) = true) (h2 : ascL p.flatten = true) (h3 : p.flatten.length ≤ 160) : rightP p = true := by
  rw [rightP_iff]
  refine ⟨fun l hl => ?_, h2, h3⟩
  obtain ⟨i, hi, rfl⟩ := List.getElem_of_mem hl
  have := h1 i hi
  rw [pg_getD hi] at this
  unfold lenB at this
  simpa using this
end Go.Proofs.Ytflijnhgonigjaa
