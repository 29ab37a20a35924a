/-
  PLAIN MATHEMATICS for the reference's Drop: a page without a name; how far its loops, and those of joined, have come. No condition.
-/
import Derived.Test.YtflijnhgonigjaaPRAddM
namespace Go.Proofs.Ytflijnhgonigjaa

/-- the entries of l that have another name. -/
def keepN (s : ByteArray) (l : List En) : List En := l.filter fun e => !eqB e.nm s
theorem keepN_nil (s : ByteArray) : keepN s [] = [] := rfl
theorem keepN_step {s : ByteArray} {l : List En} {k : Nat} (hk : k < l.length) : keepN s (l.take (k + 1)) = keepN s (l.take k) ++ (if eqB (l.getD k En.z).nm s = true then [] else [l.getD k En.z]) := by
  rw [take_snoc l hk]
  unfold keepN
  rw [List.filter_append]
  generalize l.getD k En.z = x
  cases h : eqB x.nm s <;> simp [h]
theorem keepN_all {s : ByteArray} {l : List En} (h : ∀ e ∈ l, e.nm ≠ s) : keepN s l = l := by
  unfold keepN
  rw [List.filter_eq_self]
  intro e he
  rw [eqB_ne.2 (h e he)]; rfl
theorem keepN_len (s : ByteArray) (l : List En) : (keepN s l).length ≤ l.length := List.length_filter_le _ _
theorem keepN_mem {s : ByteArray} {l : List En} {e : En} (h : e ∈ keepN s l) : e ∈ l := (List.mem_filter.1 h).1
theorem keepN_at {l : List En} {s : ByteArray} (h : Asc l) (hk : kL l s < l.length) (he : (l.getD (kL l s) En.z).nm = s) : keepN s l = cutL l (kL l s) := by
  have h1 : ∀ e ∈ l.take (kL l s), e.nm ≠ s := fun e he hs => by
    have := kL_pre s e he
    rw [hs, ltB_irrefl] at this; cases this
  have h2 : ∀ e ∈ l.drop (kL l s + 1), e.nm ≠ s := fun e hm hs => by
    obtain ⟨j, hj, rfl⟩ := List.getElem_of_mem hm
    rw [List.length_drop] at hj
    rw [List.getElem_drop] at hs
    have := asc_at h hk (show kL l s + 1 + j < l.length by omega) (by omega)
    rw [getD_lt hk] at he
    rw [he, hs, ltB_irrefl] at this; cases this
  have e : l = l.take (kL l s) ++ l.getD (kL l s) En.z :: l.drop (kL l s + 1) := by
    rw [getD_lt hk, List.getElem_cons_drop, List.take_append_drop]
  have e2 : keepN s l = keepN s (l.take (kL l s)) ++ keepN s (l.getD (kL l s) En.z :: l.drop (kL l s + 1)) := by
    conv => lhs; rw [e]
    unfold keepN
    rw [List.filter_append]
  rw [e2, keepN_all h1]
  have e3 : keepN s (l.getD (kL l s) En.z :: l.drop (kL l s + 1)) = keepN s (l.drop (kL l s + 1)) := by
    unfold keepN
    rw [List.filter_cons, eqB_iff.2 he]; rfl
  rw [e3, keepN_all h2]
  rfl
theorem keepN_other {p : Pg} {s : ByteArray} (h : rightP p = true) (hp : p ≠ []) {k : Nat} (hk : k < p.length) (hne : k ≠ atP p s) : keepN s (p.getD k []) = p.getD k [] := by
  have hc := cut_at h hp s
  refine keepN_all fun e he hs => ?_
  rcases Nat.lt_or_gt_of_ne hne with h1 | h1
  · have hm : e ∈ (p.take (atP p s)).flatten := by
      rw [pg_getD hk] at he
      exact List.mem_flatten.2 ⟨p[k], List.mem_take_iff_getElem.2 ⟨k, by omega, rfl⟩, he⟩
    have := hc.ahead e hm
    rw [hs, ltB_irrefl] at this; cases this
  · have hm : e ∈ (p.drop (atP p s + 1)).flatten := by
      rw [pg_getD hk] at he
      refine List.mem_flatten.2 ⟨p[k], List.mem_drop_iff_getElem.2 ⟨k - (atP p s + 1), by omega, ?_⟩, he⟩
      simp [show atP p s + 1 + (k - (atP p s + 1)) = k by omega]
    have := hc.behind e hm
    rw [hs, ltB_irrefl] at this; cases this

/-- the pages that the reference's Drop has made behind k pages: C in the place of page i, or nothing if C is empty. -/
def outTo (p : Pg) (i : Nat) (C : List En) (k : Nat) : Pg := if k ≤ i then p.take k else p.take i ++ ((if C.length = 0 then [] else [C]) ++ (p.take k).drop (i + 1))
theorem outTo_zero (p : Pg) (i : Nat) (C : List En) : outTo p i C 0 = [] := by unfold outTo; simp
theorem outTo_other {p : Pg} {i : Nat} (C : List En) {k : Nat} (hk : k < p.length) (h : k ≠ i) : outTo p i C (k + 1) = outTo p i C k ++ [p.getD k []] := by
  unfold outTo
  rcases Nat.lt_or_gt_of_ne h with h | h
  · rw [if_pos (by omega), if_pos (by omega), take_pg hk]
  · rw [if_neg (show ¬ k + 1 ≤ i by omega), if_neg (show ¬ k ≤ i by omega), take_pg hk, List.drop_append_of_le_length (by rw [List.length_take]; omega)]
    simp
theorem outTo_at {p : Pg} {i : Nat} (C : List En) (hi : i < p.length) (h : C.length ≠ 0) : outTo p i C (i + 1) = outTo p i C i ++ [C] := by
  unfold outTo
  rw [if_neg (by omega), if_pos (Nat.le_refl _), if_neg h, List.drop_eq_nil_of_le (by rw [List.length_take]; omega)]
  rfl
theorem outTo_none {p : Pg} {i : Nat} (C : List En) (hi : i < p.length) (h : C.length = 0) : outTo p i C (i + 1) = outTo p i C i := by
  unfold outTo
  rw [if_neg (by omega), if_pos (Nat.le_refl _), if_pos h, List.drop_eq_nil_of_le (by rw [List.length_take]; omega)]
  simp
theorem outTo_end {p : Pg} {i : Nat} (C : List En) (hi : i < p.length) : outTo p i C p.length = if C.length = 0 then p.take i ++ p.drop (i + 1) else p.set i C := by
  unfold outTo
  rw [if_neg (by omega), List.take_length, set_split hi]
  split <;> simp
theorem outTo_len (p : Pg) (i : Nat) (C : List En) (k : Nat) : (outTo p i C k).length ≤ k + 1 := by
  unfold outTo
  split
  · rw [List.length_take]; omega
  · split <;> (simp; omega)
theorem outTo_lenI {p : Pg} {i : Nat} (C : List En) (hi : i < p.length) : (outTo p i C i).length = i := by
  unfold outTo
  rw [if_pos (Nat.le_refl _), List.length_take]; omega
/-- the page that the reference has changed behind k pages, or -1. -/
def markTo (i : Nat) (C : List En) (k : Nat) : Int := if k ≤ i ∨ C.length = 0 then -1 else (i : Int)
theorem markTo_zero (i : Nat) (C : List En) : markTo i C 0 = -1 := by unfold markTo; simp
theorem markTo_other {i : Nat} (C : List En) {k : Nat} (h : k ≠ i) : markTo i C (k + 1) = markTo i C k := by
  unfold markTo
  by_cases h1 : k ≤ i
  · rw [if_pos (Or.inl (by omega)), if_pos (Or.inl h1)]
  · by_cases h2 : C.length = 0
    · rw [if_pos (Or.inr h2), if_pos (Or.inr h2)]
    · rw [if_neg (by omega), if_neg (by omega)]
theorem markTo_at {i : Nat} {C : List En} (h : C.length ≠ 0) : markTo i C (i + 1) = (i : Int) := by unfold markTo; rw [if_neg (by omega)]
theorem markTo_none {i : Nat} {C : List En} (k : Nat) (h : C.length = 0) : markTo i C k = -1 := by unfold markTo; rw [if_pos (Or.inr h)]
theorem markTo_end {i k : Nat} {C : List En} (hi : i < k) (h : C.length ≠ 0) : markTo i C k = (i : Int) := by unfold markTo; rw [if_neg (by omega)]

/-- the pages that joined has made behind k pages. -/
def joinTo (p : Pg) (i k : Nat) : Pg := if k ≤ i then p.take k else p.take i ++ ((p.getD i [] ++ p.getD (i + 1) []) :: (p.take k).drop (i + 2))
theorem joinTo_zero (p : Pg) (i : Nat) : joinTo p i 0 = [] := by unfold joinTo; simp
theorem joinTo_other {p : Pg} {i k : Nat} (hk : k < p.length) (h : k ≠ i) (h2 : k ≠ i + 1) : joinTo p i (k + 1) = joinTo p i k ++ [p.getD k []] := by
  unfold joinTo
  rcases Nat.lt_or_gt_of_ne h with h | h
  · rw [if_pos (by omega), if_pos (by omega), take_pg hk]
  · rw [if_neg (show ¬ k + 1 ≤ i by omega), if_neg (show ¬ k ≤ i by omega), take_pg hk, List.drop_append_of_le_length (by rw [List.length_take]; omega)]
    simp
theorem joinTo_at {p : Pg} {i : Nat} (hi : i < p.length) : joinTo p i (i + 1) = joinTo p i i ++ [p.getD i [] ++ p.getD (i + 1) []] := by
  unfold joinTo
  rw [if_neg (by omega), if_pos (Nat.le_refl _), List.drop_eq_nil_of_le (by rw [List.length_take]; omega)]
theorem joinTo_skip {p : Pg} {i : Nat} : joinTo p i (i + 1 + 1) = joinTo p i (i + 1) := by
  unfold joinTo
  rw [if_neg (by omega), if_neg (by omega), List.drop_eq_nil_of_le (by rw [List.length_take]; omega), List.drop_eq_nil_of_le (by rw [List.length_take]; omega)]
theorem joinTo_end {p : Pg} {i : Nat} (hi : i < p.length) : joinTo p i p.length = joinP p i := by
  unfold joinTo joinP
  rw [if_neg (by omega), List.take_length]
theorem joinTo_len (p : Pg) (i k : Nat) : (joinTo p i k).length ≤ k + 1 := by
  unfold joinTo
  split
  · rw [List.length_take]; omega
  · simp; omega
end Go.Proofs.Ytflijnhgonigjaa
