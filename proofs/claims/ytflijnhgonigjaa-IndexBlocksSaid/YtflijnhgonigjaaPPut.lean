/-
  PLAIN MATHEMATICS for the proofs over layer 8: what Add and Drop say of pages, and what of them stays true. No condition.
-/
import Derived.Test.YtflijnhgonigjaaPPlace
namespace Go.Proofs.Ytflijnhgonigjaa

def putL (l : List En) (k : Nat) (x : En) : List En := l.take k ++ x :: l.drop k
theorem putL_len (l : List En) {k : Nat} (h : k ≤ l.length) (x : En) : (putL l k x).length = l.length + 1 := by
  unfold putL
  rw [List.length_append, List.length_cons, List.length_take, List.length_drop]; omega
def putP (p : Pg) (i : Nat) (l : List En) : Pg := if l.length = 10 then p.take i ++ (l.take 5 :: l.drop 5 :: p.drop (i + 1)) else p.take i ++ (l :: p.drop (i + 1))
theorem putP_flat (p : Pg) (i : Nat) (l : List En) : (putP p i l).flatten = (p.take i).flatten ++ (l ++ (p.drop (i + 1)).flatten) := by
  unfold putP
  split
  · rw [List.flatten_append, List.flatten_cons, List.flatten_cons, ← List.append_assoc (l.take 5), List.take_append_drop]
  · rw [List.flatten_append, List.flatten_cons]
def addP (p : Pg) (s : ByteArray) (n : Int) : Pg × Int :=
  if rightP p = true ∧ nodeB n = true then
    if rightB s = true then
      if hasL p.flatten s = true then ([], 6)
      else if p.flatten.length = 160 then ([], 12)
      else if p = [] then ([[⟨s, n⟩]], 0)
      else (putP p (atP p s) (putL (p.getD (atP p s) []) (kL (p.getD (atP p s) []) s) ⟨s, n⟩), 0)
    else ([], 4)
  else ([], 1)
def joinP (q : Pg) (i : Nat) : Pg := q.take i ++ ((q.getD i [] ++ q.getD (i + 1) []) :: q.drop (i + 2))
def canJ (q : Pg) (i : Nat) : Bool := decide (i + 1 < q.length) && decide ((q.getD i []).length + (q.getD (i + 1) []).length ≤ 6)
def shrinkP (p : Pg) (i : Nat) (l : List En) : Pg :=
  if l.length = 0 then p.take i ++ p.drop (i + 1)
  else if canJ (p.set i l) i = true then joinP (p.set i l) i
  else if 1 ≤ i ∧ canJ (p.set i l) (i - 1) = true then joinP (p.set i l) (i - 1)
  else p.set i l
def cutL (l : List En) (k : Nat) : List En := l.take k ++ l.drop (k + 1)
def dropP (p : Pg) (s : ByteArray) : Pg × Int × Int :=
  if rightP p = true then
    if hasL p.flatten s = true then (shrinkP p (atP p s) (cutL (p.getD (atP p s) []) (kL (p.getD (atP p s) []) s)), nodeOf p.flatten s, 0)
    else ([], 0, 5)
  else ([], 0, 1)

/-! ### entries put in, taken out -/
theorem asc_put {a b : List En} {x : En} (h : Asc (a ++ b)) (h1 : ∀ e ∈ a, ltB e.nm x.nm = true) (h2 : ∀ e ∈ b, ltB x.nm e.nm = true) : Asc (a ++ x :: b) := by
  rw [asc_append] at h ⊢
  rw [asc_cons]
  refine ⟨h.1, ⟨h2, h.2.1⟩, fun y hy z hz => ?_⟩
  rcases List.mem_cons.1 hz with rfl | hz
  · exact h1 y hy
  · exact h.2.2 y hy z hz
theorem no_has {l : List En} {s : ByteArray} (h : hasL l s = false) : ∀ e ∈ l, e.nm ≠ s := fun e he hs => by
  rw [hasL_iff.2 ⟨e, he, hs⟩] at h; cases h
theorem ascL_put {l : List En} (h : ascL l = true) {s : ByteArray} {n : Int} (hs : rightB s = true) (hn : nodeB n = true) (hno : hasL l s = false) : ascL (putL l (kL l s) ⟨s, n⟩) = true := by
  rw [ascL_iff] at h ⊢
  obtain ⟨hg, ha⟩ := h
  unfold putL
  refine ⟨fun e he => ?_, asc_put (by rw [List.take_append_drop]; exact ha) (kL_pre s) (fun e he => ?_)⟩
  · rcases List.mem_append.1 he with he | he
    · exact hg e (List.mem_of_mem_take he)
    · rcases List.mem_cons.1 he with rfl | he
      · unfold goodB; rw [hn, hs]; rfl
      · exact hg e (List.mem_of_mem_drop he)
  · have h1 := kL_drop ha s e he
    cases hh : ltB s e.nm with
    | true => rfl
    | false => exact absurd (ltB_tri h1 hh) (no_has hno e (List.mem_of_mem_drop he))
theorem putL_flat {p : Pg} (h : rightP p = true) (hp : p ≠ []) (s : ByteArray) (x : En) :
    (p.take (atP p s)).flatten ++ (putL (p.getD (atP p s) []) (kL (p.getD (atP p s) []) s) x ++ (p.drop (atP p s + 1)).flatten) = putL p.flatten (kL p.flatten s) x := by
  rw [kL_flat h hp s]
  have e := flat_split (atP_lt hp s)
  have hk := kL_le (p.getD (atP p s) []) s
  generalize (p.take (atP p s)).flatten = A at *
  generalize (p.drop (atP p s + 1)).flatten = B at *
  generalize p.getD (atP p s) [] = l at *
  generalize kL l s = k at *
  unfold putL
  rw [e, List.take_length_add_append, List.drop_length_add_append, List.take_append_of_le_length hk, List.drop_append_of_le_length hk]
  simp
theorem mem_take_drop {α : Type} {p : List α} {i : Nat} {l : α} (h : l ∈ p.take i ++ p.drop (i + 1)) : l ∈ p := by
  rcases List.mem_append.1 h with h | h
  · exact List.mem_of_mem_take h
  · exact List.mem_of_mem_drop h
theorem addP_ok {p : Pg} {s : ByteArray} {n : Int} (h : rightP p = true) (hn : nodeB n = true) (hs : rightB s = true) (hno : hasL p.flatten s = false) (hl : p.flatten.length ≠ 160) :
    (addP p s n).2 = 0 ∧ (addP p s n).1.flatten = putL p.flatten (kL p.flatten s) ⟨s, n⟩ ∧ rightP (addP p s n).1 = true := by
  have hr := rightP_iff.1 h
  have ha := ascL_put hr.2.1 hs hn hno
  unfold addP
  rw [if_pos ⟨h, hn⟩, if_pos hs, hno, if_neg (by decide), if_neg hl]
  by_cases hp : p = []
  · subst hp
    rw [if_pos rfl]
    refine ⟨rfl, rfl, ?_⟩
    rw [rightP_iff]
    refine ⟨fun l hl => ?_, ha, by simp⟩
    obtain rfl : l = [⟨s, n⟩] := by simpa using hl
    simp
  · rw [if_neg hp]
    have hi := atP_lt hp s
    have hlen := right_len' h hi
    have hk := kL_le (p.getD (atP p s) []) s
    have hpl := putL_len (p.getD (atP p s) []) hk ⟨s, n⟩
    have hf : (putP p (atP p s) (putL (p.getD (atP p s) []) (kL (p.getD (atP p s) []) s) ⟨s, n⟩)).flatten = putL p.flatten (kL p.flatten s) ⟨s, n⟩ := by
      rw [putP_flat, putL_flat h hp s]
    refine ⟨rfl, hf, ?_⟩
    rw [rightP_iff]
    refine ⟨fun l hl => ?_, by rw [hf]; exact ha, by rw [hf, putL_len _ (kL_le _ _)]; omega⟩
    generalize putL (p.getD (atP p s) []) (kL (p.getD (atP p s) []) s) ⟨s, n⟩ = l2 at *
    have hin : ∀ l, l ∈ p.take (atP p s) ∨ l ∈ p.drop (atP p s + 1) → 1 ≤ l.length ∧ l.length ≤ 9 := fun l hl => hr.1 l (by
      rcases hl with hl | hl
      · exact List.mem_of_mem_take hl
      · exact List.mem_of_mem_drop hl)
    unfold putP at hl
    split at hl
    · rename_i h10
      rw [List.mem_append, List.mem_cons, List.mem_cons] at hl
      rcases hl with hl | rfl | rfl | hl
      · exact hin l (Or.inl hl)
      · rw [List.length_take]; omega
      · rw [List.length_drop]; omega
      · exact hin l (Or.inr hl)
    · rename_i h10
      rw [List.mem_append, List.mem_cons] at hl
      rcases hl with hl | rfl | hl
      · exact hin l (Or.inl hl)
      · omega
      · exact hin l (Or.inr hl)
theorem addP_no {p : Pg} {s : ByteArray} {n : Int} (hh : ¬ (nodeB n = true ∧ rightB s = true ∧ hasL p.flatten s = false ∧ p.flatten.length ≠ 160)) : (addP p s n).2 ≠ 0 := by
  unfold addP
  split
  · rename_i h1
    split
    · rename_i h2
      split
      · decide
      · rename_i h3
        split
        · decide
        · rename_i h4
          exact absurd ⟨h1.2, h2, by simpa using h3, h4⟩ hh
    · decide
  · decide

/-! ### Drop -/
theorem set_split {p : Pg} {i : Nat} (hi : i < p.length) (l : List En) : p.set i l = p.take i ++ l :: p.drop (i + 1) := List.set_eq_take_append_cons_drop ▸ (by simp [hi])
theorem joinP_flat {q : Pg} {i : Nat} (h : i + 1 < q.length) : (joinP q i).flatten = q.flatten := by
  unfold joinP
  conv => rhs; rw [flat_split (show i < q.length by omega)]
  rw [List.flatten_append, List.flatten_cons, List.append_assoc, List.drop_eq_getElem_cons h, List.flatten_cons, ← pg_getD h]
theorem canJ_iff {q : Pg} {i : Nat} : canJ q i = true ↔ i + 1 < q.length ∧ (q.getD i []).length + (q.getD (i + 1) []).length ≤ 6 := by
  unfold canJ
  rw [Bool.and_eq_true, decide_eq_true_eq, decide_eq_true_eq]
theorem shrinkP_flat {p : Pg} {i : Nat} (hi : i < p.length) (l : List En) : (shrinkP p i l).flatten = (p.take i).flatten ++ (l ++ (p.drop (i + 1)).flatten) := by
  have hs : (p.set i l).flatten = (p.take i).flatten ++ (l ++ (p.drop (i + 1)).flatten) := by
    rw [set_split hi, List.flatten_append, List.flatten_cons]
  unfold shrinkP
  split
  · rename_i h0
    rw [List.eq_nil_of_length_eq_zero h0, List.flatten_append, List.nil_append]
  · split
    · rename_i h1
      rw [joinP_flat (canJ_iff.1 h1).1, hs]
    · split
      · rename_i h1
        rw [joinP_flat (canJ_iff.1 h1.2).1, hs]
      · exact hs
theorem mem_join {q : Pg} {i : Nat} {l : List En} (h : canJ q i = true) (hq : ∀ l ∈ q, 1 ≤ l.length ∧ l.length ≤ 9) (hl : l ∈ joinP q i) : 1 ≤ l.length ∧ l.length ≤ 9 := by
  obtain ⟨h1, h2⟩ := canJ_iff.1 h
  unfold joinP at hl
  rw [List.mem_append, List.mem_cons] at hl
  rcases hl with hl | rfl | hl
  · exact hq l (List.mem_of_mem_take hl)
  · have := hq _ (List.getElem_mem (show i < q.length by omega))
    rw [← pg_getD] at this
    rw [List.length_append]; omega
  · exact hq l (List.mem_of_mem_drop hl)
theorem shrinkP_len {p : Pg} {i : Nat} (hi : i < p.length) {l : List En} (hp : ∀ l ∈ p, 1 ≤ l.length ∧ l.length ≤ 9) (hl : l.length ≤ 9) : ∀ x ∈ shrinkP p i l, 1 ≤ x.length ∧ x.length ≤ 9 := by
  intro x hx
  unfold shrinkP at hx
  split at hx
  · exact hp x (mem_take_drop hx)
  · rename_i h0
    have hq : ∀ x ∈ p.set i l, 1 ≤ x.length ∧ x.length ≤ 9 := fun x hx => by
      rw [set_split hi, List.mem_append, List.mem_cons] at hx
      rcases hx with hx | rfl | hx
      · exact hp x (List.mem_of_mem_take hx)
      · omega
      · exact hp x (List.mem_of_mem_drop hx)
    split at hx
    · rename_i h1; exact mem_join h1 hq hx
    · split at hx
      · rename_i h1; exact mem_join h1.2 hq hx
      · exact hq x hx
theorem cutL_sub (l : List En) (k : Nat) : List.Sublist (cutL l k) l := by
  unfold cutL
  conv => rhs; rw [← List.take_append_drop k l]
  refine List.Sublist.append (List.Sublist.refl _) ?_
  have e : l.drop (k + 1) = (l.drop k).drop 1 := by rw [List.drop_drop]
  rw [e]
  exact List.drop_sublist _ _
theorem cutL_len {l : List En} {k : Nat} (h : k < l.length) : (cutL l k).length = l.length - 1 := by
  unfold cutL
  rw [List.length_append, List.length_take, List.length_drop]; omega
theorem cutL_flat {p : Pg} (h : rightP p = true) (hp : p ≠ []) (s : ByteArray) (hk : kL (p.getD (atP p s) []) s < (p.getD (atP p s) []).length) :
    (p.take (atP p s)).flatten ++ (cutL (p.getD (atP p s) []) (kL (p.getD (atP p s) []) s) ++ (p.drop (atP p s + 1)).flatten) = cutL p.flatten (kL p.flatten s) := by
  rw [kL_flat h hp s]
  have e := flat_split (atP_lt hp s)
  generalize (p.take (atP p s)).flatten = A at *
  generalize (p.drop (atP p s + 1)).flatten = B at *
  generalize p.getD (atP p s) [] = l at *
  generalize kL l s = k at *
  unfold cutL
  rw [e, Nat.add_assoc, List.take_length_add_append, List.drop_length_add_append, List.take_append_of_le_length (by omega), List.drop_append_of_le_length (by omega)]
  simp
theorem has_ne {p : Pg} {s : ByteArray} (hh : hasL p.flatten s = true) : p ≠ [] := by
  rintro rfl; simp [hasL] at hh
theorem has_at {p : Pg} {s : ByteArray} (h : rightP p = true) (hh : hasL p.flatten s = true) : kL (p.getD (atP p s) []) s < (p.getD (atP p s) []).length ∧ ((p.getD (atP p s) []).getD (kL (p.getD (atP p s) []) s) En.z).nm = s := by
  rw [← at_has h (has_ne hh)] at hh
  exact atL_iff.1 hh
theorem node_at {p : Pg} {s : ByteArray} (h : rightP p = true) (hh : hasL p.flatten s = true) : nodeOf p.flatten s = ((p.getD (atP p s) []).getD (kL (p.getD (atP p s) []) s) En.z).nd := by
  unfold nodeOf
  rw [node_flat h (has_ne hh) s (has_at h hh).1]
theorem dropP_ok {p : Pg} {s : ByteArray} (h : rightP p = true) (hh : hasL p.flatten s = true) :
    (dropP p s).2.2 = 0 ∧ (dropP p s).2.1 = nodeOf p.flatten s ∧ (dropP p s).1.flatten = cutL p.flatten (kL p.flatten s) ∧ rightP (dropP p s).1 = true := by
  have hp := has_ne hh
  have hr := rightP_iff.1 h
  have hk := (has_at h hh).1
  have hi := atP_lt hp s
  have hlen := right_len' h hi
  have hf : (shrinkP p (atP p s) (cutL (p.getD (atP p s) []) (kL (p.getD (atP p s) []) s))).flatten = cutL p.flatten (kL p.flatten s) := by
    rw [shrinkP_flat hi, cutL_flat h hp s hk]
  have hsub := cutL_sub p.flatten (kL p.flatten s)
  unfold dropP
  rw [if_pos h, if_pos hh]
  refine ⟨rfl, rfl, hf, ?_⟩
  rw [rightP_iff]
  refine ⟨shrinkP_len hi hr.1 (by have := (cutL_sub (p.getD (atP p s) []) (kL (p.getD (atP p s) []) s)).length_le; omega), ?_, ?_⟩
  · show ascL (shrinkP _ _ _).flatten = true
    rw [hf, ascL_iff]
    have := (ascL_iff _).1 hr.2.1
    exact ⟨fun e he => this.1 e (hsub.subset he), this.2.sublist hsub⟩
  · show (shrinkP _ _ _).flatten.length ≤ 160
    rw [hf]; exact Nat.le_trans hsub.length_le hr.2.2
end Go.Proofs.Ytflijnhgonigjaa
