/-
  PLAIN MATHEMATICS for the proofs over layer 6: which texts are names, the pieces of a text between slashes, the text of names. No condition.
-/
import Derived.Test.YtflijnhgonigjaaRows
namespace Go.Proofs.Ytflijnhgonigjaa

/-- a rune, or a byte, that may be in a name. -/
def okN (r : Int) : Bool := (decide (r ≥ 97) && decide (r ≤ 122)) || (decide (r ≥ 48) && decide (r ≤ 57)) || decide (r = 46) || decide (r = 45) || decide (r = 95)
def okC (c : UInt8) : Bool := okN (c.toNat : Int)
theorem okN_lt {r : Int} (h : okN r = true) : 0 ≤ r ∧ r < 128 := by
  unfold okN at h
  simp only [Bool.or_eq_true, Bool.and_eq_true, decide_eq_true_eq] at h
  omega

/-- a name that may be. -/
def rightL (l : List UInt8) : Bool := l.all okC && decide (1 ≤ l.length) && decide (l.length ≤ 11) && !(l == [46]) && !(l == [46, 46])
def rightB (s : ByteArray) : Bool := rightL s.data.toList

theorem okC_slash : okC 47 = false := by decide
theorem rightL_len {l : List UInt8} (h : rightL l = true) : 1 ≤ l.length ∧ l.length ≤ 11 := by
  unfold rightL at h
  simp only [Bool.and_eq_true, decide_eq_true_eq] at h
  omega
theorem rightL_noslash {l : List UInt8} (h : rightL l = true) : ∀ c ∈ l, c ≠ 47 := by
  unfold rightL at h
  simp only [Bool.and_eq_true, List.all_eq_true] at h
  intro c hc e
  subst e
  have := h.1.1.1.1 _ hc
  rw [okC_slash] at this
  cases this

/-- the pieces between the slashes. -/
def pieces : List UInt8 → List (List UInt8)
  | [] => [[]]
  | c :: r => if c = 47 then [] :: pieces r else match pieces r with
    | [] => [[c]]
    | p :: ps => (c :: p) :: ps

theorem pieces_ne : ∀ l, pieces l ≠ []
  | [] => by simp [pieces]
  | c :: r => by
    unfold pieces
    split
    · simp
    · split <;> simp
theorem pieces_slash (r : List UInt8) : pieces (47 :: r) = [] :: pieces r := by simp [pieces]
/-- a piece without a slash ahead of a slash; a piece without a slash alone. -/
theorem pieces_cut : ∀ (a r : List UInt8), (∀ c ∈ a, c ≠ 47) → pieces (a ++ 47 :: r) = a :: pieces r
  | [], r, _ => pieces_slash r
  | c :: a, r, h => by
    have hc : c ≠ 47 := h c (by simp)
    have ih := pieces_cut a r (fun x hx => h x (by simp [hx]))
    rw [List.cons_append, pieces, if_neg hc, ih]
theorem pieces_last : ∀ (a : List UInt8), (∀ c ∈ a, c ≠ 47) → pieces a = [a]
  | [], _ => rfl
  | c :: a, h => by
    have hc : c ≠ 47 := h c (by simp)
    have ih := pieces_last a (fun x hx => h x (by simp [hx]))
    rw [pieces, if_neg hc, ih]

/-- the text of names: a slash ahead of each. -/
def glue : List (List UInt8) → List UInt8
  | [] => []
  | p :: ps => 47 :: (p ++ glue ps)
theorem glue_append (a b : List (List UInt8)) : glue (a ++ b) = glue a ++ glue b := by
  induction a with
  | nil => rfl
  | cons p ps ih => simp [glue, ih]
/-- a text behind a slash is the text of its pieces. -/
theorem glue_pieces : ∀ l, glue (pieces l) = 47 :: l
  | [] => rfl
  | c :: r => by
    have ih := glue_pieces r
    unfold pieces
    split
    · rename_i h
      subst h
      simp [glue, ih]
    · split
      · rename_i h; exact absurd h (pieces_ne r)
      · rename_i p ps h
        rw [h] at ih
        simp only [glue, List.cons.injEq, true_and] at ih ⊢
        simp [ih]
/-- the pieces of the text of names without slashes are the names. -/
theorem pieces_glue : ∀ (l : List (List UInt8)), l ≠ [] → (∀ p ∈ l, ∀ c ∈ p, c ≠ 47) → ∃ t, glue l = 47 :: t ∧ pieces t = l
  | [], h, _ => absurd rfl h
  | [p], _, hs => ⟨p, by simp [glue], pieces_last p (hs p (by simp))⟩
  | p :: q :: ps, _, hs => by
    obtain ⟨t, ht, hp⟩ := pieces_glue (q :: ps) (by simp) (fun x hx => hs x (List.mem_cons_of_mem _ hx))
    refine ⟨p ++ 47 :: t, ?_, ?_⟩
    · rw [glue, ht]
    · rw [pieces_cut p t (hs p (by simp)), hp]

/-- what Split says: none where the path may not be. -/
def namesL (l : List UInt8) : Option (List (List UInt8)) :=
  if l = [47] then some [] else match l with
    | 47 :: r => if l.length ≤ 255 ∧ (pieces r).all rightL = true then some (pieces r) else none
    | _ => none
/-- what Join says. -/
def joinL (l : List (List UInt8)) : Option (List UInt8) :=
  if l = [] then some [47] else if l.all rightL = true ∧ (glue l).length ≤ 255 then some (glue l) else none

theorem joinL_names {l : List (List UInt8)} {p : List UInt8} (h : joinL l = some p) : namesL p = some l := by
  unfold joinL at h
  split at h
  · rename_i e; subst e; cases h; rfl
  · rename_i hn
    split at h
    · rename_i hh
      cases h
      obtain ⟨hr, hlen⟩ := hh
      obtain ⟨t, ht, hp⟩ := pieces_glue l hn (fun p hp => rightL_noslash (List.all_eq_true.1 hr p hp))
      have h1 : glue l ≠ [47] := by
        intro e
        rw [e] at ht
        have : t = [] := by simpa using ht.symm
        subst this
        rw [← hp] at hr
        exact absurd hr (by decide)
      rw [ht] at hlen h1 ⊢
      unfold namesL
      rw [if_neg h1]
      simp only
      rw [if_pos ⟨hlen, by rw [hp]; exact hr⟩, hp]
    · cases h
theorem namesL_join {p : List UInt8} {l : List (List UInt8)} (h : namesL p = some l) : joinL l = some p := by
  unfold namesL at h
  split at h
  · rename_i e; cases h; subst e; rfl
  · split at h
    · rename_i r hne
      split at h
      · rename_i hh
        cases h
        rw [joinL, if_neg (pieces_ne r), glue_pieces, if_pos ⟨hh.2, hh.1⟩]
      · cases h
    · cases h
theorem namesL_right {p : List UInt8} {l : List (List UInt8)} (h : namesL p = some l) : l.all rightL = true := by
  have := namesL_join h
  unfold joinL at this
  split at this
  · rename_i e; subst e; rfl
  · split at this
    · rename_i hh; exact hh.1
    · cases this
/-- the names but the last are those of a path that may be. -/
theorem joinL_take {l : List (List UInt8)} {p : List UInt8} (h : joinL l = some p) (k : Nat) : ∃ q, joinL (l.take k) = some q := by
  unfold joinL at h
  split at h
  · rename_i e; subst e; exact ⟨[47], by simp [joinL]⟩
  · split at h
    · rename_i hh
      unfold joinL
      split
      · exact ⟨_, rfl⟩
      · have hg : glue l = glue (l.take k) ++ glue (l.drop k) := by rw [← glue_append, List.take_append_drop]
        have hl : (glue (l.take k)).length ≤ 255 := by
          have := congrArg List.length hg
          rw [List.length_append] at this
          omega
        rw [if_pos ⟨List.all_eq_true.2 fun x hx => List.all_eq_true.1 hh.1 x (List.mem_of_mem_take hx), hl⟩]
        exact ⟨_, rfl⟩
    · cases h
end Go.Proofs.Ytflijnhgonigjaa
