/-
  PLAIN MATHEMATICS of spans: the spans of a map (ofN), what spans say of a block (den: the first; lastD: the last), which are valid (RightL), what is cut (cutL). Valid spans are told by what they say. No condition.
-/
namespace Go.Proofs.Ytmimfnbcffcdfaa

structure Sp where
  at_ : Int
  st : Int
  len : Int
def Sp.z : Sp := ⟨0, 0, 0⟩

def norm (z : Int) : Int := if z < 1 ∨ 65536 ≤ z then 0 else z
def joinsB (a b : Sp) : Bool := decide (b.at_ = a.at_ + a.len) && decide (b.st = a.st + a.len)
def holdsB (s : Sp) (i : Int) : Bool := decide (s.at_ ≤ i) && decide (i < s.at_ + s.len)
def inB (s : Sp) : Bool := decide (0 ≤ s.at_ ∧ s.at_ < 65536 ∧ 1 ≤ s.st ∧ s.st < 65536 ∧ 1 ≤ s.len ∧ s.len < 65536 ∧ s.at_ + s.len ≤ 65536 ∧ s.st + s.len ≤ 65536)
def placeI (s : Sp) (i : Int) : Int := s.st + (i - s.at_)

/-- one span more: the last one grows, or it stands behind. -/
def push : List Sp → Sp → List Sp
  | [], s => [s]
  | [a], s => if joinsB a s = true then [⟨a.at_, a.st, a.len + 1⟩] else [a, s]
  | a :: b :: r, s => a :: push (b :: r) s
def stepOf (acc : List Sp) (k : Nat) (z : Int) : List Sp := if norm z = 0 then acc else push acc ⟨k, z, 1⟩
def ofN (zs : List Int) : Nat → List Sp
  | 0 => []
  | k + 1 => stepOf (ofN zs k) k (zs.getD k 0)
def ofR (zs : List Int) : List Sp := ofN zs (min zs.length 65536)

def den : List Sp → Int → Int
  | [], _ => 0
  | s :: r, i => if holdsB s i = true then placeI s i else den r i
def lastD (l : List Sp) (i : Int) : Int := l.foldl (fun v s => if holdsB s i = true then placeI s i else v) 0

/-- s may stand behind p. -/
def fitsB (p : Option Sp) (s : Sp) : Bool := inB s && (match p with | none => true | some a => !(decide (s.at_ < a.at_ + a.len) || joinsB a s))
def rightL : Option Sp → List Sp → Bool
  | _, [] => true
  | p, s :: r => fitsB p s && rightL (some s) r
def cutGo (n : Int) : List Sp → List Sp
  | [] => []
  | s :: r => if s.at_ < n then ⟨s.at_, s.st, min s.len (n - s.at_)⟩ :: cutGo n r else cutGo n r
def cutR (l : List Sp) (n : Int) : List Sp := if rightL none l = true then cutGo n l else []
def total : List Sp → Int
  | [] => 0
  | s :: r => min (max s.len 0) 65536 + total r

theorem holdsB_iff {s : Sp} {i : Int} : holdsB s i = true ↔ s.at_ ≤ i ∧ i < s.at_ + s.len := by simp [holdsB]
theorem joinsB_iff {a b : Sp} : joinsB a b = true ↔ b.at_ = a.at_ + a.len ∧ b.st = a.st + a.len := by simp [joinsB]
theorem inB_iff {s : Sp} : inB s = true ↔ (0 ≤ s.at_ ∧ s.at_ < 65536 ∧ 1 ≤ s.st ∧ s.st < 65536 ∧ 1 ≤ s.len ∧ s.len < 65536 ∧ s.at_ + s.len ≤ 65536 ∧ s.st + s.len ≤ 65536) := by simp [inB]
theorem fitsB_none {s : Sp} : fitsB none s = inB s := by simp [fitsB]
theorem fitsB_some {a s : Sp} : fitsB (some a) s = true ↔ inB s = true ∧ a.at_ + a.len ≤ s.at_ ∧ joinsB a s = false := by
  simp [fitsB, Bool.and_eq_true]
theorem fitsB_in {p : Option Sp} {s : Sp} (h : fitsB p s = true) : inB s = true := by
  cases p with
  | none => rwa [fitsB_none] at h
  | some a => exact (fitsB_some.1 h).1

/-- below what may stand next, valid spans say nothing. -/
theorem den_low : ∀ (l : List Sp) (a : Sp) (i : Int), rightL (some a) l = true → i < a.at_ + a.len → den l i = 0
  | [], _, _, _, _ => rfl
  | s :: r, a, i, h, hi => by
    simp only [rightL, Bool.and_eq_true] at h
    obtain ⟨h1, h2⟩ := h
    obtain ⟨hin, hle, _⟩ := fitsB_some.1 h1
    have hb := inB_iff.1 hin
    have hno : holdsB s i = false := by
      cases hh : holdsB s i with
      | false => rfl
      | true => have := holdsB_iff.1 hh; omega
    simp only [den, hno]
    exact den_low r s i h2 (by omega)
theorem right_weak : ∀ (l : List Sp) (p : Option Sp), rightL p l = true → rightL none l = true
  | [], _, _ => rfl
  | s :: r, p, h => by
    simp only [rightL, Bool.and_eq_true] at h ⊢
    exact ⟨by rw [fitsB_none]; exact fitsB_in h.1, h.2⟩
theorem den_at (l : List Sp) (s : Sp) (hin : inB s = true) : den (s :: l) s.at_ = s.st := by
  have := inB_iff.1 hin
  have hh : holdsB s s.at_ = true := holdsB_iff.2 (by omega)
  simp only [den, hh, if_true, placeI]; omega
theorem den_first {l : List Sp} {s : Sp} {p : Option Sp} (h : rightL p (s :: l) = true) {i : Int} (hi : i < s.at_) : den (s :: l) i = 0 := by
  simp only [rightL, Bool.and_eq_true] at h
  have hb := inB_iff.1 (fitsB_in h.1)
  have hno : holdsB s i = false := by
    cases hh : holdsB s i with
    | false => rfl
    | true => have := holdsB_iff.1 hh; omega
  simp only [den, hno]
  exact den_low l s i h.2 (by omega)
theorem den_in {l : List Sp} {s : Sp} {i : Int} (h1 : s.at_ ≤ i) (h2 : i < s.at_ + s.len) : den (s :: l) i = s.st + (i - s.at_) := by
  have hh : holdsB s i = true := holdsB_iff.2 ⟨h1, h2⟩
  simp only [den, hh, if_true, placeI]
theorem den_out {l : List Sp} {s : Sp} {i : Int} (h : s.at_ + s.len ≤ i) : den (s :: l) i = den l i := by
  have hno : holdsB s i = false := by
    cases hh : holdsB s i with
    | false => rfl
    | true => have := holdsB_iff.1 hh; omega
  simp only [den, hno, Bool.false_eq_true, if_false]
/-- right behind a span, valid spans do not go on with it. -/
theorem den_next {l : List Sp} {s : Sp} (hs : inB s = true) (h : rightL (some s) l = true) : den l (s.at_ + s.len) ≠ s.st + s.len := by
  have hb := inB_iff.1 hs
  cases l with
  | nil => simp only [den]; omega
  | cons t r =>
    have h' := h
    simp only [rightL, Bool.and_eq_true] at h
    obtain ⟨hin, hle, hj⟩ := fitsB_some.1 h.1
    have hbt := inB_iff.1 hin
    by_cases e : t.at_ = s.at_ + s.len
    · rw [den_in (by omega) (by omega)]
      intro e2
      have : joinsB s t = true := joinsB_iff.2 ⟨e, by omega⟩
      rw [hj] at this; cases this
    · rw [den_first h' (by omega)]; omega

/-- VALID SPANS ARE TOLD BY WHAT THEY SAY. -/
theorem unique : ∀ (l l' : List Sp) (p p' : Option Sp), rightL p l = true → rightL p' l' = true → (∀ i, den l i = den l' i) → l = l'
  | [], [], _, _, _, _, _ => rfl
  | [], s :: r, _, p', _, h', hd => by
    simp only [rightL, Bool.and_eq_true] at h'
    have hb := inB_iff.1 (fitsB_in h'.1)
    have := hd s.at_
    rw [den_at r s (fitsB_in h'.1)] at this
    simp only [den] at this; omega
  | s :: r, [], p, _, h, _, hd => by
    simp only [rightL, Bool.and_eq_true] at h
    have hb := inB_iff.1 (fitsB_in h.1)
    have := hd s.at_
    rw [den_at r s (fitsB_in h.1)] at this
    simp only [den] at this; omega
  | s :: r, t :: q, p, p', h, h', hd => by
    have g := h
    have g' := h'
    simp only [rightL, Bool.and_eq_true] at h h'
    have hs := fitsB_in h.1
    have ht := fitsB_in h'.1
    have bs := inB_iff.1 hs
    have bt := inB_iff.1 ht
    have e1 : s.at_ = t.at_ := by
      rcases Int.lt_trichotomy s.at_ t.at_ with hlt | he | hlt
      · have := hd s.at_
        rw [den_at r s hs, den_first g' hlt] at this; omega
      · exact he
      · have := hd t.at_
        rw [den_at q t ht, den_first g hlt] at this; omega
    have e2 : s.st = t.st := by
      have := hd s.at_
      rw [den_at r s hs, e1, den_at q t ht] at this; exact this
    have e3 : s.len = t.len := by
      rcases Int.lt_trichotomy s.len t.len with hlt | he | hlt
      · have := hd (s.at_ + s.len)
        rw [den_out (Int.le_refl _), den_in (s := t) (by omega) (by omega)] at this
        exact absurd this (by have := den_next hs h.2; intro e; exact this (by rw [e]; omega))
      · exact he
      · have := hd (t.at_ + t.len)
        rw [den_out (s := t) (Int.le_refl _), den_in (s := s) (by omega) (by omega)] at this
        exact absurd this.symm (by have := den_next ht h'.2; intro e; exact this (by rw [e]; omega))
    have est : s = t := by cases s; cases t; simp only at e1 e2 e3; subst e1 e2 e3; rfl
    subst est
    have hr := unique r q (some s) (some s) h.2 h'.2 (fun i => by
      by_cases hi : i < s.at_ + s.len
      · rw [den_low r s i h.2 hi, den_low q s i h'.2 hi]
      · have := hd i
        rw [den_out (by omega), den_out (by omega)] at this; exact this)
    rw [hr]

/-- the last span of a list, or p. -/
def lastP : Option Sp → List Sp → Option Sp
  | p, [] => p
  | _, s :: r => lastP (some s) r

theorem right_snoc : ∀ (l : List Sp) (p : Option Sp) (s : Sp), rightL p (l ++ [s]) = (rightL p l && fitsB (lastP p l) s)
  | [], p, s => by simp [rightL, lastP]
  | a :: r, p, s => by
    simp only [List.cons_append, rightL, lastP]
    rw [right_snoc r (some a) s, Bool.and_assoc]
theorem lastP_snoc : ∀ (l : List Sp) (p : Option Sp) (s : Sp), lastP p (l ++ [s]) = some s
  | [], _, _ => rfl
  | _ :: r, _, s => lastP_snoc r _ s
theorem push_snoc : ∀ (l : List Sp) (a s : Sp), push (l ++ [a]) s = if joinsB a s = true then l ++ [⟨a.at_, a.st, a.len + 1⟩] else l ++ [a, s]
  | [], a, s => by simp [push]
  | [b], a, s => by
    show b :: push [a] s = _
    rw [push]; split <;> simp
  | b :: c :: r, a, s => by
    show b :: push ((c :: r) ++ [a]) s = _
    rw [push_snoc (c :: r) a s]; split <;> simp
theorem snoc_cases (l : List Sp) : l = [] ∨ ∃ r a, l = r ++ [a] := by
  rcases List.eq_nil_or_concat l with h | ⟨r, a, h⟩
  · exact Or.inl h
  · exact Or.inr ⟨r, a, by simpa using h⟩
theorem den_none : ∀ (l : List Sp) (i : Int), (∀ s, s ∈ l → holdsB s i = false) → den l i = 0
  | [], _, _ => rfl
  | s :: r, i, h => by
    have h1 := h s (by simp)
    simp only [den, h1, Bool.false_eq_true, if_false]
    exact den_none r i (fun t ht => h t (by simp [ht]))
theorem den_snoc_out : ∀ (l : List Sp) (a : Sp) (i : Int), holdsB a i = false → den (l ++ [a]) i = den l i
  | [], a, i, h => by simp [den, h]
  | s :: r, a, i, h => by
    simp only [List.cons_append, den]
    rw [den_snoc_out r a i h]
theorem den_snoc_in : ∀ (l : List Sp) (a : Sp) (i : Int), (∀ s, s ∈ l → holdsB s i = false) → holdsB a i = true → den (l ++ [a]) i = placeI a i
  | [], a, i, _, h => by simp [den, h]
  | s :: r, a, i, hl, h => by
    have h1 := hl s (by simp)
    simp only [List.cons_append, den, h1, Bool.false_eq_true, if_false]
    exact den_snoc_in r a i (fun t ht => hl t (by simp [ht])) h
theorem den_snoc_same : ∀ (l : List Sp) (a b : Sp) (i : Int), holdsB a i = holdsB b i → placeI a i = placeI b i → den (l ++ [a]) i = den (l ++ [b]) i
  | [], a, b, i, h, e => by simp [den, h, e]
  | s :: r, a, b, i, h, e => by
    simp only [List.cons_append, den]
    rw [den_snoc_same r a b i h e]
theorem holdsB_not {s : Sp} {i : Int} (h : i < s.at_ ∨ s.at_ + s.len ≤ i) : holdsB s i = false := by
  cases hh : holdsB s i with
  | false => rfl
  | true => have := holdsB_iff.1 hh; omega

theorem total_snoc : ∀ (l : List Sp) (a : Sp), total (l ++ [a]) = total l + min (max a.len 0) 65536
  | [], a => by simp [total]
  | s :: r, a => by simp only [List.cons_append, total]; rw [total_snoc r a]; omega
/-- how many of the first k are blocks. -/
def cntN (zs : List Int) : Nat → Int
  | 0 => 0
  | k + 1 => cntN zs k + (if norm (zs.getD k 0) = 0 then 0 else 1)

/-- what holds of the spans of the first k blocks. -/
structure Inv (zs : List Int) (k : Nat) (l : List Sp) : Prop where
  right : rightL none l = true
  says : ∀ i : Nat, i < k → den l i = norm (zs.getD i 0)
  all : ∀ s, s ∈ l → 0 ≤ s.at_ ∧ s.at_ + s.len ≤ k ∧ 1 ≤ s.st ∧ s.st + s.len ≤ 65536 ∧ 1 ≤ s.len

  tot : total l = cntN zs k

theorem norm_id {z : Int} (h : norm z ≠ 0) : norm z = z ∧ 1 ≤ z ∧ z < 65536 := by
  unfold norm at *
  split at h
  · exact absurd rfl h
  · rename_i h'; rw [if_neg h']; omega
theorem Inv.free {zs : List Int} {k : Nat} {l : List Sp} (h : Inv zs k l) {i : Int} (hi : i < 0 ∨ (k : Int) ≤ i) : ∀ s, s ∈ l → holdsB s i = false := fun s hs => by
  have := h.all s hs
  exact holdsB_not (by omega)

theorem inv_step {zs : List Int} {k : Nat} {l : List Sp} (h : Inv zs k l) (hk : k < 65536) : Inv zs (k + 1) (stepOf l k (zs.getD k 0)) := by
  have hfree := h.free (i := (k : Int)) (Or.inr (Int.le_refl _))
  unfold stepOf
  generalize hz : zs.getD k 0 = z
  by_cases hn : norm z = 0
  · rw [if_pos hn]
    refine ⟨h.right, fun i hi => ?_, fun s hs => ?_, ?_⟩
    · by_cases e : i = k
      · subst e; rw [hz, hn]; exact den_none l _ hfree
      · exact h.says i (by omega)
    · have := h.all s hs; omega
    · simp only [cntN, hz, hn, if_true]; rw [h.tot]; omega
  · rw [if_neg hn]
    obtain ⟨e1, e2, e3⟩ := norm_id hn
    rcases snoc_cases l with rfl | ⟨r, a, rfl⟩
    · refine ⟨?_, fun i hi => ?_, fun s hs => ?_, ?_⟩
      · simp only [push, rightL, fitsB_none, Bool.and_true]
        exact inB_iff.2 (by simp only; omega)
      · by_cases e : i = k
        · subst e; rw [hz, e1]
          exact (den_in (l := []) (s := ⟨(i : Int), z, 1⟩) (by simp) (by simp only; omega)).trans (by simp)
        · have := h.says i (by omega)
          rw [← this]
          exact (den_snoc_out [] ⟨(k : Int), z, 1⟩ i (holdsB_not (by simp only; omega)))
      · simp only [push, List.mem_singleton] at hs; subst hs; simp only; omega
      · have := h.tot
        simp only [cntN, hz, hn, if_false, push, total] at *; omega
    · have ha := h.all a (by simp)
      have hr := h.right
      rw [right_snoc, Bool.and_eq_true] at hr
      rw [push_snoc]
      by_cases hj : joinsB a ⟨(k : Int), z, 1⟩ = true
      · rw [if_pos hj]
        have hje := joinsB_iff.1 hj
        simp only at hje
        refine ⟨?_, fun i hi => ?_, fun s hs => ?_, ?_⟩
        · rw [right_snoc, Bool.and_eq_true]
          refine ⟨hr.1, ?_⟩
          have hin : inB (⟨a.at_, a.st, a.len + 1⟩ : Sp) = true := by
            have := inB_iff.1 (fitsB_in hr.2)
            exact inB_iff.2 (by simp only; omega)
          have h2 := hr.2
          generalize lastP none r = p at *
          cases p with
          | none => rw [fitsB_none]; exact hin
          | some b =>
            obtain ⟨_, g2, g3⟩ := fitsB_some.1 h2
            exact fitsB_some.2 ⟨hin, g2, g3⟩
        · by_cases e : i = k
          · subst e; rw [hz, e1]
            rw [den_snoc_in r _ _ (fun s hs => hfree s (by simp [hs])) (holdsB_iff.2 (by simp only; omega))]
            simp only [placeI]; omega
          · have := h.says i (by omega)
            rw [← this]
            refine den_snoc_same r _ _ _ ?_ rfl
            rw [Bool.eq_iff_iff, holdsB_iff, holdsB_iff]; simp only; omega
        · rw [List.mem_append, List.mem_singleton] at hs
          rcases hs with hs | rfl
          · have := h.all s (by simp [hs]); omega
          · simp only; omega
        · have := h.tot
          rw [total_snoc] at this ⊢
          simp only [cntN, hz, hn, if_false] at *; omega
      · rw [if_neg hj]
        have hjf : joinsB a ⟨(k : Int), z, 1⟩ = false := by simpa using hj
        have eq : r ++ [a, ⟨(k : Int), z, 1⟩] = (r ++ [a]) ++ [⟨(k : Int), z, 1⟩] := by simp
        rw [eq]
        refine ⟨?_, fun i hi => ?_, fun s hs => ?_, ?_⟩
        · rw [right_snoc, Bool.and_eq_true, lastP_snoc]
          exact ⟨h.right, fitsB_some.2 ⟨inB_iff.2 (by simp only; omega), by simp only; omega, hjf⟩⟩
        · by_cases e : i = k
          · subst e; rw [hz, e1]
            rw [den_snoc_in _ _ _ hfree (holdsB_iff.2 (by simp only; omega))]
            simp only [placeI]; omega
          · have := h.says i (by omega)
            rw [← this]
            exact den_snoc_out _ _ _ (holdsB_not (by simp only; omega))
        · rw [List.mem_append, List.mem_singleton] at hs
          rcases hs with hs | rfl
          · have := h.all s hs; omega
          · simp only; omega
        · have := h.tot
          rw [total_snoc]
          simp only [cntN, hz, hn, if_false] at *; omega

theorem inv_of (zs : List Int) : ∀ k, k ≤ 65536 → Inv zs k (ofN zs k)
  | 0, _ => ⟨rfl, fun i hi => by omega, fun s hs => by simp [ofN] at hs, rfl⟩
  | k + 1, h => inv_step (inv_of zs k (by omega)) (by omega)
theorem inv_ofR (zs : List Int) (h : zs.length ≤ 65536) : Inv zs zs.length (ofR zs) := by
  unfold ofR; rw [Nat.min_eq_left h]; exact inv_of zs _ h

/-- the last span counts as the first one does, in valid spans. -/
theorem fold_low : ∀ (l : List Sp) (a : Sp) (i v : Int), rightL (some a) l = true → i < a.at_ + a.len → l.foldl (fun v s => if holdsB s i = true then placeI s i else v) v = v
  | [], _, _, _, _, _ => rfl
  | s :: r, a, i, v, h, hi => by
    simp only [rightL, Bool.and_eq_true] at h
    obtain ⟨hin, hle, _⟩ := fitsB_some.1 h.1
    have hb := inB_iff.1 hin
    have hno : holdsB s i = false := holdsB_not (by omega)
    simp only [List.foldl_cons, hno, Bool.false_eq_true, if_false]
    exact fold_low r s i v h.2 (by omega)
theorem lastD_den : ∀ (l : List Sp) (p : Option Sp) (i : Int), rightL p l = true → lastD l i = den l i
  | [], _, _, _ => rfl
  | s :: r, p, i, h => by
    simp only [rightL, Bool.and_eq_true] at h
    unfold lastD
    cases hh : holdsB s i with
    | true =>
      simp only [List.foldl_cons, den, hh, if_true]
      exact fold_low r s i _ h.2 (holdsB_iff.1 hh).2
    | false =>
      simp only [List.foldl_cons, den, hh, Bool.false_eq_true, if_false]
      exact lastD_den r (some s) i h.2

theorem cut_nil : ∀ (l : List Sp) (a : Sp) (n : Int), rightL (some a) l = true → n ≤ a.at_ + a.len → cutGo n l = []
  | [], _, _, _, _ => rfl
  | s :: r, a, n, h, hn => by
    simp only [rightL, Bool.and_eq_true] at h
    obtain ⟨hin, hle, _⟩ := fitsB_some.1 h.1
    have hb := inB_iff.1 hin
    rw [cutGo, if_neg (by omega)]
    exact cut_nil r s n h.2 (by omega)
theorem cut_all (s : Sp) (r : List Sp) (n : Int) (h : s.at_ + s.len ≤ n) (h1 : 1 ≤ s.len) : cutGo n (s :: r) = s :: cutGo n r := by
  rw [cutGo, if_pos (by omega), show min s.len (n - s.at_) = s.len by omega]
theorem cut_right : ∀ (l : List Sp) (p : Option Sp) (n : Int), rightL p l = true → rightL p (cutGo n l) = true
  | [], _, _, _ => rfl
  | s :: r, p, n, h => by
    simp only [rightL, Bool.and_eq_true] at h
    have hb := inB_iff.1 (fitsB_in h.1)
    by_cases h1 : s.at_ + s.len ≤ n
    · rw [cut_all s r n h1 (by omega)]
      simp only [rightL, Bool.and_eq_true]
      exact ⟨h.1, cut_right r (some s) n h.2⟩
    · have hnil := cut_nil r s n h.2 (by omega)
      by_cases h2 : s.at_ < n
      · rw [cutGo, if_pos h2, hnil]
        simp only [rightL, Bool.and_true]
        have hin : inB (⟨s.at_, s.st, min s.len (n - s.at_)⟩ : Sp) = true := inB_iff.2 (by simp only; omega)
        cases p with
        | none => rw [fitsB_none]; exact hin
        | some b =>
          obtain ⟨_, g2, g3⟩ := fitsB_some.1 h.1
          exact fitsB_some.2 ⟨hin, g2, g3⟩
      · rw [cutGo, if_neg h2, hnil]; rfl
theorem cut_den : ∀ (l : List Sp) (p : Option Sp) (n i : Int), rightL p l = true → den (cutGo n l) i = if i < n then den l i else 0
  | [], _, _, _, _ => by simp [cutGo, den]
  | s :: r, p, n, i, h => by
    have g := h
    simp only [rightL, Bool.and_eq_true] at h
    have hb := inB_iff.1 (fitsB_in h.1)
    by_cases h1 : s.at_ + s.len ≤ n
    · rw [cut_all s r n h1 (by omega)]
      cases hh : holdsB s i with
      | true =>
        have := holdsB_iff.1 hh
        simp only [den, hh, if_true]
        rw [if_pos (by omega)]
      | false =>
        simp only [den, hh, Bool.false_eq_true, if_false]
        exact cut_den r (some s) n i h.2
    · have hnil := cut_nil r s n h.2 (by omega)
      by_cases h2 : s.at_ < n
      · rw [cutGo, if_pos h2, hnil]
        by_cases hi : i < n
        · rw [if_pos hi]
          by_cases h3 : i < s.at_
          · rw [den_first g h3]; simp only [den, holdsB_not (s := ⟨s.at_, s.st, min s.len (n - s.at_)⟩) (i := i) (Or.inl h3)]; simp
          · rw [den_in (s := s) (by omega) (by omega), den_in (s := ⟨s.at_, s.st, min s.len (n - s.at_)⟩) (by simp only; omega) (by simp only; omega)]
        · rw [if_neg hi]
          simp only [den, holdsB_not (s := ⟨s.at_, s.st, min s.len (n - s.at_)⟩) (i := i) (Or.inr (by simp only; omega))]; simp
      · rw [cutGo, if_neg h2, hnil]
        by_cases hi : i < n
        · rw [if_pos hi, den_first g (by omega)]; rfl
        · rw [if_neg hi]; rfl

theorem cutR_right {l : List Sp} (h : rightL none l = true) (n : Int) : rightL none (cutR l n) = true := by
  unfold cutR; rw [if_pos h]; exact cut_right l none n h
theorem cutR_den {l : List Sp} (h : rightL none l = true) (n i : Int) : den (cutR l n) i = if i < n then den l i else 0 := by
  unfold cutR; rw [if_pos h]; exact cut_den l none n i h
/-- CUT TWICE is cut at the lesser place. -/
theorem cut_twice {l : List Sp} (h : rightL none l = true) (a b : Int) : cutR (cutR l a) b = cutR l (min a b) := by
  refine unique _ _ none none (cutR_right (cutR_right h a) b) (cutR_right h _) (fun i => ?_)
  rw [cutR_den (cutR_right h a), cutR_den h, cutR_den h]
  by_cases h1 : i < a <;> by_cases h2 : i < b
  · rw [if_pos h2, if_pos h1, if_pos (by omega)]
  · rw [if_neg h2, if_neg (by omega)]
  · rw [if_pos h2, if_neg h1, if_neg (by omega)]
  · rw [if_neg h2, if_neg (by omega)]

theorem of_den {zs : List Int} (hz : zs.length ≤ 65536) (i : Int) : den (ofR zs) i = if 0 ≤ i ∧ i < zs.length then norm (zs.getD i.toNat 0) else 0 := by
  have hv := inv_ofR zs hz
  by_cases h : 0 ≤ i ∧ i < zs.length
  · rw [if_pos h]
    obtain ⟨k, rfl⟩ := Int.eq_ofNat_of_zero_le h.1
    exact hv.says k (by omega)
  · rw [if_neg h]
    exact den_none _ _ (hv.free (by omega))
/-- WHAT IS CUT is what the map's beginning says. -/
theorem cut_of {zs : List Int} (hz : zs.length ≤ 65536) (n : Nat) (hn : n ≤ zs.length) : cutR (ofR zs) n = ofR (zs.take n) := by
  have hl : (zs.take n).length = n := by rw [List.length_take]; omega
  have hz2 : (zs.take n).length ≤ 65536 := by omega
  refine unique _ _ none none (cutR_right (inv_ofR zs hz).right _) (inv_ofR _ hz2).right (fun i => ?_)
  rw [cutR_den (inv_ofR zs hz).right, of_den hz, of_den hz2, hl]
  by_cases h1 : 0 ≤ i ∧ i < (n : Int)
  · rw [if_pos h1.2, if_pos (by omega), if_pos h1]
    have : i.toNat < n := by omega
    simp [List.getD, List.getElem?_take_of_lt this]
  · rw [if_neg h1]
    by_cases h2 : i < (n : Int)
    · rw [if_pos h2, if_neg (by omega)]
    · rw [if_neg h2]

/-- the map of n blocks. -/
def mapR (l : List Sp) (n : Nat) : List Int := (List.range n).map fun i : Nat => lastD l (i : Int)
theorem mapR_len (l : List Sp) (n : Nat) : (mapR l n).length = n := by simp [mapR]
theorem mapR_at (l : List Sp) (n i : Nat) (h : i < n) : (mapR l n).getD i 0 = lastD l i := by simp [mapR, List.getD, h]

theorem right_bound : ∀ (l : List Sp) (p : Option Sp) (i : Int), rightL p l = true → 0 ≤ den l i ∧ den l i < 65536
  | [], _, _, _ => by simp [den]
  | s :: r, p, i, h => by
    simp only [rightL, Bool.and_eq_true] at h
    have hb := inB_iff.1 (fitsB_in h.1)
    cases hh : holdsB s i with
    | true => have := holdsB_iff.1 hh; simp only [den, hh, if_true, placeI]; omega
    | false =>
      simp only [den, hh, Bool.false_eq_true, if_false]
      exact right_bound r (some s) i h.2
theorem lastP_some : ∀ (l : List Sp) (a : Sp), ∃ b, lastP (some a) l = some b
  | [], a => ⟨a, rfl⟩
  | s :: r, _ => lastP_some r s
theorem right_ends : ∀ (l : List Sp) (a b : Sp), rightL (some a) l = true → lastP (some a) l = some b → a.at_ + a.len ≤ b.at_ + b.len ∧ ∀ s, s ∈ l → a.at_ + a.len ≤ s.at_ ∧ s.at_ + s.len ≤ b.at_ + b.len
  | [], a, b, _, h => by cases h; simp
  | s :: r, a, b, h, hb => by
    simp only [rightL, Bool.and_eq_true] at h
    obtain ⟨hin, hle, _⟩ := fitsB_some.1 h.1
    have hbd := inB_iff.1 hin
    obtain ⟨g1, g2⟩ := right_ends r s b h.2 hb
    refine ⟨by omega, fun t ht => ?_⟩
    rcases List.mem_cons.1 ht with rfl | ht
    · omega
    · have := g2 t ht; omega
/-- the end of the last one. -/
def endL (l : List Sp) : Int := match lastP none l with | none => 0 | some a => a.at_ + a.len
theorem endL_snoc (l : List Sp) (a : Sp) : endL (l ++ [a]) = a.at_ + a.len := by unfold endL; rw [lastP_snoc]
theorem endL_nil : endL [] = 0 := rfl
theorem right_all {l : List Sp} (h : rightL none l = true) : ∀ s, s ∈ l → 0 ≤ s.at_ ∧ s.at_ + s.len ≤ endL l := by
  cases l with
  | nil => intro s hs; cases hs
  | cons a r =>
    simp only [rightL, Bool.and_eq_true] at h
    have hb := inB_iff.1 (fitsB_in h.1)
    obtain ⟨b, hl⟩ := lastP_some r a
    obtain ⟨g1, g2⟩ := right_ends r a b h.2 hl
    have he : endL (a :: r) = b.at_ + b.len := by unfold endL; simp only [lastP, hl]
    intro s hs
    rw [he]
    rcases List.mem_cons.1 hs with rfl | hs
    · omega
    · have := g2 s hs; omega
theorem right_mem : ∀ (l : List Sp) (p : Option Sp), rightL p l = true → ∀ s, s ∈ l → inB s = true
  | [], _, _, s, hs => by cases hs
  | a :: r, p, h, s, hs => by
    simp only [rightL, Bool.and_eq_true] at h
    rcases List.mem_cons.1 hs with rfl | hs
    · exact fitsB_in h.1
    · exact right_mem r (some a) h.2 s hs
theorem endL_bd {l : List Sp} (h : rightL none l = true) : 0 ≤ endL l ∧ endL l ≤ 65536 := by
  rcases snoc_cases l with rfl | ⟨r, a, rfl⟩
  · rw [endL_nil]; omega
  · rw [endL_snoc]
    have := inB_iff.1 (right_mem _ _ h a (by simp))
    omega
/-- VALID SPANS ARE THOSE OF THEIR MAP. -/
theorem of_map {l : List Sp} (h : rightL none l = true) : ofR (mapR l (endL l).toNat) = l := by
  have hb := endL_bd h
  have hz : (mapR l (endL l).toNat).length ≤ 65536 := by rw [mapR_len]; omega
  refine unique _ _ none none (inv_ofR _ hz).right h (fun i => ?_)
  rw [of_den hz, mapR_len]
  by_cases h1 : 0 ≤ i ∧ i < ((endL l).toNat : Int)
  · rw [if_pos h1, mapR_at _ _ _ (by omega), show ((i.toNat : Nat) : Int) = i by omega, lastD_den l none i h]
    have := right_bound l none i h
    unfold norm
    by_cases h2 : den l i = 0
    · rw [h2]; rfl
    · rw [if_neg (by omega)]
  · rw [if_neg h1]
    refine (den_none l i (fun s hs => ?_)).symm
    have := right_all h s hs
    exact holdsB_not (by omega)
/-- A MAP COMES BACK. -/
theorem map_of {zs : List Int} (hz : zs.length ≤ 65536) (hb : ∀ z, z ∈ zs → 0 ≤ z ∧ z ≤ 65535) : mapR (ofR zs) zs.length = zs := by
  refine List.ext_getElem (by rw [mapR_len]) (fun i h1 h2 => ?_)
  have h3 := mapR_at (ofR zs) zs.length i h2
  rw [List.getD, List.getElem?_eq_getElem h1, Option.getD_some] at h3
  rw [h3, lastD_den _ none _ (inv_ofR zs hz).right, (inv_ofR zs hz).says i h2]
  rw [List.getD, List.getElem?_eq_getElem h2, Option.getD_some]
  have := hb _ (List.getElem_mem h2)
  unfold norm
  split <;> omega
theorem norm_in {z : Int} (h : 0 ≤ z ∧ z ≤ 65535) : norm z = z := by unfold norm; split <;> omega
end Go.Proofs.Ytmimfnbcffcdfaa
