/-
  PLAIN MATHEMATICS of spans: the spans of a map (ofN), what spans say of a block (den: the first; lastD: the last), which are valid (RightL), what is cut (cutL). Valid spans are told by what they say. No condition.
  WORDS OF MEMORY for the proofs over layer 4: a slice of ints that reads as a list, a slice of spans that reads as a list (nil let in), and what keeps them so. No condition.
  WALKS: joins, holds, place, inBounds, listed, the reference's block. Conditions: the fields of a span are of an int64 (joins, place: small enough that no sum wraps round).
  WALKS: the reference's Same, of spans and of ints: where both lists are the same. Conditions: as many elements as an int64 counts.
  WALKS: At, Right. Conditions: at most 1000000000 spans; At: fields far from the ends of an int64.
  PLAIN MATHEMATICS of layer 9's cards: which are valid (rightC), their bytes (writeC), the card of any bytes (readC); what was written is read. Nothing of the program is named here; no condition.
  MATHEMATICS: the numbers that a card's bytes have, by either layout. No condition.
  WALKS: slices.Equal of ints and of spans, the reference's Same of both: each tells whether the lists are one, and only reads. Conditions: as many elements as an int64 counts.
  WORDS OF MEMORY for layer 9 (a card as a value, a card in a block of its own), and the small functions: within, isKind, isBlock, isPlace, the reference's small, widths, numbers. Conditions: the numbers are of an int64.
-/
import Derived.Test.YtgdlfiejjnjcpaaGreatBM
import Derived.Test.YtgdlfiejjnjcpaaGreatRows
import Derived.WalkKit
import Derived.WalkSpells
import Derived.WalkLawsBesides
import Derived.Lib.Hide
import Derived.Laws.OwnMore
import Derived.Deep.AppendLies
import Derived.Deep.Draws
import Derived.Deep.QuietTactic
import Derived.BigQuiet
import Derived.Deep.RegionHeld3
import Derived.Deep.DeepFit
import Derived.Deep.CutRange
import Derived.IntWalk
namespace Go.Proofs.YtgdlfiejjnjcpaaGreat

structure Sp where
  at_ : Int
  st : Int
  len : Int
def Sp.z : Sp := ⟨0, 0, 0⟩

def norm (z : Int) : Int := if z < 1 ∨ 65536 ≤ z then 0 else z
def joinsB (a b : Sp) : Bool := decide (b.at_ = a.at_ + a.len) && decide (b.st = a.st + a.len)
def holdsB (s : Sp) (i : Int) : Bool := decide (s.at_ ≤ i) && decide (i < s.at_ + s.len)
def inB (s : Sp) : Bool := decide (0 ≤ s.at_ ∧ s.at_ < 65536 ∧ 1 ≤ s.st ∧ s.st < 65536 ∧ 1 ≤ s.len ∧ s.len < 65536 ∧ s.at_ + s.len ≤ 65536 ∧ s.st + s.len ≤ 65536)
def placeI (s : Sp) (i : Int) : Int := s.st + (i - s.at_)

/-- one span more: the last one grows, or it stands behind. -/
def push : List Sp → Sp → List Sp
  | [], s => [s]
  | [a], s => if joinsB a s = true then [⟨a.at_, a.st, a.len + 1⟩] else [a, s]
  | a :: b :: r, s => a :: push (b :: r) s
def stepOf (acc : List Sp) (k : Nat) (z : Int) : List Sp := if norm z = 0 then acc else push acc ⟨k, z, 1⟩
def ofN (zs : List Int) : Nat → List Sp
  | 0 => []
  | k + 1 => stepOf (ofN zs k) k (zs.getD k 0)
def ofR (zs : List Int) : List Sp := ofN zs (min zs.length 65536)

def den : List Sp → Int → Int
  | [], _ => 0
  | s :: r, i => if holdsB s i = true then placeI s i else den r i
def lastD (l : List Sp) (i : Int) : Int := l.foldl (fun v s => if holdsB s i = true then placeI s i else v) 0

/-- s may stand behind p. -/
def fitsB (p : Option Sp) (s : Sp) : Bool := inB s && (match p with | none => true | some a => !(decide (s.at_ < a.at_ + a.len) || joinsB a s))
def rightL : Option Sp → List Sp → Bool
  | _, [] => true
  | p, s :: r => fitsB p s && rightL (some s) r
def cutGo (n : Int) : List Sp → List Sp
  | [] => []
  | s :: r => if s.at_ < n then ⟨s.at_, s.st, min s.len (n - s.at_)⟩ :: cutGo n r else cutGo n r
def cutR (l : List Sp) (n : Int) : List Sp := if rightL none l = true then cutGo n l else []
def total : List Sp → Int
  | [] => 0
  | s :: r => min (max s.len 0) 65536 + total r

theorem holdsB_iff {s : Sp} {i : Int} : holdsB s i = true ↔ s.at_ ≤ i ∧ i < s.at_ + s.len := by simp [holdsB]
theorem joinsB_iff {a b : Sp} : joinsB a b = true ↔ b.at_ = a.at_ + a.len ∧ b.st = a.st + a.len := by simp [joinsB]
theorem inB_iff {s : Sp} : inB s = true ↔ (0 ≤ s.at_ ∧ s.at_ < 65536 ∧ 1 ≤ s.st ∧ s.st < 65536 ∧ 1 ≤ s.len ∧ s.len < 65536 ∧ s.at_ + s.len ≤ 65536 ∧ s.st + s.len ≤ 65536) := by simp [inB]
theorem fitsB_none {s : Sp} : fitsB none s = inB s := by simp [fitsB]
theorem fitsB_some {a s : Sp} : fitsB (some a) s = true ↔ inB s = true ∧ a.at_ + a.len ≤ s.at_ ∧ joinsB a s = false := by
  simp [fitsB, Bool.and_eq_true]
theorem fitsB_in {p : Option Sp} {s : Sp} (h : fitsB p s = true) : inB s = true := by
  cases p with
  | none => rwa [fitsB_none] at h
  | some a => exact (fitsB_some.1 h).1

/-- below what may stand next, valid spans say nothing. -/
theorem den_low : ∀ (l : List Sp) (a : Sp) (i : Int), rightL (some a) l = true → i < a.at_ + a.len → den l i = 0
  | [], _, _, _, _ => rfl
  | s :: r, a, i, h, hi => by
    simp only [rightL, Bool.and_eq_true] at h
    obtain ⟨h1, h2⟩ := h
    obtain ⟨hin, hle, _⟩ := fitsB_some.1 h1
    have hb := inB_iff.1 hin
    have hno : holdsB s i = false := by
      cases hh : holdsB s i with
      | false => rfl
      | true => have := holdsB_iff.1 hh; omega
    simp only [den, hno]
    exact den_low r s i h2 (by omega)
theorem right_weak : ∀ (l : List Sp) (p : Option Sp), rightL p l = true → rightL none l = true
  | [], _, _ => rfl
  | s :: r, p, h => by
    simp only [rightL, Bool.and_eq_true] at h ⊢
    exact ⟨by rw [fitsB_none]; exact fitsB_in h.1, h.2⟩
theorem den_at (l : List Sp) (s : Sp) (hin : inB s = true) : den (s :: l) s.at_ = s.st := by
  have := inB_iff.1 hin
  have hh : holdsB s s.at_ = true := holdsB_iff.2 (by omega)
  simp only [den, hh, if_true, placeI]; omega
theorem den_first {l : List Sp} {s : Sp} {p : Option Sp} (h : rightL p (s :: l) = true) {i : Int} (hi : i < s.at_) : den (s :: l) i = 0 := by
  simp only [rightL, Bool.and_eq_true] at h
  have hb := inB_iff.1 (fitsB_in h.1)
  have hno : holdsB s i = false := by
    cases hh : holdsB s i with
    | false => rfl
    | true => have := holdsB_iff.1 hh; omega
  simp only [den, hno]
  exact den_low l s i h.2 (by omega)
theorem den_in {l : List Sp} {s : Sp} {i : Int} (h1 : s.at_ ≤ i) (h2 : i < s.at_ + s.len) : den (s :: l) i = s.st + (i - s.at_) := by
  have hh : holdsB s i = true := holdsB_iff.2 ⟨h1, h2⟩
  simp only [den, hh, if_true, placeI]
theorem den_out {l : List Sp} {s : Sp} {i : Int} (h : s.at_ + s.len ≤ i) : den (s :: l) i = den l i := by
  have hno : holdsB s i = false := by
    cases hh : holdsB s i with
    | false => rfl
    | true => have := holdsB_iff.1 hh; omega
  simp only [den, hno, Bool.false_eq_true, if_false]
/-- right behind a span, valid spans do not go on with it. -/
theorem den_next {l : List Sp} {s : Sp} (hs : inB s = true) (h : rightL (some s) l = true) : den l (s.at_ + s.len) ≠ s.st + s.len := by
  have hb := inB_iff.1 hs
  cases l with
  | nil => simp only [den]; omega
  | cons t r =>
    have h' := h
    simp only [rightL, Bool.and_eq_true] at h
    obtain ⟨hin, hle, hj⟩ := fitsB_some.1 h.1
    have hbt := inB_iff.1 hin
    by_cases e : t.at_ = s.at_ + s.len
    · rw [den_in (by omega) (by omega)]
      intro e2
      have : joinsB s t = true := joinsB_iff.2 ⟨e, by omega⟩
      rw [hj] at this; cases this
    · rw [den_first h' (by omega)]; omega

/-- VALID SPANS ARE TOLD BY WHAT THEY SAY. -/
theorem unique : ∀ (l l' : List Sp) (p p' : Option Sp), rightL p l = true → rightL p' l' = true → (∀ i, den l i = den l' i) → l = l'
  | [], [], _, _, _, _, _ => rfl
  | [], s :: r, _, p', _, h', hd => by
    simp only [rightL, Bool.and_eq_true] at h'
    have hb := inB_iff.1 (fitsB_in h'.1)
    have := hd s.at_
    rw [den_at r s (fitsB_in h'.1)] at this
    simp only [den] at this; omega
  | s :: r, [], p, _, h, _, hd => by
    simp only [rightL, Bool.and_eq_true] at h
    have hb := inB_iff.1 (fitsB_in h.1)
    have := hd s.at_
    rw [den_at r s (fitsB_in h.1)] at this
    simp only [den] at this; omega
  | s :: r, t :: q, p, p', h, h', hd => by
    have g := h
    have g' := h'
    simp only [rightL, Bool.and_eq_true] at h h'
    have hs := fitsB_in h.1
    have ht := fitsB_in h'.1
    have bs := inB_iff.1 hs
    have bt := inB_iff.1 ht
    have e1 : s.at_ = t.at_ := by
      rcases Int.lt_trichotomy s.at_ t.at_ with hlt | he | hlt
      · have := hd s.at_
        rw [den_at r s hs, den_first g' hlt] at this; omega
      · exact he
      · have := hd t.at_
        rw [den_at q t ht, den_first g hlt] at this; omega
    have e2 : s.st = t.st := by
      have := hd s.at_
      rw [den_at r s hs, e1, den_at q t ht] at this; exact this
    have e3 : s.len = t.len := by
      rcases Int.lt_trichotomy s.len t.len with hlt | he | hlt
      · have := hd (s.at_ + s.len)
        rw [den_out (Int.le_refl _), den_in (s := t) (by omega) (by omega)] at this
        exact absurd this (by have := den_next hs h.2; intro e; exact this (by rw [e]; omega))
      · exact he
      · have := hd (t.at_ + t.len)
        rw [den_out (s := t) (Int.le_refl _), den_in (s := s) (by omega) (by omega)] at this
        exact absurd this.symm (by have := den_next ht h'.2; intro e; exact this (by rw [e]; omega))
    have est : s = t := by cases s; cases t; simp only at e1 e2 e3; subst e1 e2 e3; rfl
    subst est
    have hr := unique r q (some s) (some s) h.2 h'.2 (fun i => by
      by_cases hi : i < s.at_ + s.len
      · rw [den_low r s i h.2 hi, den_low q s i h'.2 hi]
      · have := hd i
        rw [den_out (by omega), den_out (by omega)] at this; exact this)
    rw [hr]

/-- the last span of a list, or p. -/
def lastP : Option Sp → List Sp → Option Sp
  | p, [] => p
  | _, s :: r => lastP (some s) r

theorem right_snoc : ∀ (l : List Sp) (p : Option Sp) (s : Sp), rightL p (l ++ [s]) = (rightL p l && fitsB (lastP p l) s)
  | [], p, s => by simp [rightL, lastP]
  | a :: r, p, s => by
    simp only [List.cons_append, rightL, lastP]
    rw [right_snoc r (some a) s, Bool.and_assoc]
theorem lastP_snoc : ∀ (l : List Sp) (p : Option Sp) (s : Sp), lastP p (l ++ [s]) = some s
  | [], _, _ => rfl
  | _ :: r, _, s => lastP_snoc r _ s
theorem push_snoc : ∀ (l : List Sp) (a s : Sp), push (l ++ [a]) s = if joinsB a s = true then l ++ [⟨a.at_, a.st, a.len + 1⟩] else l ++ [a, s]
  | [], a, s => by simp [push]
  | [b], a, s => by
    show b :: push [a] s = _
    rw [push]; split <;> simp
  | b :: c :: r, a, s => by
    show b :: push ((c :: r) ++ [a]) s = _
    rw [push_snoc (c :: r) a s]; split <;> simp
theorem snoc_cases (l : List Sp) : l = [] ∨ ∃ r a, l = r ++ [a] := by
  rcases List.eq_nil_or_concat l with h | ⟨r, a, h⟩
  · exact Or.inl h
  · exact Or.inr ⟨r, a, by simpa using h⟩
theorem den_none : ∀ (l : List Sp) (i : Int), (∀ s, s ∈ l → holdsB s i = false) → den l i = 0
  | [], _, _ => rfl
  | s :: r, i, h => by
    have h1 := h s (by simp)
    simp only [den, h1, Bool.false_eq_true, if_false]
    exact den_none r i (fun t ht => h t (by simp [ht]))
theorem den_snoc_out : ∀ (l : List Sp) (a : Sp) (i : Int), holdsB a i = false → den (l ++ [a]) i = den l i
  | [], a, i, h => by simp [den, h]
  | s :: r, a, i, h => by
    simp only [List.cons_append, den]
    rw [den_snoc_out r a i h]
theorem den_snoc_in : ∀ (l : List Sp) (a : Sp) (i : Int), (∀ s, s ∈ l → holdsB s i = false) → holdsB a i = true → den (l ++ [a]) i = placeI a i
  | [], a, i, _, h => by simp [den, h]
  | s :: r, a, i, hl, h => by
    have h1 := hl s (by simp)
    simp only [List.cons_append, den, h1, Bool.false_eq_true, if_false]
    exact den_snoc_in r a i (fun t ht => hl t (by simp [ht])) h
theorem den_snoc_same : ∀ (l : List Sp) (a b : Sp) (i : Int), holdsB a i = holdsB b i → placeI a i = placeI b i → den (l ++ [a]) i = den (l ++ [b]) i
  | [], a, b, i, h, e => by simp [den, h, e]
  | s :: r, a, b, i, h, e => by
    simp only [List.cons_append, den]
    rw [den_snoc_same r a b i h e]
theorem holdsB_not {s : Sp} {i : Int} (h : i < s.at_ ∨ s.at_ + s.len ≤ i) : holdsB s i = false := by
  cases hh : holdsB s i with
  | false => rfl
  | true => have := holdsB_iff.1 hh; omega

theorem total_snoc : ∀ (l : List Sp) (a : Sp), total (l ++ [a]) = total l + min (max a.len 0) 65536
  | [], a => by simp [total]
  | s :: r, a => by simp only [List.cons_append, total]; rw [total_snoc r a]; omega
/-- how many of the first k are blocks. -/
def cntN (zs : List Int) : Nat → Int
  | 0 => 0
  | k + 1 => cntN zs k + (if norm (zs.getD k 0) = 0 then 0 else 1)

/-- what holds of the spans of the first k blocks. -/
structure Inv (zs : List Int) (k : Nat) (l : List Sp) : Prop where
  right : rightL none l = true
  says : ∀ i : Nat, i < k → den l i = norm (zs.getD i 0)
  all : ∀ s, s ∈ l → 0 ≤ s.at_ ∧ s.at_ + s.len ≤ k ∧ 1 ≤ s.st ∧ s.st + s.len ≤ 65536 ∧ 1 ≤ s.len

  tot : total l = cntN zs k

theorem norm_id {z : Int} (h : norm z ≠ 0) : norm z = z ∧ 1 ≤ z ∧ z < 65536 := by
  unfold norm at *
  split at h
  · exact absurd rfl h
  · rename_i h'; rw [if_neg h']; omega
theorem Inv.free {zs : List Int} {k : Nat} {l : List Sp} (h : Inv zs k l) {i : Int} (hi : i < 0 ∨ (k : Int) ≤ i) : ∀ s, s ∈ l → holdsB s i = false := fun s hs => by
  have := h.all s hs
  exact holdsB_not (by omega)

theorem inv_step {zs : List Int} {k : Nat} {l : List Sp} (h : Inv zs k l) (hk : k < 65536) : Inv zs (k + 1) (stepOf l k (zs.getD k 0)) := by
  have hfree := h.free (i := (k : Int)) (Or.inr (Int.le_refl _))
  unfold stepOf
  generalize hz : zs.getD k 0 = z
  by_cases hn : norm z = 0
  · rw [if_pos hn]
    refine ⟨h.right, fun i hi => ?_, fun s hs => ?_, ?_⟩
    · by_cases e : i = k
      · subst e; rw [hz, hn]; exact den_none l _ hfree
      · exact h.says i (by omega)
    · have := h.all s hs; omega
    · simp only [cntN, hz, hn, if_true]; rw [h.tot]; omega
  · rw [if_neg hn]
    obtain ⟨e1, e2, e3⟩ := norm_id hn
    rcases snoc_cases l with rfl | ⟨r, a, rfl⟩
    · refine ⟨?_, fun i hi => ?_, fun s hs => ?_, ?_⟩
      · simp only [push, rightL, fitsB_none, Bool.and_true]
        exact inB_iff.2 (by simp only; omega)
      · by_cases e : i = k
        · subst e; rw [hz, e1]
          exact (den_in (l := []) (s := ⟨(i : Int), z, 1⟩) (by simp) (by simp only; omega)).trans (by simp)
        · have := h.says i (by omega)
          rw [← this]
          exact (den_snoc_out [] ⟨(k : Int), z, 1⟩ i (holdsB_not (by simp only; omega)))
      · simp only [push, List.mem_singleton] at hs; subst hs; simp only; omega
      · have := h.tot
        simp only [cntN, hz, hn, if_false, push, total] at *; omega
    · have ha := h.all a (by simp)
      have hr := h.right
      rw [right_snoc, Bool.and_eq_true] at hr
      rw [push_snoc]
      by_cases hj : joinsB a ⟨(k : Int), z, 1⟩ = true
      · rw [if_pos hj]
        have hje := joinsB_iff.1 hj
        simp only at hje
        refine ⟨?_, fun i hi => ?_, fun s hs => ?_, ?_⟩
        · rw [right_snoc, Bool.and_eq_true]
          refine ⟨hr.1, ?_⟩
          have hin : inB (⟨a.at_, a.st, a.len + 1⟩ : Sp) = true := by
            have := inB_iff.1 (fitsB_in hr.2)
            exact inB_iff.2 (by simp only; omega)
          have h2 := hr.2
          generalize lastP none r = p at *
          cases p with
          | none => rw [fitsB_none]; exact hin
          | some b =>
            obtain ⟨_, g2, g3⟩ := fitsB_some.1 h2
            exact fitsB_some.2 ⟨hin, g2, g3⟩
        · by_cases e : i = k
          · subst e; rw [hz, e1]
            rw [den_snoc_in r _ _ (fun s hs => hfree s (by simp [hs])) (holdsB_iff.2 (by simp only; omega))]
            simp only [placeI]; omega
          · have := h.says i (by omega)
            rw [← this]
            refine den_snoc_same r _ _ _ ?_ rfl
            rw [Bool.eq_iff_iff, holdsB_iff, holdsB_iff]; simp only; omega
        · rw [List.mem_append, List.mem_singleton] at hs
          rcases hs with hs | rfl
          · have := h.all s (by simp [hs]); omega
          · simp only; omega
        · have := h.tot
          rw [total_snoc] at this ⊢
          simp only [cntN, hz, hn, if_false] at *; omega
      · rw [if_neg hj]
        have hjf : joinsB a ⟨(k : Int), z, 1⟩ = false := by simpa using hj
        have eq : r ++ [a, ⟨(k : Int), z, 1⟩] = (r ++ [a]) ++ [⟨(k : Int), z, 1⟩] := by simp
        rw [eq]
        refine ⟨?_, fun i hi => ?_, fun s hs => ?_, ?_⟩
        · rw [right_snoc, Bool.and_eq_true, lastP_snoc]
          exact ⟨h.right, fitsB_some.2 ⟨inB_iff.2 (by simp only; omega), by simp only; omega, hjf⟩⟩
        · by_cases e : i = k
          · subst e; rw [hz, e1]
            rw [den_snoc_in _ _ _ hfree (holdsB_iff.2 (by simp only; omega))]
            simp only [placeI]; omega
          · have := h.says i (by omega)
            rw [← this]
            exact den_snoc_out _ _ _ (holdsB_not (by simp only; omega))
        · rw [List.mem_append, List.mem_singleton] at hs
          rcases hs with hs | rfl
          · have := h.all s hs; omega
          · simp only; omega
        · have := h.tot
          rw [total_snoc]
          simp only [cntN, hz, hn, if_false] at *; omega

theorem inv_of (zs : List Int) : ∀ k, k ≤ 65536 → Inv zs k (ofN zs k)
  | 0, _ => ⟨rfl, fun i hi => by omega, fun s hs => by simp [ofN] at hs, rfl⟩
  | k + 1, h => inv_step (inv_of zs k (by omega)) (by omega)
theorem inv_ofR (zs : List Int) (h : zs.length ≤ 65536) : Inv zs zs.length (ofR zs) := by
  unfold ofR; rw [Nat.min_eq_left h]; exact inv_of zs _ h

/-- the last span counts as the first one does, in valid spans. -/
theorem fold_low : ∀ (l : List Sp) (a : Sp) (i v : Int), rightL (some a) l = true → i < a.at_ + a.len → l.foldl (fun v s => if holdsB s i = true then placeI s i else v) v = v
  | [], _, _, _, _, _ => rfl
  | s :: r, a, i, v, h, hi => by
    simp only [rightL, Bool.and_eq_true] at h
    obtain ⟨hin, hle, _⟩ := fitsB_some.1 h.1
    have hb := inB_iff.1 hin
    have hno : holdsB s i = false := holdsB_not (by omega)
    simp only [List.foldl_cons, hno, Bool.false_eq_true, if_false]
    exact fold_low r s i v h.2 (by omega)
theorem lastD_den : ∀ (l : List Sp) (p : Option Sp) (i : Int), rightL p l = true → lastD l i = den l i
  | [], _, _, _ => rfl
  | s :: r, p, i, h => by
    simp only [rightL, Bool.and_eq_true] at h
    unfold lastD
    cases hh : holdsB s i with
    | true =>
      simp only [List.foldl_cons, den, hh, if_true]
      exact fold_low r s i _ h.2 (holdsB_iff.1 hh).2
    | false =>
      simp only [List.foldl_cons, den, hh, Bool.false_eq_true, if_false]
      exact lastD_den r (some s) i h.2

theorem cut_nil : ∀ (l : List Sp) (a : Sp) (n : Int), rightL (some a) l = true → n ≤ a.at_ + a.len → cutGo n l = []
  | [], _, _, _, _ => rfl
  | s :: r, a, n, h, hn => by
    simp only [rightL, Bool.and_eq_true] at h
    obtain ⟨hin, hle, _⟩ := fitsB_some.1 h.1
    have hb := inB_iff.1 hin
    rw [cutGo, if_neg (by omega)]
    exact cut_nil r s n h.2 (by omega)
theorem cut_all (s : Sp) (r : List Sp) (n : Int) (h : s.at_ + s.len ≤ n) (h1 : 1 ≤ s.len) : cutGo n (s :: r) = s :: cutGo n r := by
  rw [cutGo, if_pos (by omega), show min s.len (n - s.at_) = s.len by omega]
theorem cut_right : ∀ (l : List Sp) (p : Option Sp) (n : Int), rightL p l = true → rightL p (cutGo n l) = true
  | [], _, _, _ => rfl
  | s :: r, p, n, h => by
    simp only [rightL, Bool.and_eq_true] at h
    have hb := inB_iff.1 (fitsB_in h.1)
    by_cases h1 : s.at_ + s.len ≤ n
    · rw [cut_all s r n h1 (by omega)]
      simp only [rightL, Bool.and_eq_true]
      exact ⟨h.1, cut_right r (some s) n h.2⟩
    · have hnil := cut_nil r s n h.2 (by omega)
      by_cases h2 : s.at_ < n
      · rw [cutGo, if_pos h2, hnil]
        simp only [rightL, Bool.and_true]
        have hin : inB (⟨s.at_, s.st, min s.len (n - s.at_)⟩ : Sp) = true := inB_iff.2 (by simp only; omega)
        cases p with
        | none => rw [fitsB_none]; exact hin
        | some b =>
          obtain ⟨_, g2, g3⟩ := fitsB_some.1 h.1
          exact fitsB_some.2 ⟨hin, g2, g3⟩
      · rw [cutGo, if_neg h2, hnil]; rfl
theorem cut_den : ∀ (l : List Sp) (p : Option Sp) (n i : Int), rightL p l = true → den (cutGo n l) i = if i < n then den l i else 0
  | [], _, _, _, _ => by simp [cutGo, den]
  | s :: r, p, n, i, h => by
    have g := h
    simp only [rightL, Bool.and_eq_true] at h
    have hb := inB_iff.1 (fitsB_in h.1)
    by_cases h1 : s.at_ + s.len ≤ n
    · rw [cut_all s r n h1 (by omega)]
      cases hh : holdsB s i with
      | true =>
        have := holdsB_iff.1 hh
        simp only [den, hh, if_true]
        rw [if_pos (by omega)]
      | false =>
        simp only [den, hh, Bool.false_eq_true, if_false]
        exact cut_den r (some s) n i h.2
    · have hnil := cut_nil r s n h.2 (by omega)
      by_cases h2 : s.at_ < n
      · rw [cutGo, if_pos h2, hnil]
        by_cases hi : i < n
        · rw [if_pos hi]
          by_cases h3 : i < s.at_
          · rw [den_first g h3]; simp only [den, holdsB_not (s := ⟨s.at_, s.st, min s.len (n - s.at_)⟩) (i := i) (Or.inl h3)]; simp
          · rw [den_in (s := s) (by omega) (by omega), den_in (s := ⟨s.at_, s.st, min s.len (n - s.at_)⟩) (by simp only; omega) (by simp only; omega)]
        · rw [if_neg hi]
          simp only [den, holdsB_not (s := ⟨s.at_, s.st, min s.len (n - s.at_)⟩) (i := i) (Or.inr (by simp only; omega))]; simp
      · rw [cutGo, if_neg h2, hnil]
        by_cases hi : i < n
        · rw [if_pos hi, den_first g (by omega)]; rfl
        · rw [if_neg hi]; rfl

theorem cutR_right {l : List Sp} (h : rightL none l = true) (n : Int) : rightL none (cutR l n) = true := by
  unfold cutR; rw [if_pos h]; exact cut_right l none n h
theorem cutR_den {l : List Sp} (h : rightL none l = true) (n i : Int) : den (cutR l n) i = if i < n then den l i else 0 := by
  unfold cutR; rw [if_pos h]; exact cut_den l none n i h
/-- CUT TWICE is cut at the lesser place. -/
theorem cut_twice {l : List Sp} (h : rightL none l = true) (a b : Int) : cutR (cutR l a) b = cutR l (min a b) := by
  refine unique _ _ none none (cutR_right (cutR_right h a) b) (cutR_right h _) (fun i => ?_)
  rw [cutR_den (cutR_right h a), cutR_den h, cutR_den h]
  by_cases h1 : i < a <;> by_cases h2 : i < b
  · rw [if_pos h2, if_pos h1, if_pos (by omega)]
  · rw [if_neg h2, if_neg (by omega)]
  · rw [if_pos h2, if_neg h1, if_neg (by omega)]
  · rw [if_neg h2, if_neg (by omega)]

theorem of_den {zs : List Int} (hz : zs.length ≤ 65536) (i : Int) : den (ofR zs) i = if 0 ≤ i ∧ i < zs.length then norm (zs.getD i.toNat 0) else 0 := by
  have hv := inv_ofR zs hz
  by_cases h : 0 ≤ i ∧ i < zs.length
  · rw [if_pos h]
    obtain ⟨k, rfl⟩ := Int.eq_ofNat_of_zero_le h.1
    exact hv.says k (by omega)
  · rw [if_neg h]
    exact den_none _ _ (hv.free (by omega))
/-- WHAT IS CUT is what the map's beginning says. -/
theorem cut_of {zs : List Int} (hz : zs.length ≤ 65536) (n : Nat) (hn : n ≤ zs.length) : cutR (ofR zs) n = ofR (zs.take n) := by
  have hl : (zs.take n).length = n := by rw [List.length_take]; omega
  have hz2 : (zs.take n).length ≤ 65536 := by omega
  refine unique _ _ none none (cutR_right (inv_ofR zs hz).right _) (inv_ofR _ hz2).right (fun i => ?_)
  rw [cutR_den (inv_ofR zs hz).right, of_den hz, of_den hz2, hl]
  by_cases h1 : 0 ≤ i ∧ i < (n : Int)
  · rw [if_pos h1.2, if_pos (by omega), if_pos h1]
    have : i.toNat < n := by omega
    simp [List.getD, List.getElem?_take_of_lt this]
  · rw [if_neg h1]
    by_cases h2 : i < (n : Int)
    · rw [if_pos h2, if_neg (by omega)]
    · rw [if_neg h2]

/-- the map of n blocks. -/
def mapR (l : List Sp) (n : Nat) : List Int := (List.range n).map fun i : Nat => lastD l (i : Int)
theorem mapR_len (l : List Sp) (n : Nat) : (mapR l n).length = n := by simp [mapR]
theorem mapR_at (l : List Sp) (n i : Nat) (h : i < n) : (mapR l n).getD i 0 = lastD l i := by simp [mapR, List.getD, h]

theorem right_bound : ∀ (l : List Sp) (p : Option Sp) (i : Int), rightL p l = true → 0 ≤ den l i ∧ den l i < 65536
  | [], _, _, _ => by simp [den]
  | s :: r, p, i, h => by
    simp only [rightL, Bool.and_eq_true] at h
    have hb := inB_iff.1 (fitsB_in h.1)
    cases hh : holdsB s i with
    | true => have := holdsB_iff.1 hh; simp only [den, hh, if_true, placeI]; omega
    | false =>
      simp only [den, hh, Bool.false_eq_true, if_false]
      exact right_bound r (some s) i h.2
theorem lastP_some : ∀ (l : List Sp) (a : Sp), ∃ b, lastP (some a) l = some b
  | [], a => ⟨a, rfl⟩
  | s :: r, _ => lastP_some r s
theorem right_ends : ∀ (l : List Sp) (a b : Sp), rightL (some a) l = true → lastP (some a) l = some b → a.at_ + a.len ≤ b.at_ + b.len ∧ ∀ s, s ∈ l → a.at_ + a.len ≤ s.at_ ∧ s.at_ + s.len ≤ b.at_ + b.len
  | [], a, b, _, h => by cases h; simp
  | s :: r, a, b, h, hb => by
    simp only [rightL, Bool.and_eq_true] at h
    obtain ⟨hin, hle, _⟩ := fitsB_some.1 h.1
    have hbd := inB_iff.1 hin
    obtain ⟨g1, g2⟩ := right_ends r s b h.2 hb
    refine ⟨by omega, fun t ht => ?_⟩
    rcases List.mem_cons.1 ht with rfl | ht
    · omega
    · have := g2 t ht; omega
/-- the end of the last one. -/
def endL (l : List Sp) : Int := match lastP none l with | none => 0 | some a => a.at_ + a.len
theorem endL_snoc (l : List Sp) (a : Sp) : endL (l ++ [a]) = a.at_ + a.len := by unfold endL; rw [lastP_snoc]
theorem endL_nil : endL [] = 0 := rfl
theorem right_all {l : List Sp} (h : rightL none l = true) : ∀ s, s ∈ l → 0 ≤ s.at_ ∧ s.at_ + s.len ≤ endL l := by
  cases l with
  | nil => intro s hs; cases hs
  | cons a r =>
    simp only [rightL, Bool.and_eq_true] at h
    have hb := inB_iff.1 (fitsB_in h.1)
    obtain ⟨b, hl⟩ := lastP_some r a
    obtain ⟨g1, g2⟩ := right_ends r a b h.2 hl
    have he : endL (a :: r) = b.at_ + b.len := by unfold endL; simp only [lastP, hl]
    intro s hs
    rw [he]
    rcases List.mem_cons.1 hs with rfl | hs
    · omega
    · have := g2 s hs; omega
theorem right_mem : ∀ (l : List Sp) (p : Option Sp), rightL p l = true → ∀ s, s ∈ l → inB s = true
  | [], _, _, s, hs => by cases hs
  | a :: r, p, h, s, hs => by
    simp only [rightL, Bool.and_eq_true] at h
    rcases List.mem_cons.1 hs with rfl | hs
    · exact fitsB_in h.1
    · exact right_mem r (some a) h.2 s hs
theorem endL_bd {l : List Sp} (h : rightL none l = true) : 0 ≤ endL l ∧ endL l ≤ 65536 := by
  rcases snoc_cases l with rfl | ⟨r, a, rfl⟩
  · rw [endL_nil]; omega
  · rw [endL_snoc]
    have := inB_iff.1 (right_mem _ _ h a (by simp))
    omega
/-- VALID SPANS ARE THOSE OF THEIR MAP. -/
theorem of_map {l : List Sp} (h : rightL none l = true) : ofR (mapR l (endL l).toNat) = l := by
  have hb := endL_bd h
  have hz : (mapR l (endL l).toNat).length ≤ 65536 := by rw [mapR_len]; omega
  refine unique _ _ none none (inv_ofR _ hz).right h (fun i => ?_)
  rw [of_den hz, mapR_len]
  by_cases h1 : 0 ≤ i ∧ i < ((endL l).toNat : Int)
  · rw [if_pos h1, mapR_at _ _ _ (by omega), show ((i.toNat : Nat) : Int) = i by omega, lastD_den l none i h]
    have := right_bound l none i h
    unfold norm
    by_cases h2 : den l i = 0
    · rw [h2]; rfl
    · rw [if_neg (by omega)]
  · rw [if_neg h1]
    refine (den_none l i (fun s hs => ?_)).symm
    have := right_all h s hs
    exact holdsB_not (by omega)
/-- A MAP COMES BACK. -/
theorem map_of {zs : List Int} (hz : zs.length ≤ 65536) (hb : ∀ z, z ∈ zs → 0 ≤ z ∧ z ≤ 65535) : mapR (ofR zs) zs.length = zs := by
  refine List.ext_getElem (by rw [mapR_len]) (fun i h1 h2 => ?_)
  have h3 := mapR_at (ofR zs) zs.length i h2
  rw [List.getD, List.getElem?_eq_getElem h1, Option.getD_some] at h3
  rw [h3, lastD_den _ none _ (inv_ofR zs hz).right, (inv_ofR zs hz).says i h2]
  rw [List.getD, List.getElem?_eq_getElem h2, Option.getD_some]
  have := hb _ (List.getElem_mem h2)
  unfold norm
  split <;> omega
theorem norm_in {z : Int} (h : 0 ≤ z ∧ z ≤ 65535) : norm z = z := by unfold norm; split <;> omega
end Go.Proofs.YtgdlfiejjnjcpaaGreat

namespace Go.Proofs.YtgdlfiejjnjcpaaGreat
open Go.RowKit

abbrev Fit (z : Int) : Prop := -9223372036854775808 ≤ z ∧ z ≤ 9223372036854775807
def Sp.fit (s : Sp) : Prop := Fit s.at_ ∧ Fit s.st ∧ Fit s.len

section
variable {w w' : World} {B B' : Nat} {A : Option Addr} {n : Nat} {zs : List Int}
theorem IntsAt.take (h : IntsAt w B A n zs) (m : Nat) (hm : m ≤ n) : IntsAt w B A m (zs.take m) :=
  ⟨by rw [List.length_take, h.1]; omega, fun z hz => h.2.1 z (List.mem_of_mem_take hz), fun k hk => by
    obtain ⟨b, o, e, hb, hc⟩ := h.2.2 k (by omega)
    refine ⟨b, o, e, hb, hc.trans ?_⟩
    simp [List.getD, List.getElem?_take_of_lt hk]⟩
end
/-- The slice at A with n elements reads as the spans l, and lies below block B. -/
def SpsAt (w : World) (B : Nat) (A : Option Addr) (n : Nat) (l : List Sp) : Prop :=
  l.length = n ∧ (∀ s ∈ l, s.fit) ∧
  ∀ k, k < n → ∃ b o, A = some ⟨b, o, none⟩ ∧ b < B ∧ w.cell? ⟨b, o + k * 3, none⟩ = some (.int .i64 (l.getD k Sp.z).at_) ∧
    w.cell? ⟨b, o + k * 3 + 1, none⟩ = some (.int .i64 (l.getD k Sp.z).st) ∧ w.cell? ⟨b, o + k * 3 + 2, none⟩ = some (.int .i64 (l.getD k Sp.z).len)

section
variable {w w' : World} {B B' : Nat} {A : Option Addr} {n : Nat} {l : List Sp}
theorem SpsAt.len (h : SpsAt w B A n l) : l.length = n := h.1
theorem SpsAt.at_ (h : SpsAt w B A n l) {k : Nat} (hk : k < n) :
    ∃ b o, A = some ⟨b, o, none⟩ ∧ b < B ∧ w.cell? ⟨b, o + k * 3, none⟩ = some (.int .i64 (l.getD k Sp.z).at_) ∧
    w.cell? ⟨b, o + k * 3 + 1, none⟩ = some (.int .i64 (l.getD k Sp.z).st) ∧ w.cell? ⟨b, o + k * 3 + 2, none⟩ = some (.int .i64 (l.getD k Sp.z).len) := h.2.2 k hk
theorem SpsAt.bd (h : SpsAt w B A n l) (k : Nat) : (l.getD k Sp.z).fit := by
  rcases Nat.lt_or_ge k l.length with hl | hl
  · have := h.2.1 l[k] (List.getElem_mem hl)
    simpa [List.getD, List.getElem?_eq_getElem hl] using this
  · simp [List.getD, List.getElem?_eq_none hl, Sp.fit, Sp.z, Fit]
theorem SpsAt.keep (h : SpsAt w B A n l) (hk : ∀ p : Addr, p.block < B → w'.cell? p = w.cell? p) : SpsAt w' B A n l :=
  ⟨h.1, h.2.1, fun k hkn => by
    obtain ⟨b, o, e, hb, h1, h2, h3⟩ := h.2.2 k hkn
    exact ⟨b, o, e, hb, (hk _ hb).trans h1, (hk _ hb).trans h2, (hk _ hb).trans h3⟩⟩
theorem SpsAt.more (h : SpsAt w B A n l) (hB : B ≤ B') : SpsAt w B' A n l :=
  ⟨h.1, h.2.1, fun k hkn => by
    obtain ⟨b, o, e, hb, hc⟩ := h.2.2 k hkn
    exact ⟨b, o, e, by omega, hc⟩⟩
theorem SpsAt.below {C : Nat} (h : SpsAt w B A n l) (hb : Below C w w') (hBC : B ≤ C) : SpsAt w' B A n l :=
  h.keep fun _ hp => hb.cell (by omega)
end

/-! ### rows of the call's own -/
def spCells (s : Sp) : List Value := [.int .i64 s.at_, .int .i64 s.st, .int .i64 s.len]
def spsCells (l : List Sp) : List Value := l.flatMap spCells
theorem spsCells_len : ∀ l : List Sp, (spsCells l).length = l.length * 3
  | [] => rfl
  | s :: r => by
    have := spsCells_len r
    simp only [spsCells, List.flatMap_cons, List.length_append, spCells, List.length_cons, List.length_nil] at this ⊢
    omega
theorem spsCells_snoc (l : List Sp) (s : Sp) : spsCells (l ++ [s]) = spsCells l ++ spCells s := by simp [spsCells]
theorem spsCells_at : ∀ (l : List Sp) (k : Nat), k < l.length → (spsCells l)[k * 3]? = some (.int .i64 (l.getD k Sp.z).at_) ∧ (spsCells l)[k * 3 + 1]? = some (.int .i64 (l.getD k Sp.z).st) ∧ (spsCells l)[k * 3 + 2]? = some (.int .i64 (l.getD k Sp.z).len)
  | s :: r, 0, _ => by simp [spsCells, spCells]
  | s :: r, k + 1, h => by
    have ih := spsCells_at r k (by simpa using h)
    have e : spsCells (s :: r) = .int .i64 s.at_ :: .int .i64 s.st :: .int .i64 s.len :: spsCells r := by simp [spsCells, spCells]
    have e3 : (k + 1) * 3 = k * 3 + 3 := by omega
    rw [e, e3]
    simpa using ih
/-- the last span's length changed. -/
theorem spsCells_last (r : List Sp) (a : Sp) (x : Int) : (spsCells (r ++ [a])).set (r.length * 3 + 2) (.int .i64 x) = spsCells (r ++ [⟨a.at_, a.st, x⟩]) := by
  rw [spsCells_snoc, spsCells_snoc, List.set_append_right _ _ (by rw [spsCells_len]; omega), spsCells_len]
  simp [spCells]
theorem snoc_get (r : List Sp) (a : Sp) : (r ++ [a]).getD r.length Sp.z = a := by simp [List.getD]

theorem SpsAt.of_own {w : World} {base : Nat} {v : Value} {A : Option Addr} {c : Nat} {l : List Sp} (h : w.ownsRow base 85 3 v l.length (spsCells l)) (hv : v = .slice A l.length c) (hf : ∀ s ∈ l, s.fit) : SpsAt w w.heap.size A l.length l := by
  refine ⟨rfl, hf, fun k hk => ?_⟩
  obtain ⟨g, cap, e, _, hlt⟩ := h.form (by omega)
  subst hv
  have hA : A = some ⟨g, 0, none⟩ := by injection e
  subst hA
  obtain ⟨h1, h2, h3⟩ := spsCells_at l k hk
  have hcell := h.cells (g := g) rfl
  refine ⟨g, 0, rfl, hlt, ?_, ?_, ?_⟩
  · have := hcell _ _ h1; rwa [Go.WideShapes.add_plain] at this
  · have := hcell _ _ h2; rw [Go.WideShapes.add_plain] at this; exact this
  · have := hcell _ _ h3; rw [Go.WideShapes.add_plain] at this; exact this

/-- nothing but draws lies between two worlds. -/
def Drew (w w' : World) : Prop := ∃ n, w' = w.drewN n
theorem Drew.refl (w : World) : Drew w w := ⟨0, rfl⟩
theorem Below.drews {B : Nat} {a b c : World} (h : Below B a b) (k : Drew b c) : Below B a c := by
  obtain ⟨n, rfl⟩ := k
  exact ⟨h.os, h.tape, h.output, h.size, h.block⟩

/-- an answer that is a new slice of spans. -/
def RetSps (w : World) (l : List Sp) (e : Ending) (w' : World) : Prop := ∃ A c, e = .returned (.slice A l.length c) ∧ l.length ≤ c ∧ SpsAt w' w'.heap.size A l.length l ∧ Below w.heap.size w w'
/-- an answer that is a new slice of ints. -/
def RetInts (w : World) (zs : List Int) (e : Ending) (w' : World) : Prop := ∃ A c, e = .returned (.slice A zs.length c) ∧ zs.length ≤ c ∧ IntsAt w' w'.heap.size A zs.length zs ∧ Below w.heap.size w w'

end Go.Proofs.YtgdlfiejjnjcpaaGreat

namespace Go.Proofs.YtgdlfiejjnjcpaaGreat
open Go.RowKit

abbrev Sp.val (s : Sp) : Value := .agg #[.int .i64 s.at_, .int .i64 s.st, .int .i64 s.len]
/-- the fields are far from the ends of an int64. -/
def Sp.small (s : Sp) : Prop := (-1000000000 ≤ s.at_ ∧ s.at_ ≤ 1000000000) ∧ (-1000000000 ≤ s.st ∧ s.st ≤ 1000000000) ∧ (-1000000000 ≤ s.len ∧ s.len ≤ 1000000000)

set_option maxHeartbeats 1000000 in
theorem joins_any (a b : Sp) (w : World) (ha : a.small) :
    Calls Tryz.prog 66 #[a.val, b.val] w fun e w' => e = .returned (.bool (joinsB a b)) ∧ Below w.heap.size w w' := by
  obtain ⟨aa, ap, al⟩ := a
  obtain ⟨ba, bs, bl⟩ := b
  obtain ⟨h1, h2, h3⟩ := ha
  simp only at h1 h2 h3
  have hb : ∀ o : Obj, ∀ o' : Obj, Below w.heap.size w ((w.alloc o).alloc o') := fun o o' => ((Below.refl _ _).alloc (Nat.le_refl _) _).alloc (by simp) _
  have HB := Lib.hid hb
  clear hb
  by_cases e1 : ba = aa + al
  · have d1 : (ba == aa + al) = true := by simpa using e1
    by_cases e2 : bs = ap + al
    · have d2 : (bs == ap + al) = true := by simpa using e2
      have HJ : Hid (joinsB ⟨aa, ap, al⟩ ⟨ba, bs, bl⟩ = true) := joinsB_iff.2 ⟨e1, e2⟩
      clear e1 e2
      go_enter Tryz.func66, Tryz.ntmps66
      go_wp2
      go_ret
      rw [HJ.out]
      exact ⟨rfl, HB.out _ _⟩
    · have d2 : (bs == ap + al) = false := by simpa using e2
      have HJ : Hid (joinsB ⟨aa, ap, al⟩ ⟨ba, bs, bl⟩ = false) := by show _ = _; simp [joinsB, e2]
      clear e1 e2
      go_enter Tryz.func66, Tryz.ntmps66
      go_wp2
      go_ret
      rw [HJ.out]
      exact ⟨rfl, HB.out _ _⟩
  · have d1 : (ba == aa + al) = false := by simpa using e1
    have HJ : Hid (joinsB ⟨aa, ap, al⟩ ⟨ba, bs, bl⟩ = false) := by show _ = _; simp [joinsB, e1]
    clear e1
    go_enter Tryz.func66, Tryz.ntmps66
    go_wp2
    go_ret
    rw [HJ.out]
    exact ⟨rfl, HB.out _ _⟩

theorem joins_is (r : Bool) (a b : Sp) (w : World) (ha : a.small) (h : joinsB a b = r) :
    Calls Tryz.prog 66 #[a.val, b.val] w fun e w' => e = .returned (.bool r) ∧ Below w.heap.size w w' := by rw [← h]; exact joins_any a b w ha

set_option maxHeartbeats 2000000 in
theorem inBounds_any (s : Sp) (w : World) :
    Calls Tryz.prog 140 #[s.val] w fun e w' => e = .returned (.bool (inB s)) ∧ Below w.heap.size w w' := by
  obtain ⟨aa, ap, al⟩ := s
  have HB : Hid (∀ o : Obj, Below w.heap.size w (w.alloc o)) := fun o => (Below.refl _ _).alloc (Nat.le_refl _) _
  have HI : Hid (inB ⟨aa, ap, al⟩ = decide (0 ≤ aa ∧ aa < 65536 ∧ 1 ≤ ap ∧ ap < 65536 ∧ 1 ≤ al ∧ al < 65536 ∧ aa + al ≤ 65536 ∧ ap + al ≤ 65536)) := by show _ = _; rfl
  generalize inB ⟨aa, ap, al⟩ = r at *
  by_cases c0 : 0 ≤ aa
  · have d0 : decide (0 ≤ aa) = true := by simpa using c0
    by_cases c1 : aa < 65536
    · have d1 : decide (aa < 65536) = true := by simpa using c1
      by_cases c2 : 1 ≤ ap
      · have d2 : decide (1 ≤ ap) = true := by simpa using c2
        by_cases c3 : ap < 65536
        · have d3 : decide (ap < 65536) = true := by simpa using c3
          by_cases c4 : 1 ≤ al
          · have d4 : decide (1 ≤ al) = true := by simpa using c4
            by_cases c5 : al < 65536
            · have d5 : decide (al < 65536) = true := by simpa using c5
              by_cases c6 : aa + al ≤ 65536
              · have d6 : decide (aa + al ≤ 65536) = true := by simpa using c6
                by_cases c7 : ap + al ≤ 65536
                · have d7 : decide (ap + al ≤ 65536) = true := by simpa using c7
                  have HR : Hid (r = true) := by show _ = _; rw [HI.out]; simp only [decide_eq_true_eq]; omega
                  clear HI
                  go_enter Tryz.func140, Tryz.ntmps140
                  go_wp2
                  go_ret
                  exact ⟨ret_bool HR.out.symm, HB.out _⟩
                · have d7 : decide (ap + al ≤ 65536) = false := by simpa using c7
                  have HR : Hid (r = false) := by show _ = _; rw [HI.out]; simp only [decide_eq_false_iff_not]; omega
                  clear HI
                  go_enter Tryz.func140, Tryz.ntmps140
                  go_wp2
                  go_ret
                  exact ⟨ret_bool HR.out.symm, HB.out _⟩
              · have d6 : decide (aa + al ≤ 65536) = false := by simpa using c6
                have HR : Hid (r = false) := by show _ = _; rw [HI.out]; simp only [decide_eq_false_iff_not]; omega
                clear HI
                go_enter Tryz.func140, Tryz.ntmps140
                go_wp2
                go_ret
                exact ⟨ret_bool HR.out.symm, HB.out _⟩
            · have d5 : decide (al < 65536) = false := by simpa using c5
              have HR : Hid (r = false) := by show _ = _; rw [HI.out]; simp only [decide_eq_false_iff_not]; omega
              clear HI
              go_enter Tryz.func140, Tryz.ntmps140
              go_wp2
              go_ret
              exact ⟨ret_bool HR.out.symm, HB.out _⟩
          · have d4 : decide (1 ≤ al) = false := by simpa using c4
            have HR : Hid (r = false) := by show _ = _; rw [HI.out]; simp only [decide_eq_false_iff_not]; omega
            clear HI
            go_enter Tryz.func140, Tryz.ntmps140
            go_wp2
            go_ret
            exact ⟨ret_bool HR.out.symm, HB.out _⟩
        · have d3 : decide (ap < 65536) = false := by simpa using c3
          have HR : Hid (r = false) := by show _ = _; rw [HI.out]; simp only [decide_eq_false_iff_not]; omega
          clear HI
          go_enter Tryz.func140, Tryz.ntmps140
          go_wp2
          go_ret
          exact ⟨ret_bool HR.out.symm, HB.out _⟩
      · have d2 : decide (1 ≤ ap) = false := by simpa using c2
        have HR : Hid (r = false) := by show _ = _; rw [HI.out]; simp only [decide_eq_false_iff_not]; omega
        clear HI
        go_enter Tryz.func140, Tryz.ntmps140
        go_wp2
        go_ret
        exact ⟨ret_bool HR.out.symm, HB.out _⟩
    · have d1 : decide (aa < 65536) = false := by simpa using c1
      have HR : Hid (r = false) := by show _ = _; rw [HI.out]; simp only [decide_eq_false_iff_not]; omega
      clear HI
      go_enter Tryz.func140, Tryz.ntmps140
      go_wp2
      go_ret
      exact ⟨ret_bool HR.out.symm, HB.out _⟩
  · have d0 : decide (0 ≤ aa) = false := by simpa using c0
    have HR : Hid (r = false) := by show _ = _; rw [HI.out]; simp only [decide_eq_false_iff_not]; omega
    clear HI
    go_enter Tryz.func140, Tryz.ntmps140
    go_wp2
    go_ret
    exact ⟨ret_bool HR.out.symm, HB.out _⟩
end Go.Proofs.YtgdlfiejjnjcpaaGreat

namespace Go.Proofs.YtgdlfiejjnjcpaaGreat
open Go.RowKit
theorem Drew.trans {a b c : World} (h : Drew a b) (k : Drew b c) : Drew a c := by
  obtain ⟨n, rfl⟩ := h
  obtain ⟨m, rfl⟩ := k
  exact ⟨n + m, World.drewN_drewN _ _ _⟩
theorem Drew.cells {a b : World} (h : Drew a b) (p : Addr) : b.cell? p = a.cell? p := by
  obtain ⟨n, rfl⟩ := h
  rfl

end Go.Proofs.YtgdlfiejjnjcpaaGreat

namespace Go.Proofs.YtgdlfiejjnjcpaaGreat
open Go.RowKit

theorem small_fit {s : Sp} (h : s.small) : s.fit := by
  obtain ⟨h1, h2, h3⟩ := h
  unfold Sp.fit Fit
  omega
theorem bcell {B : Nat} {W w1 : World} (hb : Below B W w1) {a : Addr} {v : Value} (h : W.cell? a = some v) (ha : a.block < B) : w1.cell? a = some v := (hb.cell ha).trans h

theorem cell_new (w : World) (cs : Array Value) (t : TypeId) (k : Nat) {v : Value} (h : cs[k]? = some v) : (w.alloc (.cells cs t)).cell? ⟨w.heap.size, k, none⟩ = some v := by
  unfold World.cell?
  rw [heap_alloc_new]
  simpa using h

/-- a span in a block of its own, behind a call. -/
theorem span_kept {w w2 : World} {a p l : Int} (h : Below (w.alloc (.cells #[.int .i64 a, .int .i64 p, .int .i64 l] 85)).heap.size (w.alloc (.cells #[.int .i64 a, .int .i64 p, .int .i64 l] 85)) w2) :
    w2.cell? ⟨w.heap.size, 0, none⟩ = some (.int .i64 a) ∧ w2.cell? ⟨w.heap.size, 1, none⟩ = some (.int .i64 p) ∧ w2.cell? ⟨w.heap.size, 2, none⟩ = some (.int .i64 l) ∧ Below w.heap.size w w2 := by
  refine ⟨bcell h (cell_new w _ 85 0 rfl) (by simp), bcell h (cell_new w _ 85 1 rfl) (by simp), bcell h (cell_new w _ 85 2 rfl) (by simp), ?_⟩
  exact ((Below.refl _ _).alloc (Nat.le_refl _) _).trans (h.mono (by simp))

/-- the span before number k. -/
def prevS (l : List Sp) : Nat → Option Sp
  | 0 => none
  | j + 1 => some (l.getD j Sp.z)
theorem right_drop {l : List Sp} {k : Nat} (hk : k < l.length) (p : Option Sp) : rightL p (l.drop k) = (fitsB p (l.getD k Sp.z) && rightL (some (l.getD k Sp.z)) (l.drop (k + 1))) := by
  rw [List.drop_eq_getElem_cons hk]
  have e : l.getD k Sp.z = l[k] := by simp [List.getD, List.getElem?_eq_getElem hk]
  rw [e]; rfl
theorem in_small {s : Sp} (h : inB s = true) : s.small := by
  have := inB_iff.1 h
  unfold Sp.small
  omega

set_option maxHeartbeats 2000000 in
theorem right_any (A : Option Addr) (n c B : Nat) (l : List Sp) (w : World) (hA : SpsAt w B A n l) (hB : B ≤ w.heap.size) (hn : n ≤ 1000000000) :
    Calls Tryz.prog 108 #[.slice A n c] w fun e w' => e = .returned (.bool (rightL none l)) ∧ Below w.heap.size w w' := by
  have HL := Lib.hid hA.len
  have HA := Lib.hid hA
  obtain ⟨R, hR⟩ : ∃ R, R = rightL none l := ⟨_, rfl⟩
  rw [← hR]
  have HR : Hid (R = rightL (prevS l 0) (l.drop 0)) := by show _ = _; rw [hR]; rfl
  clear hA hR
  go_enter Tryz.func108, Tryz.ntmps108
  go_wp2
  go_loopw [3, 4, 7] (fun _ _ j wr => ∃ k : Nat, k ≤ n ∧ j = .int .i64 (k : Int) ∧ Hid (R = rightL (prevS l k) (l.drop k)) ∧ Hid (∀ j, k = j + 1 → inB (l.getD j Sp.z) = true) ∧ Below w.heap.size w wr) (fun _ _ j _ => n - (intOf j).toNat)
  case atStart => exact ⟨0, by omega, rfl, HR, (by show ∀ j, 0 = j + 1 → _; intro j hj; omega), Below.refl _ _⟩
  case round =>
    obtain ⟨k, hk, rfl, HG, HP, hb⟩ := hrel
    by_cases hlt : k < n
    · obtain ⟨b, o, rfl, hbB, h1, h2, h3⟩ := HA.out.at_ hlt
      have hbl : b < w.heap.size := by omega
      have c1 := bcell hb h1 hbl
      have c2 := bcell hb h2 hbl
      have c3 := bcell hb h3 hbl
      have hkl : k < l.length := by rw [HL.out]; exact hlt
      have HB := Lib.hid hb
      have hws := hb.size
      have HD := HG.out
      rw [right_drop hkl] at HD
      cases hi : inB (l.getD k Sp.z) with
      | false =>
        have HE : Hid (R = false) := by
          show _ = _
          rw [HD]
          cases hf : fitsB (prevS l k) (l.getD k Sp.z) with
          | false => rfl
          | true => have := fitsB_in hf; rw [hi] at this; cases this
        generalize l.getD k Sp.z = s at *
        have HC := Lib.hid (inBounds_any s)
        rw [hi] at HC
        obtain ⟨sa, sp, sl⟩ := s
        simp only at c1 c2 c3
        clear h1 h2 h3 hi hb hkl HG HD
        go_wp2_with fail
        refine (HC.out _).mono ?_
        rintro e w2 ⟨rfl, b2⟩
        obtain ⟨k1, k2, k3, b2'⟩ := span_kept b2
        have HB2 := Lib.hid (HB.out.trans (b2'.mono hws))
        clear b2 b2' c1 c2 c3
        go_wp2
        go_ret
        exact ⟨ret_bool HE.out.symm, HB2.out⟩
      | true =>
        have HI : Hid (∀ j, k + 1 = j + 1 → inB (l.getD j Sp.z) = true) := by
          show ∀ j, k + 1 = j + 1 → inB (l.getD j Sp.z) = true
          intro j hj
          obtain rfl : k = j := by omega
          exact hi
        have HPS : Hid (prevS l (k + 1) = some (l.getD k Sp.z)) := by show _ = _; rfl
        rcases Nat.eq_zero_or_pos k with h0 | h0
        · have HE : Hid (R = rightL (prevS l (k + 1)) (l.drop (k + 1))) := by
            show _ = _
            rw [HD, HPS.out]
            have : prevS l k = none := by rw [h0]; rfl
            rw [this, fitsB_none, hi, Bool.true_and]
          have d0 : decide (0 < k) = false := by simp [h0]
          have d0' : decide ((0 : Int) < (k : Int)) = false := by simp [h0]
          generalize l.getD k Sp.z = s at *
          have HC := Lib.hid (inBounds_any s)
          rw [hi] at HC
          obtain ⟨sa, sp, sl⟩ := s
          simp only at c1 c2 c3
          clear h1 h2 h3 hi hb hkl HG HD HP h0
          go_wp2_with fail
          refine (HC.out _).mono ?_
          rintro e w2 ⟨rfl, b2⟩
          obtain ⟨k1, k2, k3, b2'⟩ := span_kept b2
          have HB2 := Lib.hid (HB.out.trans (b2'.mono hws))
          clear b2 b2' c1 c2 c3
          go_wp2
          go_quiet (fail)
          go_wp2
          go_roundw
          case rel => exact ⟨k + 1, by omega, by go_num, HE, HI, Below.drews HB2.out ⟨_, rfl⟩⟩
          case measure => simp [intOf]; omega
        · obtain ⟨j, rfl⟩ : ∃ j, k = j + 1 := ⟨k - 1, by omega⟩
          have hpi := HP.out j rfl
          obtain ⟨b', o', e0, _, g1, g2, g3⟩ := HA.out.at_ (show j < n by omega)
          cases e0
          have hps : prevS l (j + 1) = some (l.getD j Sp.z) := rfl
          rw [hps] at HD
          generalize l.getD (j + 1) Sp.z = s at *
          generalize l.getD j Sp.z = a at *
          have asm := in_small hpi
          have HC := Lib.hid (inBounds_any s)
          rw [hi] at HC
          have p1 := bcell hb g1 hbl
          have p2 := bcell hb g2 hbl
          have p3 := bcell hb g3 hbl
          have abd := inB_iff.1 hpi
          have d0 : decide (0 < j + 1) = true := by simp
          have d0' : decide ((0 : Int) < (j : Int) + 1) = true := by simp
          by_cases q1 : s.at_ < a.at_ + a.len
          · have HE : Hid (R = false) := by
              show _ = _
              rw [HD]
              cases hf : fitsB (some a) s with
              | false => rfl
              | true => have := (fitsB_some.1 hf).2.1; omega
            obtain ⟨sa, sp, sl⟩ := s
            obtain ⟨aa, ap, al⟩ := a
            simp only at c1 c2 c3 p1 p2 p3 q1 abd
            have d1 : decide (sa < aa + al) = true := by simpa using q1
            clear h1 h2 h3 g1 g2 g3 hi hb hkl HG HD HP h0 hps hpi asm q1 HI HPS
            go_wp2_with fail
            refine (HC.out _).mono ?_
            rintro e w2 ⟨rfl, b2⟩
            obtain ⟨k1, k2, k3, b2'⟩ := span_kept b2
            have HB2 := Lib.hid (HB.out.trans (b2'.mono hws))
            have r1 := bcell b2' p1 (by show b < _; omega)
            have r3 := bcell b2' p3 (by show b < _; omega)
            clear b2 b2' c1 c2 c3 p1 p2 p3
            go_wp2
            go_quiet (fail)
            go_wp2
            go_ret
            exact ⟨ret_bool HE.out.symm, Below.drews HB2.out ⟨_, rfl⟩⟩
          · cases hj : joinsB a s with
            | true =>
              have HE : Hid (R = false) := by
                show _ = _
                rw [HD]
                cases hf : fitsB (some a) s with
                | false => rfl
                | true => have := (fitsB_some.1 hf).2.2; rw [hj] at this; cases this
              have HJ := Lib.hid (fun w => joins_is true a s w asm hj)
              obtain ⟨sa, sp, sl⟩ := s
              obtain ⟨aa, ap, al⟩ := a
              simp only at c1 c2 c3 p1 p2 p3 q1 abd
              have d1 : decide (sa < aa + al) = false := by simpa using q1
              clear h1 h2 h3 g1 g2 g3 hi hb hkl HG HD HP h0 hps hpi asm q1 HI HPS hj
              go_wp2_with fail
              refine (HC.out _).mono ?_
              rintro e w2 ⟨rfl, b2⟩
              obtain ⟨k1, k2, k3, b2'⟩ := span_kept b2
              have HB2 := Lib.hid (HB.out.trans (b2'.mono hws))
              have hw2 : wr.heap.size < w2.heap.size := by have := b2.size; simp at this; omega
              have r1 := bcell b2' p1 (by show b < _; omega)
              have r2 := bcell b2' p2 (by show b < _; omega)
              have r3 := bcell b2' p3 (by show b < _; omega)
              clear b2 b2' c1 c2 c3 p1 p2 p3
              go_wp2_with fail
              have x1 : (0 : Int) ≤ (j : Int) := by omega
              have x2 : (j : Int) < (n : Int) := by omega
              have x3 : IntKind.i64.wrap (j : Int) = (j : Int) := IntWalk.i64_in _ (by omega)
              have x4 : IntKind.i64.wrap (aa + al) = aa + al := IntWalk.i64_in _ (by omega)
              go_region_held3 (fun w' => w'.cell? ⟨wr.heap.size, 0, none⟩ = some (.int .i64 sa) ∧ w'.cell? ⟨wr.heap.size, 1, none⟩ = some (.int .i64 sp) ∧ w'.cell? ⟨wr.heap.size, 2, none⟩ = some (.int .i64 sl) ∧ w'.cell? ⟨b, o + j * 3, none⟩ = some (.int .i64 aa) ∧ w'.cell? ⟨b, o + j * 3 + 1, none⟩ = some (.int .i64 ap) ∧ w'.cell? ⟨b, o + j * 3 + 2, none⟩ = some (.int .i64 al))
                (first | exact ⟨k1, k2, k3, r1, r2, r3⟩ | exact ⟨k1', k2', k3', r1', r2', r3'⟩)
                (first
                  | (go_at_call 66
                     go_fit (HJ.out w2.drew)
                     rintro e w3 ⟨rfl, b3⟩
                     have k1' := bcell b3 (a := ⟨wr.heap.size, 0, none⟩) k1 hw2
                     have k2' := bcell b3 (a := ⟨wr.heap.size, 1, none⟩) k2 hw2
                     have k3' := bcell b3 (a := ⟨wr.heap.size, 2, none⟩) k3 hw2
                     have r1' := bcell b3 (a := ⟨b, o + j * 3, none⟩) r1 (by show b < w2.heap.size; omega)
                     have r2' := bcell b3 (a := ⟨b, o + j * 3 + 1, none⟩) r2 (by show b < w2.heap.size; omega)
                     have r3' := bcell b3 (a := ⟨b, o + j * 3 + 2, none⟩) r3 (by show b < w2.heap.size; omega)
                     have HB3 : Hid (Below w.heap.size w w3) := HB2.out.trans (⟨b3.os, b3.tape, b3.output, b3.size, fun x hx => b3.block x (Nat.lt_of_lt_of_le hx HB2.out.size)⟩)
                     clear b3))
              go_wp2
              go_ret
              exact ⟨ret_bool HE.out.symm, HB3.out⟩
            | false =>
              have HE : Hid (R = rightL (prevS l (j + 1 + 1)) (l.drop (j + 1 + 1))) := by
                show _ = _
                rw [HD, HPS.out]
                have : fitsB (some a) s = true := fitsB_some.2 ⟨hi, by omega, hj⟩
                rw [this, Bool.true_and]
              have HJ := Lib.hid (fun w => joins_is false a s w asm hj)
              obtain ⟨sa, sp, sl⟩ := s
              obtain ⟨aa, ap, al⟩ := a
              simp only at c1 c2 c3 p1 p2 p3 q1 abd
              have d1 : decide (sa < aa + al) = false := by simpa using q1
              clear h1 h2 h3 g1 g2 g3 hi hb hkl HG HD HP h0 hps hpi asm q1 HPS hj
              go_wp2_with fail
              refine (HC.out _).mono ?_
              rintro e w2 ⟨rfl, b2⟩
              obtain ⟨k1, k2, k3, b2'⟩ := span_kept b2
              have HB2 := Lib.hid (HB.out.trans (b2'.mono hws))
              have hw2 : wr.heap.size < w2.heap.size := by have := b2.size; simp at this; omega
              have r1 := bcell b2' p1 (by show b < _; omega)
              have r2 := bcell b2' p2 (by show b < _; omega)
              have r3 := bcell b2' p3 (by show b < _; omega)
              clear b2 b2' c1 c2 c3 p1 p2 p3
              go_wp2_with fail
              have x1 : (0 : Int) ≤ (j : Int) := by omega
              have x2 : (j : Int) < (n : Int) := by omega
              have x3 : IntKind.i64.wrap (j : Int) = (j : Int) := IntWalk.i64_in _ (by omega)
              have x4 : IntKind.i64.wrap (aa + al) = aa + al := IntWalk.i64_in _ (by omega)
              go_region_held3 (fun w' => w'.cell? ⟨wr.heap.size, 0, none⟩ = some (.int .i64 sa) ∧ w'.cell? ⟨wr.heap.size, 1, none⟩ = some (.int .i64 sp) ∧ w'.cell? ⟨wr.heap.size, 2, none⟩ = some (.int .i64 sl) ∧ w'.cell? ⟨b, o + j * 3, none⟩ = some (.int .i64 aa) ∧ w'.cell? ⟨b, o + j * 3 + 1, none⟩ = some (.int .i64 ap) ∧ w'.cell? ⟨b, o + j * 3 + 2, none⟩ = some (.int .i64 al))
                (first | exact ⟨k1, k2, k3, r1, r2, r3⟩ | exact ⟨k1', k2', k3', r1', r2', r3'⟩)
                (first
                  | (go_at_call 66
                     go_fit (HJ.out w2.drew)
                     rintro e w3 ⟨rfl, b3⟩
                     have k1' := bcell b3 (a := ⟨wr.heap.size, 0, none⟩) k1 hw2
                     have k2' := bcell b3 (a := ⟨wr.heap.size, 1, none⟩) k2 hw2
                     have k3' := bcell b3 (a := ⟨wr.heap.size, 2, none⟩) k3 hw2
                     have r1' := bcell b3 (a := ⟨b, o + j * 3, none⟩) r1 (by show b < w2.heap.size; omega)
                     have r2' := bcell b3 (a := ⟨b, o + j * 3 + 1, none⟩) r2 (by show b < w2.heap.size; omega)
                     have r3' := bcell b3 (a := ⟨b, o + j * 3 + 2, none⟩) r3 (by show b < w2.heap.size; omega)
                     have HB3 : Hid (Below w.heap.size w w3) := HB2.out.trans (⟨b3.os, b3.tape, b3.output, b3.size, fun x hx => b3.block x (Nat.lt_of_lt_of_le hx HB2.out.size)⟩)
                     clear b3))
              clear x1 x2 x3 x4
              go_wp2
              go_roundw
              case rel => exact ⟨j + 1 + 1, by omega, by go_num, HE, HI, HB3.out⟩
              case measure => simp [intOf]; omega
    · have HN : Hid (R = true) := by show _ = _; rw [HG.out, List.drop_of_length_le (by rw [HL.out]; omega)]; unfold rightL; rfl
      go_wp2
      go_ret
      exact ⟨ret_bool HN.out.symm, hb⟩
end Go.Proofs.YtgdlfiejjnjcpaaGreat

namespace Go.Proofs.YtgdlfiejjnjcpaaGreat
open Go.RowKit

structure Cd where
  fm : Int
  kd : Int
  ln : Int
  sz : Int
  ps : List Int
  sg : Int
  db : Int
  rs : List Sp
  ov : Int
def zeroC : Cd := ⟨0, 0, 0, 0, [], 0, 0, [], 0⟩
def blkB (z : Int) : Bool := decide (0 ≤ z) && decide (z ≤ 65535)
def headB (c : Cd) : Bool := (decide (c.kd = 1) || decide (c.kd = 2)) && (decide (1 ≤ c.ln) && decide (c.ln ≤ 200))
def oneB (c : Cd) : Bool := decide (c.fm = 1) && (decide (0 ≤ c.sz) && decide (c.sz ≤ 9728)) && decide (c.ps.length = 4) && c.ps.all blkB && blkB c.sg && blkB c.db && decide (c.rs.length = 0) && decide (c.ov = 0)
def twoB (c : Cd) : Bool := decide (c.fm = 2) && (decide (0 ≤ c.sz) && decide (c.sz ≤ 15360)) && decide (c.rs.length ≤ 3) && (decide (c.ov = 0) || decide (3 ≤ c.rs.length)) && blkB c.ov && rightL none c.rs && decide (c.ps.length = 0) && decide (c.sg = 0) && decide (c.db = 0)
def isZ (c : Cd) : Bool := decide (c.fm = 0) && decide (c.kd = 0) && decide (c.ln = 0) && decide (c.sz = 0) && decide (c.ps.length = 0) && decide (c.sg = 0) && decide (c.db = 0) && decide (c.rs.length = 0) && decide (c.ov = 0)
def rightC (c : Cd) : Bool := isZ c || (headB c && (oneB c || twoB c))

set_option maxRecDepth 100000 in
theorem isZ_iff {c : Cd} : isZ c = true ↔ c = zeroC := by
  obtain ⟨a, b, d, e, f, g, h, i, j⟩ := c
  simp [isZ, zeroC, and_assoc]
set_option maxRecDepth 100000 in
theorem blkB_iff {z : Int} : blkB z = true ↔ 0 ≤ z ∧ z ≤ 65535 := by simp [blkB]
set_option maxRecDepth 100000 in
theorem headB_iff {c : Cd} : headB c = true ↔ (c.kd = 1 ∨ c.kd = 2) ∧ 1 ≤ c.ln ∧ c.ln ≤ 200 := by simp [headB]
set_option maxRecDepth 100000 in
theorem oneB_iff {c : Cd} : oneB c = true ↔ c.fm = 1 ∧ (0 ≤ c.sz ∧ c.sz ≤ 9728) ∧ c.ps.length = 4 ∧ (∀ z ∈ c.ps, blkB z = true) ∧ blkB c.sg = true ∧ blkB c.db = true ∧ c.rs = [] ∧ c.ov = 0 := by
  simp [oneB, and_assoc]
set_option maxRecDepth 100000 in
theorem twoB_iff {c : Cd} : twoB c = true ↔ c.fm = 2 ∧ (0 ≤ c.sz ∧ c.sz ≤ 15360) ∧ c.rs.length ≤ 3 ∧ (c.ov = 0 ∨ 3 ≤ c.rs.length) ∧ blkB c.ov = true ∧ rightL none c.rs = true ∧ c.ps = [] ∧ c.sg = 0 ∧ c.db = 0 := by
  simp [twoB, and_assoc]
set_option maxRecDepth 100000 in
theorem rightC_iff {c : Cd} : rightC c = true ↔ c = zeroC ∨ (headB c = true ∧ (oneB c = true ∨ twoB c = true)) := by
  simp [rightC, isZ_iff]

def widthsC (f : Int) : List Int := if f = 1 then [1, 1, 2, 4, 2, 2, 2, 2, 2, 2] else if f = 2 then [1, 1, 2, 4, 1, 2, 2, 2, 2, 2, 2, 2, 2, 2, 2] else []
set_option maxRecDepth 100000 in
theorem widthsC1 : widthsC 1 = [1, 1, 2, 4, 2, 2, 2, 2, 2, 2] := rfl
set_option maxRecDepth 100000 in
theorem widthsC2 : widthsC 2 = [1, 1, 2, 4, 1, 2, 2, 2, 2, 2, 2, 2, 2, 2, 2] := rfl
set_option maxRecDepth 100000 in
theorem widthsC0 {f : Int} (h1 : f ≠ 1) (h2 : f ≠ 2) : widthsC f = [] := by simp [widthsC, h1, h2]
/-- the three fields of run number k, zero where there is none. -/
def runI (rs : List Sp) (k : Nat) : List Int := [(rs.getD k Sp.z).at_, (rs.getD k Sp.z).st, (rs.getD k Sp.z).len]
def valuesC (c : Cd) : List Int :=
  if c.fm = 1 then [c.fm, c.kd, c.ln, c.sz] ++ c.ps ++ [c.sg, c.db]
  else if c.fm = 2 then [c.fm, c.kd, c.ln, c.sz] ++ [(c.rs.length : Int)] ++ runI c.rs 0 ++ runI c.rs 1 ++ runI c.rs 2 ++ [c.ov]
  else []
def bytesC (c : Cd) : ByteArray := strOfNums (writeR (widthsC c.fm) (valuesC c)).1
def writeC (c : Cd) : ByteArray × Int := if rightC c = true then (padS (bytesC c) 32, 0) else (⟨#[]⟩, 1)

set_option maxRecDepth 100000 in
theorem sp_cases {l : List Sp} (h : l.length ≤ 3) : l = [] ∨ (∃ a, l = [a]) ∨ (∃ a b, l = [a, b]) ∨ (∃ a b c, l = [a, b, c]) := by
  match l, h with
  | [], _ => exact Or.inl rfl
  | [a], _ => exact Or.inr (Or.inl ⟨a, rfl⟩)
  | [a, b], _ => exact Or.inr (Or.inr (Or.inl ⟨a, b, rfl⟩))
  | [a, b, c], _ => exact Or.inr (Or.inr (Or.inr ⟨a, b, c, rfl⟩))
set_option maxRecDepth 100000 in
theorem four {l : List Int} (h : l.length = 4) : ∃ a b c d, l = [a, b, c, d] := by
  match l, h with
  | [a, b, c, d], _ => exact ⟨a, b, c, d, rfl⟩
set_option maxRecDepth 100000 in
/-- each field of a run of valid ones fits two bytes; of none it is zero. -/
theorem run_fit {l : List Sp} (h : rightL none l = true) (k : Nat) : (0 ≤ (l.getD k Sp.z).at_ ∧ (l.getD k Sp.z).at_ ≤ 65535) ∧ (0 ≤ (l.getD k Sp.z).st ∧ (l.getD k Sp.z).st ≤ 65535) ∧ (0 ≤ (l.getD k Sp.z).len ∧ (l.getD k Sp.z).len ≤ 65535) := by
  have all : ∀ (l : List Sp) (p : Option Sp), rightL p l = true → ∀ s ∈ l, inB s = true := by
    intro l
    induction l with
    | nil => intro p _ s hs; cases hs
    | cons a r ih =>
      intro p hp s hs
      simp only [rightL, Bool.and_eq_true] at hp
      rcases List.mem_cons.1 hs with rfl | hs
      · exact fitsB_in hp.1
      · exact ih _ hp.2 s hs
  rcases Nat.lt_or_ge k l.length with hl | hl
  · have := inB_iff.1 (all l none h _ (List.getElem_mem hl))
    simp only [List.getD, List.getElem?_eq_getElem hl, Option.getD_some]
    omega
  · simp [List.getD, List.getElem?_eq_none hl, Sp.z]

set_option maxRecDepth 100000 in
theorem okTo1 : okTo [1, 1, 2, 4, 2, 2, 2, 2, 2, 2] 10 = true := by decide
set_option maxRecDepth 100000 in
theorem okTo2 : okTo [1, 1, 2, 4, 1, 2, 2, 2, 2, 2, 2, 2, 2, 2, 2] 15 = true := by decide

set_option maxRecDepth 100000 in
/-- A VALID CARD'S VALUES FIT ITS WIDTHS. -/
theorem fits_right {c : Cd} (h : rightC c = true) : (widthsC c.fm).length = (valuesC c).length ∧ okTo (widthsC c.fm) (widthsC c.fm).length = true ∧ fitTo (widthsC c.fm) (valuesC c) (widthsC c.fm).length = true := by
  rcases rightC_iff.1 h with rfl | ⟨hh, ho | ht⟩
  · exact ⟨rfl, rfl, rfl⟩
  · obtain ⟨h1, h2, h3⟩ := headB_iff.1 hh
    obtain ⟨e1, e2, e3, e4, e5, e6, e7, e8⟩ := oneB_iff.1 ho
    obtain ⟨fm, kd, ln, sz, ps, sg, db, rs, ov⟩ := c
    simp only at *
    obtain ⟨a, b, c, d, rfl⟩ := four e3
    subst e1
    have := blkB_iff.1 (e4 a (by simp))
    have := blkB_iff.1 (e4 b (by simp))
    have := blkB_iff.1 (e4 c (by simp))
    have := blkB_iff.1 (e4 d (by simp))
    have := blkB_iff.1 e5
    have := blkB_iff.1 e6
    refine ⟨rfl, okTo1, ?_⟩
    simp [widthsC, valuesC, fitTo, fitB, mostOf]
    omega
  · obtain ⟨h1, h2, h3⟩ := headB_iff.1 hh
    obtain ⟨e1, e2, e3, e4, e5, e6, e7, e8, e9⟩ := twoB_iff.1 ht
    obtain ⟨fm, kd, ln, sz, ps, sg, db, rs, ov⟩ := c
    simp only at *
    subst e1
    have r0 := run_fit e6 0
    have r1 := run_fit e6 1
    have r2 := run_fit e6 2
    have := blkB_iff.1 e5
    refine ⟨rfl, okTo2, ?_⟩
    simp only [widthsC, valuesC, runI]
    generalize rs.getD 0 Sp.z = s0 at *
    generalize rs.getD 1 Sp.z = s1 at *
    generalize rs.getD 2 Sp.z = s2 at *
    simp [fitTo, fitB, mostOf]
    omega

set_option maxRecDepth 100000 in
theorem nums_append (a b : List Int) : strOfNums a ++ strOfNums b = strOfNums (a ++ b) := by
  apply ByteArray.ext
  simp [strOfNums]
set_option maxRecDepth 100000 in
theorem strOfNums_size (l : List Int) : (strOfNums l).size = l.length := by simp [strOfNums, ByteArray.size]
set_option maxRecDepth 100000 in
theorem bytesOf_nums (l : List Int) (h : ∀ b ∈ l, 0 ≤ b ∧ b ≤ 255) : bytesOf (strOfNums l) = l := by
  simp only [bytesOf, strOfNums]
  rw [List.map_map]
  refine (List.map_congr_left fun b hb => ?_).trans (List.map_id _)
  have := h b hb
  show ((UInt8.ofNat b.toNat).toNat : Int) = b
  rw [UInt8.toNat_ofNat']
  omega
set_option maxRecDepth 100000 in
theorem bytesOf_pad (s : ByteArray) (n : Nat) : bytesOf (padS s n) = bytesOf s ++ List.replicate (n - s.size) 0 := by
  simp [bytesOf, padS]
set_option maxRecDepth 100000 in
theorem size_pad (s : ByteArray) {n : Nat} (h : s.size ≤ n) : (padS s n).size = n := by
  have : s.data.toList.length = s.size := by rw [Array.length_toList]; rfl
  show (s.data.toList ++ List.replicate (n - s.size) 0).toArray.size = n
  rw [List.size_toArray, List.length_append, List.length_replicate, this]
  omega

set_option maxRecDepth 100000 in
theorem bytesC_ok {c : Cd} (h : rightC c = true) : (writeR (widthsC c.fm) (valuesC c)) = (encTo (widthsC c.fm) (valuesC c) (widthsC c.fm).length, 0) :=
  have ⟨h1, h2, h3⟩ := fits_right h
  writeR_ok h2 h1 h3
set_option maxRecDepth 100000 in
theorem sumTo_c (f : Int) : sumTo (widthsC f) (widthsC f).length ≤ 29 := by
  by_cases h1 : f = 1
  · subst h1; decide
  · by_cases h2 : f = 2
    · subst h2; decide
    · rw [widthsC0 h1 h2]; decide
set_option maxRecDepth 100000 in
theorem bytesC_len {c : Cd} (h : rightC c = true) : (bytesC c).size ≤ 29 := by
  have h2 := (fits_right h).2.1
  have h3 := encTo_len (widthsC c.fm) (valuesC c) _ h2
  have h4 := sumTo_c c.fm
  rw [bytesC, strOfNums_size, bytesC_ok h]
  show (encTo (widthsC c.fm) (valuesC c) (widthsC c.fm).length).length ≤ 29
  omega
set_option maxRecDepth 100000 in
theorem writeC_size {c : Cd} (h : rightC c = true) : (writeC c).1.size = 32 := by
  unfold writeC; rw [if_pos h]
  exact size_pad _ (by have := bytesC_len h; omega)

/-- the run number k of the bytes bs. -/
def runD (bs : List Int) (k : Nat) : Sp := ⟨decF bs (9 + 6 * k) 2, decF bs (11 + 6 * k) 2, decF bs (13 + 6 * k) 2⟩
def runsD (bs : List Int) (n : Nat) : List Sp := (List.range n).map (runD bs)
/-- how many runs the bytes bs have, at most three. -/
def cntD (bs : List Int) : Nat := (min (decF bs 8 1) 3).toNat
/-- the card that the bytes bs are of, if they are of one. -/
def cardD (bs : List Int) : Cd :=
  if decF bs 0 1 = 1 then ⟨1, decF bs 1 1, decF bs 2 2, decF bs 4 4, [decF bs 8 2, decF bs 10 2, decF bs 12 2, decF bs 14 2], decF bs 16 2, decF bs 18 2, [], 0⟩
  else if decF bs 0 1 = 2 then ⟨2, decF bs 1 1, decF bs 2 2, decF bs 4 4, [], 0, 0, runsD bs (cntD bs), decF bs 27 2⟩
  else zeroC
def readC (s : ByteArray) : Cd × Int := if s.size = 32 ∧ writeC (cardD (bytesOf s)) = (s, 0) then (cardD (bytesOf s), 0) else (zeroC, 15)

set_option maxRecDepth 100000 in
theorem vals_back {ws vs ms : List Int} {n : Nat} (hn : ws.length = n) (ho : okTo ws n = true) (hl : n = vs.length) (hf : fitTo ws vs n = true) {k : Nat} (hk : k < n) :
    decF (encTo ws vs n ++ ms) (sumTo ws k).toNat (ws.getD k 0).toNat = vs.getD k 0 := by
  subst hn
  have h := read_written ws vs ms ho hl hf
  have g := readTo_get ws (encTo ws vs ws.length ++ ms) ws.length k hk
  rw [h] at g
  exact g.symm

set_option maxRecDepth 100000 in
theorem enc_bytes {ws vs : List Int} (h : (writeR ws vs) = (encTo ws vs ws.length, 0)) : ∀ b ∈ encTo ws vs ws.length, 0 ≤ b ∧ b ≤ 255 := by
  have := writeR_bytes ws vs
  rw [h] at this
  exact this

set_option maxRecDepth 100000 in
/-- WHAT WAS WRITTEN IS READ. -/
theorem card_back {c : Cd} (h : rightC c = true) : cardD (bytesOf (writeC c).1) = c := by
  unfold writeC; rw [if_pos h]
  obtain ⟨h1, h2, h3⟩ := fits_right h
  have hw := bytesC_ok h
  show cardD (bytesOf (padS (bytesC c) 32)) = c
  rw [bytesOf_pad, bytesC, hw, bytesOf_nums _ (enc_bytes hw)]
  rcases rightC_iff.1 h with rfl | ⟨hh, ho | ht⟩
  · rfl
  all_goals generalize List.replicate (32 - (strOfNums (encTo (widthsC c.fm) (valuesC c) (widthsC c.fm).length, (0 : Int)).1).size) (0 : Int) = ms
  · obtain ⟨e1, e2, e3, e4, e5, e6, e7, e8⟩ := oneB_iff.1 ho
    obtain ⟨fm, kd, ln, sz, ps, sg, db, rs, ov⟩ := c
    simp only at *
    obtain ⟨a, b, c, d, rfl⟩ := four e3
    subst e1 e7 e8
    have key := fun k hk => vals_back (ms := ms) rfl h2 h1 h3 (k := k) hk
    generalize encTo (widthsC 1) (valuesC ⟨1, kd, ln, sz, [a, b, c, d], sg, db, [], 0⟩) (widthsC 1).length ++ ms = bs at *
    have k0 : decF bs 0 1 = 1 := key 0 (by decide)
    have k1 : decF bs 1 1 = kd := key 1 (by decide)
    have k2 : decF bs 2 2 = ln := key 2 (by decide)
    have k3 : decF bs 4 4 = sz := key 3 (by decide)
    have k4 : decF bs 8 2 = a := key 4 (by decide)
    have k5 : decF bs 10 2 = b := key 5 (by decide)
    have k6 : decF bs 12 2 = c := key 6 (by decide)
    have k7 : decF bs 14 2 = d := key 7 (by decide)
    have k8 : decF bs 16 2 = sg := key 8 (by decide)
    have k9 : decF bs 18 2 = db := key 9 (by decide)
    unfold cardD
    rw [if_pos k0, k1, k2, k3, k4, k5, k6, k7, k8, k9]
  · obtain ⟨e1, e2, e3, e4, e5, e6, e7, e8, e9⟩ := twoB_iff.1 ht
    obtain ⟨fm, kd, ln, sz, ps, sg, db, rs, ov⟩ := c
    simp only at *
    subst e1 e7 e8 e9
    have key := fun k hk => vals_back (ms := ms) rfl h2 h1 h3 (k := k) hk
    generalize hbs : encTo (widthsC 2) (valuesC ⟨2, kd, ln, sz, [], 0, 0, rs, ov⟩) (widthsC 2).length ++ ms = bs at *
    have k0 : decF bs 0 1 = 2 := key 0 (by decide)
    have k1 : decF bs 1 1 = kd := key 1 (by decide)
    have k2 : decF bs 2 2 = ln := key 2 (by decide)
    have k3 : decF bs 4 4 = sz := key 3 (by decide)
    have k4 : decF bs 8 1 = (rs.length : Int) := key 4 (by decide)
    have k5 : decF bs 9 2 = (rs.getD 0 Sp.z).at_ := key 5 (by decide)
    have k6 : decF bs 11 2 = (rs.getD 0 Sp.z).st := key 6 (by decide)
    have k7 : decF bs 13 2 = (rs.getD 0 Sp.z).len := key 7 (by decide)
    have k8 : decF bs 15 2 = (rs.getD 1 Sp.z).at_ := key 8 (by decide)
    have k9 : decF bs 17 2 = (rs.getD 1 Sp.z).st := key 9 (by decide)
    have k10 : decF bs 19 2 = (rs.getD 1 Sp.z).len := key 10 (by decide)
    have k11 : decF bs 21 2 = (rs.getD 2 Sp.z).at_ := key 11 (by decide)
    have k12 : decF bs 23 2 = (rs.getD 2 Sp.z).st := key 12 (by decide)
    have k13 : decF bs 25 2 = (rs.getD 2 Sp.z).len := key 13 (by decide)
    have k14 : decF bs 27 2 = ov := key 14 (by decide)
    have hc : cntD bs = rs.length := by unfold cntD; rw [k4]; omega
    unfold cardD
    rw [if_neg (by rw [k0]; decide), if_pos k0, k1, k2, k3, k14, hc]
    clear key hbs
    have : runsD bs rs.length = rs := by
      rcases sp_cases e3 with rfl | ⟨a, rfl⟩ | ⟨a, b, rfl⟩ | ⟨a, b, c, rfl⟩
      · rfl
      · simp [List.getD] at k5 k6 k7
        simp [runsD, List.range, List.range.loop, runD, k5, k6, k7]
      · simp [List.getD] at k5 k6 k7 k8 k9 k10
        simp [runsD, List.range, List.range.loop, runD, k5, k6, k7, k8, k9, k10]
      · simp [List.getD] at k5 k6 k7 k8 k9 k10 k11 k12 k13
        simp [runsD, List.range, List.range.loop, runD, k5, k6, k7, k8, k9, k10, k11, k12, k13]
    rw [this]

set_option maxRecDepth 100000 in
theorem read_back {c : Cd} (h : rightC c = true) : readC (writeC c).1 = (c, 0) := by
  have hb := card_back h
  have hw : writeC c = ((writeC c).1, 0) := by unfold writeC; rw [if_pos h]
  unfold readC
  rw [hb, if_pos ⟨writeC_size h, hw⟩]
set_option maxRecDepth 100000 in
theorem read_ok {s : ByteArray} (h : (readC s).2 = 0) : writeC (readC s).1 = (s, 0) := by
  unfold readC at h ⊢
  split
  · rename_i hc; exact hc.2
  · rename_i hc; rw [if_neg hc] at h; cases h
end Go.Proofs.YtgdlfiejjnjcpaaGreat

namespace Go.Proofs.YtgdlfiejjnjcpaaGreat
open Go.RowKit

def fields1 (bs : List Int) : List Int := [decF bs 0 1, decF bs 1 1, decF bs 2 2, decF bs 4 4, decF bs 8 2, decF bs 10 2, decF bs 12 2, decF bs 14 2, decF bs 16 2, decF bs 18 2]
def fields2 (bs : List Int) : List Int := [decF bs 0 1, decF bs 1 1, decF bs 2 2, decF bs 4 4, decF bs 8 1, decF bs 9 2, decF bs 11 2, decF bs 13 2, decF bs 15 2, decF bs 17 2, decF bs 19 2, decF bs 21 2, decF bs 23 2, decF bs 25 2, decF bs 27 2]
set_option maxRecDepth 100000 in
theorem readR1 {bs : List Int} (h : bs.length = 32) : readR (widthsC 1) bs = (fields1 bs, 0) := readR_ok (by decide) (by rw [h]; decide)
set_option maxRecDepth 100000 in
theorem readR2 {bs : List Int} (h : bs.length = 32) : readR (widthsC 2) bs = (fields2 bs, 0) := readR_ok (by decide) (by rw [h]; decide)
set_option maxRecDepth 100000 in
theorem readR0 {bs : List Int} {f : Int} (h1 : f ≠ 1) (h2 : f ≠ 2) : readR (widthsC f) bs = ([], 0) := by rw [widthsC0 h1 h2]; exact readR_ok (by decide) (by show ¬ ((bs.length : Int) < 0); omega)
set_option maxRecDepth 100000 in
theorem dec0 (s : ByteArray) (h : 0 < s.size) : decF (bytesOf s) 0 1 = ((s[0].toNat : Nat) : Int) := by
  show (bytesOf s).getD 0 0 + 256 * decF (bytesOf s) (0 + 1) 0 = _
  rw [bytesOf_at s 0 h]; simp [decF]

end Go.Proofs.YtgdlfiejjnjcpaaGreat

namespace Go.Proofs.YtgdlfiejjnjcpaaGreat
open Go.RowKit

section
variable {α : Type} {d : α}
set_option maxRecDepth 100000 in
theorem list_no {zs ys : List α} {k : Nat} {R : Bool} (hR : R = true ↔ zs = ys) (hne : zs.getD k d ≠ ys.getD k d) : R = false := by
  cases R with
  | false => rfl
  | true => exact absurd (by rw [hR.1 rfl]) hne
set_option maxRecDepth 100000 in
theorem list_step {zs ys : List α} {k : Nat} (h : k < zs.length) (h' : k < ys.length) (ht : zs.take k = ys.take k) (he : zs.getD k d = ys.getD k d) : zs.take (k + 1) = ys.take (k + 1) := by
  rw [List.take_add_one, List.take_add_one, ht, List.getElem?_eq_getElem h, List.getElem?_eq_getElem h']
  simp only [List.getD, List.getElem?_eq_getElem h, List.getElem?_eq_getElem h', Option.getD_some] at he
  rw [he]
set_option maxRecDepth 100000 in
theorem list_yes {zs ys : List α} {k : Nat} {R : Bool} (hR : R = true ↔ zs = ys) (h : zs.length ≤ k) (h' : ys.length ≤ k) (ht : zs.take k = ys.take k) : R = true := by
  rw [List.take_of_length_le h, List.take_of_length_le h'] at ht
  exact hR.2 ht
set_option maxRecDepth 100000 in
theorem list_len {zs ys : List α} {R : Bool} (hR : R = true ↔ zs = ys) (h : zs.length ≠ ys.length) : R = false := by
  cases R with
  | false => rfl
  | true => exact absurd (by rw [hR.1 rfl]) h
end

set_option maxRecDepth 100000 in
set_option maxHeartbeats 1000000 in
theorem eq_ints (A A' : Option Addr) (n c m c' B B' : Nat) (zs ys : List Int) (R : Bool) (w : World) (hR : R = true ↔ zs = ys) (hr : IntsAt w B A n zs) (hr' : IntsAt w B' A' m ys) (hn : n ≤ 9223372036854775807) (hm : m ≤ 9223372036854775807) :
    Calls Tryz.prog 136 #[.slice A n c, .slice A' m c'] w fun e w' => e = .returned (.bool R) ∧ Drew w w' := by
  have HR := Lib.hid hR
  clear hR
  have HL := Lib.hid hr.len
  have HL' := Lib.hid hr'.len
  by_cases hl : n = m
  · subst hl
    have HA := Lib.hid hr
    have HA' := Lib.hid hr'
    clear hr hr'
    have hne : ((n : Int) != (n : Int)) = false := by simp
    go_enter Tryz.func136, Tryz.ntmps136
    go_wp2
    clear hne
    go_loopw [5, 13] (fun _ i wr => ∃ k : Nat, k ≤ n ∧ i = .int .i64 k ∧ Hid (zs.take k = ys.take k) ∧ Drew w wr) (fun _ i _ => n - (intOf i).toNat)
    case atStart => exact ⟨0, Nat.zero_le _, rfl, (by show _ = _; rfl), Drew.refl _⟩
    case round =>
      obtain ⟨k, hk, rfl, HT, hd⟩ := hrel
      by_cases hlt : k < n
      · obtain ⟨b, o, rfl, hb, hc⟩ := HA.out.at_ hlt
        obtain ⟨b', o', rfl, hb', hc'⟩ := HA'.out.at_ hlt
        rw [← hd.cells] at hc hc'
        have h0 : (0 : Int) ≤ (k : Int) := by omega
        have hkn : (k : Int) < (n : Int) := by omega
        by_cases he : zs.getD k 0 = ys.getD k 0
        · have HE := Lib.hid (list_step (by rw [HL.out]; exact hlt) (by rw [HL'.out]; exact hlt) HT.out he)
          rw [← he] at hc'
          clear he
          generalize zs.getD k 0 = z at *
          have hzz : (z != z) = false := by simp
          go_wp2
          go_quiet (fail)
          go_wp2
          go_roundw
          case rel => exact ⟨k + 1, by omega, by go_num, HE, hd.trans ⟨_, rfl⟩⟩
          case measure => simp [intOf]; omega
        · have HN := Lib.hid (list_no HR.out he)
          have hd' : (zs.getD k 0 != ys.getD k 0) = true := bne_iff_ne.2 he
          clear he
          generalize zs.getD k 0 = z at *
          generalize ys.getD k 0 = y at *
          go_wp2
          go_quiet (fail)
          go_wp2
          go_ret
          exact ⟨ret_bool HN.out.symm, hd.trans ⟨_, rfl⟩⟩
      · have HE := Lib.hid (list_yes HR.out (by rw [HL.out]; omega) (by rw [HL'.out]; omega) HT.out)
        go_wp2
        go_ret
        exact ⟨ret_bool HE.out.symm, hd⟩
  · have hne : ((n : Int) != (m : Int)) = true := bne_iff_ne.2 (by omega)
    have HN := Lib.hid (list_len HR.out (by rw [HL.out, HL'.out]; exact hl))
    clear hr hr'
    go_enter Tryz.func136, Tryz.ntmps136
    go_wp2
    go_ret
    exact ⟨ret_bool HN.out.symm, Drew.refl _⟩

set_option maxRecDepth 100000 in
set_option maxHeartbeats 1000000 in
theorem rsame_ints (A A' : Option Addr) (n c m c' B B' : Nat) (zs ys : List Int) (R : Bool) (w : World) (hR : R = true ↔ zs = ys) (hr : IntsAt w B A n zs) (hr' : IntsAt w B' A' m ys) (hn : n ≤ 9223372036854775807) (hm : m ≤ 9223372036854775807) :
    Calls Tryz.prog 15 #[.slice A n c, .slice A' m c'] w fun e w' => e = .returned (.bool R) ∧ Drew w w' := by
  have HR := Lib.hid hR
  clear hR
  have HL := Lib.hid hr.len
  have HL' := Lib.hid hr'.len
  by_cases hl : n = m
  · subst hl
    have HA := Lib.hid hr
    have HA' := Lib.hid hr'
    clear hr hr'
    have hne : ((n : Int) != (n : Int)) = false := by simp
    go_enter Tryz.func15, Tryz.ntmps15
    go_wp2
    clear hne
    go_loopw [5] (fun i wr => ∃ k : Nat, k ≤ n ∧ i = .int .i64 k ∧ Hid (zs.take k = ys.take k) ∧ Drew w wr) (fun i _ => n - (intOf i).toNat)
    case atStart => exact ⟨0, Nat.zero_le _, rfl, (by show _ = _; rfl), Drew.refl _⟩
    case round =>
      obtain ⟨k, hk, rfl, HT, hd⟩ := hrel
      by_cases hlt : k < n
      · obtain ⟨b, o, rfl, hb, hc⟩ := HA.out.at_ hlt
        obtain ⟨b', o', rfl, hb', hc'⟩ := HA'.out.at_ hlt
        rw [← hd.cells] at hc hc'
        have h0 : (0 : Int) ≤ (k : Int) := by omega
        have hkn : (k : Int) < (n : Int) := by omega
        by_cases he : zs.getD k 0 = ys.getD k 0
        · have HE := Lib.hid (list_step (by rw [HL.out]; exact hlt) (by rw [HL'.out]; exact hlt) HT.out he)
          rw [← he] at hc'
          clear he
          generalize zs.getD k 0 = z at *
          have hzz : (z != z) = false := by simp
          go_wp2
          go_quiet (fail)
          go_wp2
          go_roundw
          case rel => exact ⟨k + 1, by omega, by go_num, HE, hd.trans ⟨_, rfl⟩⟩
          case measure => simp [intOf]; omega
        · have HN := Lib.hid (list_no HR.out he)
          have hd' : (zs.getD k 0 != ys.getD k 0) = true := bne_iff_ne.2 he
          clear he
          generalize zs.getD k 0 = z at *
          generalize ys.getD k 0 = y at *
          go_wp2
          go_quiet (fail)
          go_wp2
          go_ret
          exact ⟨ret_bool HN.out.symm, hd.trans ⟨_, rfl⟩⟩
      · have HE := Lib.hid (list_yes HR.out (by rw [HL.out]; omega) (by rw [HL'.out]; omega) HT.out)
        go_wp2
        go_ret
        exact ⟨ret_bool HE.out.symm, hd⟩
  · have hne : ((n : Int) != (m : Int)) = true := bne_iff_ne.2 (by omega)
    have HN := Lib.hid (list_len HR.out (by rw [HL.out, HL'.out]; exact hl))
    clear hr hr'
    go_enter Tryz.func15, Tryz.ntmps15
    go_wp2
    go_ret
    exact ⟨ret_bool HN.out.symm, Drew.refl _⟩

set_option maxRecDepth 100000 in
set_option maxHeartbeats 1000000 in
theorem eq_sps (A A' : Option Addr) (n c m c' B B' : Nat) (zs ys : List Sp) (R : Bool) (w : World) (hR : R = true ↔ zs = ys) (hr : SpsAt w B A n zs) (hr' : SpsAt w B' A' m ys) (hn : n ≤ 9223372036854775807) (hm : m ≤ 9223372036854775807) :
    Calls Tryz.prog 137 #[.slice A n c, .slice A' m c'] w fun e w' => e = .returned (.bool R) ∧ Drew w w' := by
  have HR := Lib.hid hR
  clear hR
  have HL := Lib.hid hr.len
  have HL' := Lib.hid hr'.len
  by_cases hl : n = m
  · subst hl
    have HA := Lib.hid hr
    have HA' := Lib.hid hr'
    clear hr hr'
    have hne : ((n : Int) != (n : Int)) = false := by simp
    go_enter Tryz.func137, Tryz.ntmps137
    go_wp2
    clear hne
    go_loopw [5, 13] (fun _ i wr => ∃ k : Nat, k ≤ n ∧ i = .int .i64 k ∧ Hid (zs.take k = ys.take k) ∧ Drew w wr) (fun _ i _ => n - (intOf i).toNat)
    case atStart => exact ⟨0, Nat.zero_le _, rfl, (by show _ = _; rfl), Drew.refl _⟩
    case round =>
      obtain ⟨k, hk, rfl, HT, hd⟩ := hrel
      by_cases hlt : k < n
      · obtain ⟨b, o, rfl, hb, h1, h2, h3⟩ := HA.out.at_ hlt
        obtain ⟨b', o', rfl, hb', g1, g2, g3⟩ := HA'.out.at_ hlt
        rw [← hd.cells] at h1 h2 h3 g1 g2 g3
        have h0 : (0 : Int) ≤ (k : Int) := by omega
        have hkn : (k : Int) < (n : Int) := by omega
        by_cases he : zs.getD k Sp.z = ys.getD k Sp.z
        · have HE := Lib.hid (list_step (by rw [HL.out]; exact hlt) (by rw [HL'.out]; exact hlt) HT.out he)
          rw [← he] at g1 g2 g3
          clear he
          generalize zs.getD k Sp.z = s at *
          obtain ⟨sa, sp, sl⟩ := s
          simp only at h1 h2 h3 g1 g2 g3
          go_wp2
          go_quiet (fail)
          go_wp2
          go_roundw
          case rel => exact ⟨k + 1, by omega, by go_num, HE, hd.trans ⟨_, rfl⟩⟩
          case measure => simp [intOf]; omega
        · have HN := Lib.hid (list_no HR.out he)
          generalize zs.getD k Sp.z = s at *
          generalize ys.getD k Sp.z = t at *
          obtain ⟨sa, sp, sl⟩ := s
          obtain ⟨ta, tp, tl⟩ := t
          simp only [Sp.mk.injEq, not_and] at he h1 h2 h3 g1 g2 g3
          have HX := Lib.hid he
          by_cases e1 : sa = ta
          · subst e1
            by_cases e2 : sp = tp
            · subst e2
              have e3 : (sl == tl) = false := by simpa using HX.out rfl rfl
              clear he
              go_wp2
              go_quiet (fail)
              go_wp2
              go_ret
              exact ⟨ret_bool HN.out.symm, hd.trans ⟨_, rfl⟩⟩
            · have e2 : (sp == tp) = false := by simpa using e2
              clear he
              go_wp2
              go_quiet (fail)
              go_wp2
              go_ret
              exact ⟨ret_bool HN.out.symm, hd.trans ⟨_, rfl⟩⟩
          · have e2 : (sa == ta) = false := by simpa using e1
            clear he
            go_wp2
            go_quiet (fail)
            go_wp2
            go_ret
            exact ⟨ret_bool HN.out.symm, hd.trans ⟨_, rfl⟩⟩
      · have HE := Lib.hid (list_yes HR.out (by rw [HL.out]; omega) (by rw [HL'.out]; omega) HT.out)
        go_wp2
        go_ret
        exact ⟨ret_bool HE.out.symm, hd⟩
  · have hne : ((n : Int) != (m : Int)) = true := bne_iff_ne.2 (by omega)
    have HN := Lib.hid (list_len HR.out (by rw [HL.out, HL'.out]; exact hl))
    clear hr hr'
    go_enter Tryz.func137, Tryz.ntmps137
    go_wp2
    go_ret
    exact ⟨ret_bool HN.out.symm, Drew.refl _⟩

set_option maxRecDepth 100000 in
set_option maxHeartbeats 1000000 in
theorem rsame_sps (A A' : Option Addr) (n c m c' B B' : Nat) (zs ys : List Sp) (R : Bool) (w : World) (hR : R = true ↔ zs = ys) (hr : SpsAt w B A n zs) (hr' : SpsAt w B' A' m ys) (hn : n ≤ 9223372036854775807) (hm : m ≤ 9223372036854775807) :
    Calls Tryz.prog 84 #[.slice A n c, .slice A' m c'] w fun e w' => e = .returned (.bool R) ∧ Drew w w' := by
  have HR := Lib.hid hR
  clear hR
  have HL := Lib.hid hr.len
  have HL' := Lib.hid hr'.len
  by_cases hl : n = m
  · subst hl
    have HA := Lib.hid hr
    have HA' := Lib.hid hr'
    clear hr hr'
    have hne : ((n : Int) != (n : Int)) = false := by simp
    go_enter Tryz.func84, Tryz.ntmps84
    go_wp2
    clear hne
    go_loopw [5] (fun i wr => ∃ k : Nat, k ≤ n ∧ i = .int .i64 k ∧ Hid (zs.take k = ys.take k) ∧ Drew w wr) (fun i _ => n - (intOf i).toNat)
    case atStart => exact ⟨0, Nat.zero_le _, rfl, (by show _ = _; rfl), Drew.refl _⟩
    case round =>
      obtain ⟨k, hk, rfl, HT, hd⟩ := hrel
      by_cases hlt : k < n
      · obtain ⟨b, o, rfl, hb, h1, h2, h3⟩ := HA.out.at_ hlt
        obtain ⟨b', o', rfl, hb', g1, g2, g3⟩ := HA'.out.at_ hlt
        rw [← hd.cells] at h1 h2 h3 g1 g2 g3
        have h0 : (0 : Int) ≤ (k : Int) := by omega
        have hkn : (k : Int) < (n : Int) := by omega
        by_cases he : zs.getD k Sp.z = ys.getD k Sp.z
        · have HE := Lib.hid (list_step (by rw [HL.out]; exact hlt) (by rw [HL'.out]; exact hlt) HT.out he)
          rw [← he] at g1 g2 g3
          clear he
          generalize zs.getD k Sp.z = s at *
          obtain ⟨sa, sp, sl⟩ := s
          simp only at h1 h2 h3 g1 g2 g3
          go_wp2
          go_quiet (fail)
          go_wp2
          go_roundw
          case rel => exact ⟨k + 1, by omega, by go_num, HE, hd.trans ⟨_, rfl⟩⟩
          case measure => simp [intOf]; omega
        · have HN := Lib.hid (list_no HR.out he)
          generalize zs.getD k Sp.z = s at *
          generalize ys.getD k Sp.z = t at *
          obtain ⟨sa, sp, sl⟩ := s
          obtain ⟨ta, tp, tl⟩ := t
          simp only [Sp.mk.injEq, not_and] at he h1 h2 h3 g1 g2 g3
          have HX := Lib.hid he
          by_cases e1 : sa = ta
          · subst e1
            by_cases e2 : sp = tp
            · subst e2
              have e3 : (sl == tl) = false := by simpa using HX.out rfl rfl
              clear he
              go_wp2
              go_quiet (fail)
              go_wp2
              go_ret
              exact ⟨ret_bool HN.out.symm, hd.trans ⟨_, rfl⟩⟩
            · have e2 : (sp == tp) = false := by simpa using e2
              clear he
              go_wp2
              go_quiet (fail)
              go_wp2
              go_ret
              exact ⟨ret_bool HN.out.symm, hd.trans ⟨_, rfl⟩⟩
          · have e2 : (sa == ta) = false := by simpa using e1
            clear he
            go_wp2
            go_quiet (fail)
            go_wp2
            go_ret
            exact ⟨ret_bool HN.out.symm, hd.trans ⟨_, rfl⟩⟩
      · have HE := Lib.hid (list_yes HR.out (by rw [HL.out]; omega) (by rw [HL'.out]; omega) HT.out)
        go_wp2
        go_ret
        exact ⟨ret_bool HE.out.symm, hd⟩
  · have hne : ((n : Int) != (m : Int)) = true := bne_iff_ne.2 (by omega)
    have HN := Lib.hid (list_len HR.out (by rw [HL.out, HL'.out]; exact hl))
    clear hr hr'
    go_enter Tryz.func84, Tryz.ntmps84
    go_wp2
    go_ret
    exact ⟨ret_bool HN.out.symm, Drew.refl _⟩
end Go.Proofs.YtgdlfiejjnjcpaaGreat

namespace Go.Proofs.YtgdlfiejjnjcpaaGreat
open Go.RowKit

/-- a card's value: its lists are the slices at A and A'. -/
abbrev cdv (c : Cd) (A : Option Addr) (n k : Nat) (A' : Option Addr) (n' k' : Nat) : Value :=
  .agg #[.int .i64 c.fm, .int .i64 c.kd, .int .i64 c.ln, .int .i64 c.sz, .slice A n k, .int .i64 c.sg, .int .i64 c.db, .slice A' n' k', .int .i64 c.ov]
/-- the numbers of a card are of an int64. -/
def Cd.fit (c : Cd) : Prop := Fit c.fm ∧ Fit c.kd ∧ Fit c.ln ∧ Fit c.sz ∧ Fit c.sg ∧ Fit c.db ∧ Fit c.ov
/-- The value v reads as the card c, whose lists lie below block B. -/
def CdAt (w : World) (B : Nat) (v : Value) (c : Cd) : Prop :=
  ∃ A n k A' n' k', v = cdv c A n k A' n' k' ∧ IntsAt w B A n c.ps ∧ SpsAt w B A' n' c.rs ∧ n ≤ 9223372036854775807 ∧ n' ≤ 9223372036854775807 ∧ c.fit
section
variable {w w' : World} {B B' : Nat} {v : Value} {c : Cd}
set_option maxRecDepth 100000 in
theorem CdAt.more (h : CdAt w B v c) (hB : B ≤ B') : CdAt w B' v c := by
  obtain ⟨A, n, k, A', n', k', e, h1, h2, h3⟩ := h
  exact ⟨A, n, k, A', n', k', e, h1.more hB, h2.more hB, h3⟩
set_option maxRecDepth 100000 in
theorem CdAt.below {C : Nat} (h : CdAt w B v c) (hb : Below C w w') (hBC : B ≤ C) : CdAt w' B v c := by
  obtain ⟨A, n, k, A', n', k', e, h1, h2, h3⟩ := h
  exact ⟨A, n, k, A', n', k', e, h1.below hb hBC, h2.below hb hBC, h3⟩
end
abbrev cells9 (c : Cd) (A : Option Addr) (n k : Nat) (A' : Option Addr) (n' k' : Nat) : Array Value :=
  #[.int .i64 c.fm, .int .i64 c.kd, .int .i64 c.ln, .int .i64 c.sz, .slice A n k, .int .i64 c.sg, .int .i64 c.db, .slice A' n' k', .int .i64 c.ov]
/-- The card c, its lists the slices at A and A', in block g, known whole. -/
def CdRow (W : World) (g : Nat) (c : Cd) (A : Option Addr) (n k : Nat) (A' : Option Addr) (n' k' : Nat) : Prop := W.heap[g]? = some (.cells (cells9 c A n k A' n' k') 30 (0, 0))
section
variable {W : World} {g : Nat} {c : Cd} {A : Option Addr} {n k : Nat} {A' : Option Addr} {n' k' : Nat}
set_option maxRecDepth 100000 in
theorem CdRow.lt (h : CdRow W g c A n k A' n' k') : g < W.heap.size := (Array.getElem?_eq_some_iff.1 h).1
set_option maxRecDepth 100000 in
theorem CdRow.cells (h : CdRow W g c A n k A' n' k') :
    W.cell? ⟨g, 0, none⟩ = some (.int .i64 c.fm) ∧ W.cell? ⟨g, 1, none⟩ = some (.int .i64 c.kd) ∧ W.cell? ⟨g, 2, none⟩ = some (.int .i64 c.ln) ∧ W.cell? ⟨g, 3, none⟩ = some (.int .i64 c.sz) ∧ W.cell? ⟨g, 4, none⟩ = some (.slice A n k) ∧ W.cell? ⟨g, 5, none⟩ = some (.int .i64 c.sg) ∧ W.cell? ⟨g, 6, none⟩ = some (.int .i64 c.db) ∧ W.cell? ⟨g, 7, none⟩ = some (.slice A' n' k') ∧ W.cell? ⟨g, 8, none⟩ = some (.int .i64 c.ov) := by
  refine ⟨?_, ?_, ?_, ?_, ?_, ?_, ?_, ?_, ?_⟩ <;> (rw [cell_of_row W _ _ _ 30 _ h]; rfl)
set_option maxRecDepth 100000 in
theorem CdRow.fz (h : CdRow W g c A n k A' n' k') (k : Nat) : W.frozen? ⟨g, k, none⟩ = false := by unfold World.frozen?; rw [h]; simp
set_option maxRecDepth 100000 in
theorem CdRow.below {C : Nat} {w' : World} (h : CdRow W g c A n k A' n' k') (hb : Below C W w') (hq : g < C) : CdRow w' g c A n k A' n' k' := (hb.block g hq).trans h
set_option maxRecDepth 100000 in
theorem CdRow.drew {w' : World} (h : CdRow W g c A n k A' n' k') (hd : Drew W w') : CdRow w' g c A n k A' n' k' := by
  obtain ⟨m, rfl⟩ := hd
  exact h
set_option maxRecDepth 100000 in
theorem CdRow.new (w : World) (c : Cd) (A : Option Addr) (n k : Nat) (A' : Option Addr) (n' k' : Nat) : CdRow (w.alloc (.cells (cells9 c A n k A' n' k') 30)) w.heap.size c A n k A' n' k' := by
  show (w.heap.push _)[w.heap.size]? = _
  simp
end

/-! ### the small functions -/
set_option maxRecDepth 100000 in
theorem within_any (z lo hi : Int) (R : Bool) (w : World) (hR : (decide (lo ≤ z) && decide (z ≤ hi)) = R) :
    Calls Tryz.prog 103 #[.int .i64 z, .int .i64 lo, .int .i64 hi] w fun e w' => e = .returned (.bool R) ∧ w = w' := by
  subst hR
  by_cases h1 : lo ≤ z
  · have d1 : decide (lo ≤ z) = true := by simpa using h1
    rw [d1, Bool.true_and]
    go_enter Tryz.func103, Tryz.ntmps103
    go_wp2
    go_ret
    exact ⟨rfl, rfl⟩
  · have d1 : decide (lo ≤ z) = false := by simpa using h1
    rw [d1, Bool.false_and]
    go_enter Tryz.func103, Tryz.ntmps103
    go_wp2
    go_ret
    exact ⟨rfl, rfl⟩
set_option maxRecDepth 100000 in
theorem isKind_any (z : Int) (R : Bool) (w : World) (hR : (decide (z = 1) || decide (z = 2)) = R) :
    Calls Tryz.prog 102 #[.int .i64 z] w fun e w' => e = .returned (.bool R) ∧ w = w' := by
  subst hR
  by_cases h1 : z = 1
  · subst h1
    go_enter Tryz.func102, Tryz.ntmps102
    go_wp2
    go_ret
    exact ⟨rfl, rfl⟩
  · have d1 : (z == 1) = false := by simpa using h1
    have HE : Hid ((z == 2) = (decide (z = 1) || decide (z = 2))) := by show _ = _; rw [Bool.eq_iff_iff]; simp; omega
    generalize (decide (z = 1) || decide (z = 2)) = R at *
    go_enter Tryz.func102, Tryz.ntmps102
    go_wp2
    go_ret
    exact ⟨ret_bool HE.out, rfl⟩
set_option maxRecDepth 100000 in
theorem isBlock_any (z : Int) (R : Bool) (w : World) (hR : blkB z = R) :
    Calls Tryz.prog 138 #[.int .i64 z] w fun e w' => e = .returned (.bool R) ∧ w = w' := by
  have HW := Lib.hid (within_any z 0 65535 R w (by rw [← hR]; rfl))
  clear hR
  go_enter Tryz.func138, Tryz.ntmps138
  go_wp2_with fail
  refine HW.out.mono ?_
  rintro e w1 ⟨rfl, rfl⟩
  go_wp2
  go_ret
  exact ⟨rfl, rfl⟩
set_option maxRecDepth 100000 in
theorem small_any (z : Int) (R : Bool) (w : World) (hR : blkB z = R) :
    Calls Tryz.prog 49 #[.int .i64 z] w fun e w' => e = .returned (.bool R) ∧ w = w' := by
  have HR : Hid (blkB z = R) := hR
  unfold blkB at hR
  by_cases h1 : 0 ≤ z
  · have d1 : decide (0 ≤ z) = true := by simpa using h1
    rw [d1, Bool.true_and] at hR
    have H2 := Lib.hid hR
    clear hR
    go_enter Tryz.func49, Tryz.ntmps49
    go_wp2
    go_ret
    exact ⟨ret_bool H2.out, rfl⟩
  · have d1 : decide (0 ≤ z) = false := by simpa using h1
    rw [d1, Bool.false_and] at hR
    subst hR
    go_enter Tryz.func49, Tryz.ntmps49
    go_wp2
    go_ret
    exact ⟨rfl, rfl⟩
set_option maxRecDepth 100000 in
theorem ints_new {w : World} (zs : List Int) (hz : ∀ z ∈ zs, Fit z) : IntsAt (w.alloc (.cells (zs.map (Value.int .i64)).toArray 3)) (w.heap.size + 1) (some ⟨w.heap.size, 0, none⟩) zs.length zs := by
  refine ⟨rfl, hz, fun k hk => ⟨_, _, rfl, by omega, ?_⟩⟩
  rw [Nat.zero_add]
  refine cell_new w _ 3 k ?_
  simp [List.getD, hk]

/-- an answer that is a new slice of ints. -/
def RetI (w : World) (zs : List Int) (e : Ending) (w' : World) : Prop := ∃ A c, e = .returned (.slice A zs.length c) ∧ IntsAt w' w'.heap.size A zs.length zs ∧ Below w.heap.size w w'

set_option maxRecDepth 100000 in
set_option maxHeartbeats 1000000 in
theorem numbers_any (c : Cd) (A : Option Addr) (n k : Nat) (A' : Option Addr) (n' k' : Nat) (w : World) :
    Calls Tryz.prog 135 #[cdv c A n k A' n' k'] w fun e w' => e = .returned (.agg #[.int .i64 c.fm, .int .i64 c.kd, .int .i64 c.ln, .int .i64 c.sz, .int .i64 c.sg, .int .i64 c.db, .int .i64 c.ov]) ∧ Below w.heap.size w w' := by
  obtain ⟨fm, kd, ln, sz, ps, sg, db, rs, ov⟩ := c
  simp only
  have HB : Hid (∀ o o' : Obj, Below w.heap.size w ((w.alloc o).alloc o')) := fun o o' => ((Below.refl _ _).alloc (Nat.le_refl _) _).alloc (by simp) _
  go_enter Tryz.func135, Tryz.ntmps135
  go_wp2
  refine bodyPost_ret (v := .agg #[.int .i64 fm, .int .i64 kd, .int .i64 ln, .int .i64 sz, .int .i64 sg, .int .i64 db, .int .i64 ov]) (by simp [results, Tryz.results135, go_sem]) rfl ?_
  exact ⟨rfl, HB.out _ _⟩
end Go.Proofs.YtgdlfiejjnjcpaaGreat
