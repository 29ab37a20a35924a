/-
  MATHEMATICS: the numbers that the reference reads of a card's bytes. Condition: the text has 32 bytes.
-/
import Derived.Test.YtmimfnbcffcdfaaCDec
import Derived.Test.YtmimfnbcffcdfaaCWrite
namespace Go.Proofs.Ytmimfnbcffcdfaa
open Go.RowKit

def fieldsH (bs : List Int) : List Int := [decF bs 0 1, decF bs 1 1, decF bs 2 2, decF bs 4 4]
def fieldsP (bs : List Int) : List Int := [decF bs 8 2, decF bs 10 2, decF bs 12 2, decF bs 14 2, decF bs 16 2, decF bs 18 2]
def fieldsN (bs : List Int) : List Int := [decF bs 8 1, decF bs 9 2, decF bs 11 2, decF bs 13 2, decF bs 15 2, decF bs 17 2, decF bs 19 2, decF bs 21 2, decF bs 23 2, decF bs 25 2, decF bs 27 2]
theorem readH {bs : List Int} (h : bs.length = 32) : readR [1, 1, 2, 4] bs = (fieldsH bs, 0) := readR_ok (by decide) (by rw [h]; decide)
theorem bytes_ext (s : ByteArray) (k i : Nat) : (bytesOf (s.extract k s.size)).getD i 0 = (bytesOf s).getD (k + i) 0 := by
  have e : bytesOf (s.extract k s.size) = (bytesOf s).drop k := by
    simp only [bytesOf, ByteArray.data_extract, Array.toList_extract]
    rw [List.extract_eq_take_drop, List.map_take, List.map_drop]
    rw [List.take_of_length_le (by simp)]
  rw [e, getD_drop]
theorem dec8 (s : ByteArray) (a n : Nat) : decF (bytesOf (s.extract 8 s.size)) a n = decF (bytesOf s) (8 + a) n :=
  decF_congr _ _ _ _ _ fun i _ => by rw [bytes_ext, Nat.add_assoc]
theorem len8 {s : ByteArray} (h : s.size = 32) : (bytesOf (s.extract 8 s.size)).length = 24 := by
  rw [bytesOf_len, ByteArray.size_extract, h]; rfl
theorem readP {s : ByteArray} (h : s.size = 32) : readR [2, 2, 2, 2, 2, 2] (bytesOf (s.extract 8 s.size)) = (fieldsP (bytesOf s), 0) := by
  rw [readR_ok (by decide) (by rw [len8 h]; decide)]
  have e : readTo [2, 2, 2, 2, 2, 2] (bytesOf (s.extract 8 s.size)) 6 = [decF (bytesOf (s.extract 8 s.size)) 0 2, decF (bytesOf (s.extract 8 s.size)) 2 2, decF (bytesOf (s.extract 8 s.size)) 4 2, decF (bytesOf (s.extract 8 s.size)) 6 2, decF (bytesOf (s.extract 8 s.size)) 8 2, decF (bytesOf (s.extract 8 s.size)) 10 2] := rfl
  show (readTo _ _ 6, _) = _
  rw [e]
  simp only [dec8, fieldsP]
theorem readN {s : ByteArray} (h : s.size = 32) : readR [1, 2, 2, 2, 2, 2, 2, 2, 2, 2, 2] (bytesOf (s.extract 8 s.size)) = (fieldsN (bytesOf s), 0) := by
  rw [readR_ok (by decide) (by rw [len8 h]; decide)]
  generalize hbs : bytesOf (s.extract 8 s.size) = bs8
  have e : readTo [1, 2, 2, 2, 2, 2, 2, 2, 2, 2, 2] bs8 11 = [decF bs8 0 1, decF bs8 1 2, decF bs8 3 2, decF bs8 5 2, decF bs8 7 2, decF bs8 9 2, decF bs8 11 2, decF bs8 13 2, decF bs8 15 2, decF bs8 17 2, decF bs8 19 2] := rfl
  show (readTo _ _ 11, _) = _
  rw [e, ← hbs]
  simp only [dec8, fieldsN]
/-- the card that the reference builds. -/
def refCard (bs : List Int) : Cd :=
  if decF bs 0 1 = 0 then zeroC else if decF bs 0 1 = 1 then cardD bs else if decF bs 0 1 = 2 then cardD bs else ⟨decF bs 0 1, decF bs 1 1, decF bs 2 2, decF bs 4 4, [], 0, 0, [], 0⟩
theorem ref_read {s : ByteArray} (h : s.size = 32) : readC s = if writeC (refCard (bytesOf s)) = (s, 0) then (refCard (bytesOf s), 0) else (zeroC, 15) := by
  unfold readC
  simp only [h, true_and]
  by_cases h0 : decF (bytesOf s) 0 1 = 0
  · have e : refCard (bytesOf s) = zeroC := by unfold refCard; rw [if_pos h0]
    have e2 : cardD (bytesOf s) = zeroC := by unfold cardD; rw [if_neg (by rw [h0]; decide), if_neg (by rw [h0]; decide)]
    rw [e, e2]
  · by_cases h1 : decF (bytesOf s) 0 1 = 1
    · have e : refCard (bytesOf s) = cardD (bytesOf s) := by unfold refCard; rw [if_neg h0, if_pos h1]
      rw [e]
    · by_cases h2 : decF (bytesOf s) 0 1 = 2
      · have e : refCard (bytesOf s) = cardD (bytesOf s) := by unfold refCard; rw [if_neg h0, if_neg h1, if_pos h2]
        rw [e]
      · have e : refCard (bytesOf s) = ⟨decF (bytesOf s) 0 1, decF (bytesOf s) 1 1, decF (bytesOf s) 2 2, decF (bytesOf s) 4 4, [], 0, 0, [], 0⟩ := by unfold refCard; rw [if_neg h0, if_neg h1, if_neg h2]
        have e2 : cardD (bytesOf s) = zeroC := by unfold cardD; rw [if_neg h1, if_neg h2]
        have hr : rightC ⟨decF (bytesOf s) 0 1, decF (bytesOf s) 1 1, decF (bytesOf s) 2 2, decF (bytesOf s) 4 4, [], 0, 0, [], 0⟩ = false := by simp [rightC, isZ, headB, oneB, twoB, h0, h1, h2]
        rw [e, e2, writeC_no hr, if_neg, if_neg]
        · intro hh; injection hh with _ hh; cases hh
        · intro hh
          injection hh with hh
          apply h0
          rw [← hh]
          decide +kernel
end Go.Proofs.Ytmimfnbcffcdfaa
