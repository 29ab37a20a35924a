/-
  MATHEMATICS: the numbers that a card's bytes have, by either layout. No condition.
-/
import Derived.Test.YtmimfnbcffcdfaaCModel
namespace Go.Proofs.Ytmimfnbcffcdfaa
open Go.RowKit

def fields1 (bs : List Int) : List Int := [decF bs 0 1, decF bs 1 1, decF bs 2 2, decF bs 4 4, decF bs 8 2, decF bs 10 2, decF bs 12 2, decF bs 14 2, decF bs 16 2, decF bs 18 2]
def fields2 (bs : List Int) : List Int := [decF bs 0 1, decF bs 1 1, decF bs 2 2, decF bs 4 4, decF bs 8 1, decF bs 9 2, decF bs 11 2, decF bs 13 2, decF bs 15 2, decF bs 17 2, decF bs 19 2, decF bs 21 2, decF bs 23 2, decF bs 25 2, decF bs 27 2]
theorem readR1 {bs : List Int} (h : bs.length = 32) : readR (widthsC 1) bs = (fields1 bs, 0) := readR_ok (by decide) (by rw [h]; decide)
theorem readR2 {bs : List Int} (h : bs.length = 32) : readR (widthsC 2) bs = (fields2 bs, 0) := readR_ok (by decide) (by rw [h]; decide)
theorem readR0 {bs : List Int} {f : Int} (h1 : f ≠ 1) (h2 : f ≠ 2) : readR (widthsC f) bs = ([], 0) := by rw [widthsC0 h1 h2]; exact readR_ok (by decide) (by show ¬ ((bs.length : Int) < 0); omega)
theorem dec0 (s : ByteArray) (h : 0 < s.size) : decF (bytesOf s) 0 1 = ((s[0].toNat : Nat) : Int) := by
  show (bytesOf s).getD 0 0 + 256 * decF (bytesOf s) (0 + 1) 0 = _
  rw [bytesOf_at s 0 h]; simp [decF]

end Go.Proofs.Ytmimfnbcffcdfaa
