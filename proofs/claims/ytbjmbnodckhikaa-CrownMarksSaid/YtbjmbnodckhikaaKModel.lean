/-
  PLAIN MATHEMATICS of a crown's block: the crown of any bytes, and back. No condition.
-/
import Derived.Test.YtbjmbnodckhikaaKCut
namespace Go.Proofs.Ytbjmbnodckhikaa
open Go.RowKit

/-- The numbers that stand in a block. -/
def kf (s : ByteArray) : Int := decF (bytesOf s) 10 1
def kb (s : ByteArray) : Int := decF (bytesOf s) 11 2
def kc (s : ByteArray) : Int := decF (bytesOf s) 13 1
/-- Is s the block of a crown? -/
def okK (s : ByteArray) : Bool := rightK (kf s) (kb s) (kc s) && decide (blockK (kf s) (kb s) (kc s) = s)
def fK (s : ByteArray) : Int := if okK s = true then kf s else 0
def bK (s : ByteArray) : Int := if okK s = true then kb s else 0
def cK (s : ByteArray) : Int := if okK s = true then kc s else 0
def eK (s : ByteArray) : Int := if okK s = true then 0 else 15
theorem okK_t {s : ByteArray} (h : okK s = true) : rightK (kf s) (kb s) (kc s) = true ∧ blockK (kf s) (kb s) (kc s) = s := by simpa [okK] using h
theorem okK_size {s : ByteArray} (h : s.size ≠ 128) : okK s = false := by
  cases hk : okK s with
  | false => rfl
  | true =>
    obtain ⟨h1, h2⟩ := okK_t hk
    have := blockK_size h1
    rw [h2] at this
    exact absurd this h
theorem block_word {f b c : Int} : (blockK f b c).extract 0 10 = wordB := by
  have h : ((blockK f b c).extract 0 10).data.toList = wordB.data.toList := by
    simp only [ByteArray.data_extract, Array.toList_extract]
    rw [List.extract_eq_take_drop]
    show (((wordB.data.toList ++ _) ++ _).drop 0).take 10 = _
    rw [List.drop_zero, List.append_assoc, List.take_append_of_le_length (by decide)]
    rfl
  exact ByteArray.ext (Array.ext' h)
theorem okK_word {s : ByteArray} (h : wdB s = false) : okK s = false := by
  cases hk : okK s with
  | false => rfl
  | true =>
    obtain ⟨h1, h2⟩ := okK_t hk
    have e1 := blockK_size h1
    have e2 := block_word (f := kf s) (b := kb s) (c := kc s)
    rw [h2] at e1 e2
    have : wdB s = true := by simp [wdB, e1, e2]
    rw [this] at h; cases h

/-- The numbers behind the first ten bytes. -/
theorem dec_rest (s : ByteArray) (h : 10 ≤ s.size) (k n : Nat) (hk : 10 + k + n ≤ s.size) : decF (bytesOf (s.extract 10 s.size)) k n = decF (bytesOf s) (10 + k) n := by
  refine decF_congr _ _ k (10 + k) n fun i hi => ?_
  have hsz : (s.extract 10 s.size).size = s.size - 10 := by rw [ByteArray.size_extract]; omega
  rw [bytesOf_at _ (k + i) (by omega), bytesOf_at s (10 + k + i) (by omega)]
  congr 2
  rw [ByteArray.getElem_extract]
  congr 1; omega
theorem readTo_k (l : List Int) : readTo [1, 2, 1] l 3 = [decF l 0 1, decF l 1 2, decF l 3 1] := by
  simp [readTo, sumTo, List.getD]
theorem read_rest {s : ByteArray} (h : 14 ≤ s.size) : readR [1, 2, 1] (bytesOf (s.extract 10 s.size)) = ([kf s, kb s, kc s], 0) := by
  have hsz : (s.extract 10 s.size).size = s.size - 10 := by rw [ByteArray.size_extract]; omega
  rw [readR_ok (by decide) (by rw [bytesOf_len, hsz]; simp [sumTo, List.getD]; omega)]
  show (readTo [1, 2, 1] _ 3, (0 : Int)) = _
  rw [readTo_k, dec_rest s (by omega) 0 1 (by omega), dec_rest s (by omega) 1 2 (by omega), dec_rest s (by omega) 3 1 (by omega)]
  rfl
theorem read_short {s : ByteArray} (h : s.size < 14) : ∃ z, readR [1, 2, 1] (bytesOf (s.extract 10 s.size)) = ([], z) ∧ (z == 0) = false := by
  have hsz : (s.extract 10 s.size).size = s.size - 10 := by rw [ByteArray.size_extract]; omega
  exact ⟨_, readR_short (by decide) (by rw [bytesOf_len, hsz]; simp [sumTo, List.getD]; omega), rfl⟩
theorem nums_bd (s : ByteArray) : 0 ≤ kf s ∧ kf s ≤ 255 ∧ 0 ≤ kb s ∧ kb s ≤ 65535 ∧ 0 ≤ kc s ∧ kc s ≤ 255 := by
  have h1 := decF_bd (bytesOf s) (bytesOf_bd s) 1 10
  have h2 := decF_bd (bytesOf s) (bytesOf_bd s) 2 11
  have h3 := decF_bd (bytesOf s) (bytesOf_bd s) 1 13
  unfold kf kb kc
  simp at h1 h2 h3
  omega

/-- Back: the block of a crown says the crown. -/
theorem bytesOf_nums (l : List Int) (h : ∀ b ∈ l, 0 ≤ b ∧ b ≤ 255) : bytesOf (strOfNums l) = l := by
  simp only [bytesOf, strOfNums]
  rw [List.map_map]
  refine (List.map_congr_left fun b hb => ?_).trans (List.map_id _)
  have := h b hb
  show ((UInt8.ofNat b.toNat).toNat : Int) = b
  rw [UInt8.toNat_ofNat']
  omega
theorem bytesOf_pad (s : ByteArray) (n : Nat) : bytesOf (padS s n) = bytesOf s ++ List.replicate (n - s.size) 0 := by
  simp [bytesOf, padS]
theorem bytesOf_append (a b : ByteArray) : bytesOf (a ++ b) = bytesOf a ++ bytesOf b := by
  simp [bytesOf]
theorem bytes_block {f b c : Int} (h : rightK f b c = true) (i : Nat) (hi : i < 4) : (bytesOf (blockK f b c)).getD (10 + i) 0 = [f % 256, b % 256, b / 256 % 256, c % 256].getD i 0 := by
  unfold blockK bytesK
  rw [bytesOf_pad, bytesOf_append, writeR_k h, encTo_k, bytesOf_nums _ (by intro z hz; simp at hz; omega)]
  have hw : (bytesOf wordB).length = 10 := by rw [bytesOf_len]; rfl
  rw [List.append_assoc, List.getD, List.getD, List.getElem?_append_right (by omega), hw, Nat.add_sub_cancel_left, List.getElem?_append_left (by simpa using hi)]
theorem back_k {f b c : Int} (h : rightK f b c = true) : kf (blockK f b c) = f ∧ kb (blockK f b c) = b ∧ kc (blockK f b c) = c := by
  obtain ⟨h1, h2, h3⟩ := rightK_t h
  have b0 := bytes_block h 0 (by omega)
  have b1 := bytes_block h 1 (by omega)
  have b2 := bytes_block h 2 (by omega)
  have b3 := bytes_block h 3 (by omega)
  simp only [List.getD_cons_zero, List.getD_cons_succ] at b0 b1 b2 b3
  unfold kf kb kc
  simp only [decF, b0, b1, b2, b3, Nat.reduceAdd] at *
  omega
theorem ok_block {f b c : Int} (h : rightK f b c = true) : okK (blockK f b c) = true := by
  obtain ⟨h1, h2, h3⟩ := back_k h
  simp [okK, h1, h2, h3, h]
end Go.Proofs.Ytbjmbnodckhikaa
