/-
  MATHEMATICS: a card's bytes are those of its numbers, part by part. Conditions: the card is valid.
-/
import Derived.Test.YtmimfnbcffcdfaaCBytes
import Derived.Test.YtmimfnbcffcdfaaCWrite
namespace Go.Proofs.Ytmimfnbcffcdfaa
open Go.RowKit

theorem ok_rep {z : Int} (hz : wOk z = true) (n : Nat) : ∀ k, k ≤ n → okTo (List.replicate n z) k = true := by
  intro k
  induction k with
  | zero => intro _; rfl
  | succ k ih =>
    intro h
    have : (List.replicate n z).getD k 0 = z := by simp [List.getD, show k < n by omega]
    simp only [okTo, ih (by omega), this, hz]; rfl
theorem fit_rep {z : Int} {l : List Int} (hf : ∀ x ∈ l, fitB x z = true) : ∀ k, k ≤ l.length → fitTo (List.replicate l.length z) l k = true := by
  intro k
  induction k with
  | zero => intro _; rfl
  | succ k ih =>
    intro h
    have e : (List.replicate l.length z).getD k 0 = z := by simp [List.getD, show k < l.length by omega]
    have e2 : l.getD k 0 = l[k] := by simp [List.getD, show k < l.length by omega]
    simp only [fitTo, ih (by omega), e, e2, hf _ (List.getElem_mem _)]; rfl
theorem enc_rep {z : Int} (l : List Int) : ∀ k, k ≤ l.length → encTo (List.replicate l.length z) l k = (l.take k).flatMap fun x => encF x z.toNat := by
  intro k
  induction k with
  | zero => intro _; rfl
  | succ k ih =>
    intro h
    have e : (List.replicate l.length z).getD k 0 = z := by simp [List.getD, show k < l.length by omega]
    have e2 : l.getD k 0 = l[k] := by simp [List.getD, show k < l.length by omega]
    simp only [encTo, ih (by omega), e, e2]
    rw [List.take_add_one, List.getElem?_eq_getElem (by omega), List.flatMap_append]
    simp
theorem bytesW_eq {z : Int} {l : List Int} (hz : wOk z = true) (hf : ∀ x ∈ l, fitB x z = true) : bytesW z l = strOfNums (l.flatMap fun x => encF x z.toNat) := by
  unfold bytesW
  rw [writeR_ok (by rw [List.length_replicate]; exact ok_rep hz _ _ (Nat.le_refl _)) List.length_replicate (by rw [List.length_replicate]; exact fit_rep hf _ (Nat.le_refl _)), List.length_replicate]
  show strOfNums (encTo _ _ _) = _
  rw [enc_rep l _ (Nat.le_refl _), List.take_length]
theorem bytesW_size {z : Int} {l : List Int} : (bytesW z l).size ≤ 4 * l.length := by
  unfold bytesW
  rw [strOfNums_size]
  have := writeR_len (List.replicate l.length z) l
  rwa [List.length_replicate] at this

def headS (fm kd ln sz : Int) : ByteArray := bytesW 1 [fm, kd] ++ bytesW 2 [ln] ++ bytesW 4 [sz]
def accS (fm kd ln sz : Int) (rs : List Sp) : Nat → ByteArray
  | 0 => headS fm kd ln sz ++ bytesW 1 [(rs.length : Int)]
  | j + 1 => accS fm kd ln sz rs j ++ bytesW 2 (runI rs j)
theorem nums_inj {a b : List Int} (h : a = b) : strOfNums a = strOfNums b := by rw [h]
theorem headS_eq {fm kd ln sz : Int} (hf : 0 ≤ fm ∧ fm ≤ 255) (hk : 0 ≤ kd ∧ kd ≤ 255) (hl : 0 ≤ ln ∧ ln ≤ 65535) (hs : 0 ≤ sz ∧ sz ≤ 4294967295) :
    headS fm kd ln sz = strOfNums (encF fm 1 ++ encF kd 1 ++ encF ln 2 ++ encF sz 4) := by
  unfold headS
  rw [bytesW_eq (by decide) (by simp [fitB, mostOf]; omega), bytesW_eq (by decide) (by simp [fitB, mostOf]; omega), bytesW_eq (by decide) (by simp [fitB, mostOf]; omega), nums_append, nums_append]
  apply nums_inj
  simp
theorem one_parts {kd ln sz sg db : Int} {ps : List Int} (h : rightC ⟨1, kd, ln, sz, ps, sg, db, [], 0⟩ = true) : bytesC ⟨1, kd, ln, sz, ps, sg, db, [], 0⟩ = headS 1 kd ln sz ++ (bytesW 2 ps ++ bytesW 2 [sg, db]) := by
  have hw := bytesC_ok h
  rcases rightC_iff.1 h with h0 | ⟨hh, ho | ht⟩
  · injection h0 with h0; cases h0
  · obtain ⟨h1, h2, h3⟩ := headB_iff.1 hh
    obtain ⟨e1, e2, e3, e4, e5, e6, e7, e8⟩ := oneB_iff.1 ho
    simp only at h1 h2 h3 e2 e3 e4 e5 e6
    have g5 := blkB_iff.1 e5
    have g6 := blkB_iff.1 e6
    rw [headS_eq (by omega) (by omega) (by omega) (by omega), bytesW_eq (l := ps) (by decide) (fun x hx => by have := blkB_iff.1 (e4 x hx); simp [fitB, mostOf]; omega), bytesW_eq (l := [sg, db]) (by decide) (by simp [fitB, mostOf]; omega), nums_append, nums_append]
    unfold bytesC
    rw [hw]
    apply nums_inj
    obtain ⟨a, b, c, d, rfl⟩ := four e3
    simp [encTo, widthsC, valuesC]
  · have := (twoB_iff.1 ht).1; simp only at this; omega
theorem two_parts {kd ln sz ov : Int} {rs : List Sp} (h : rightC ⟨2, kd, ln, sz, [], 0, 0, rs, ov⟩ = true) : bytesC ⟨2, kd, ln, sz, [], 0, 0, rs, ov⟩ = accS 2 kd ln sz rs 3 ++ bytesW 2 [ov] := by
  have hw := bytesC_ok h
  rcases rightC_iff.1 h with h0 | ⟨hh, ho | ht⟩
  · injection h0 with h0; cases h0
  · have := (oneB_iff.1 ho).1; simp only at this; omega
  · obtain ⟨h1, h2, h3⟩ := headB_iff.1 hh
    obtain ⟨e1, e2, e3, e4, e5, e6, e7, e8, e9⟩ := twoB_iff.1 ht
    simp only at h1 h2 h3 e2 e3 e5 e6
    have g5 := blkB_iff.1 e5
    have r0 := run_fit e6 0
    have r1 := run_fit e6 1
    have r2 := run_fit e6 2
    unfold accS accS accS accS runI
    unfold bytesC
    rw [hw]
    have hv : valuesC ⟨2, kd, ln, sz, [], 0, 0, rs, ov⟩ = [2, kd, ln, sz, (rs.length : Int), (rs.getD 0 Sp.z).at_, (rs.getD 0 Sp.z).st, (rs.getD 0 Sp.z).len, (rs.getD 1 Sp.z).at_, (rs.getD 1 Sp.z).st, (rs.getD 1 Sp.z).len, (rs.getD 2 Sp.z).at_, (rs.getD 2 Sp.z).st, (rs.getD 2 Sp.z).len, ov] := by
      simp [valuesC, runI]
    rw [hv]
    generalize rs.getD 0 Sp.z = s0 at *
    generalize rs.getD 1 Sp.z = s1 at *
    generalize rs.getD 2 Sp.z = s2 at *
    rw [headS_eq (by omega) (by omega) (by omega) (by omega), bytesW_eq (l := [(rs.length : Int)]) (by decide) (by simp [fitB, mostOf]; omega), bytesW_eq (l := [ov]) (by decide) (by simp [fitB, mostOf]; omega),
      bytesW_eq (l := [s0.at_, s0.st, s0.len]) (by decide) (by simp [fitB, mostOf]; omega), bytesW_eq (l := [s1.at_, s1.st, s1.len]) (by decide) (by simp [fitB, mostOf]; omega), bytesW_eq (l := [s2.at_, s2.st, s2.len]) (by decide) (by simp [fitB, mostOf]; omega), nums_append, nums_append, nums_append, nums_append, nums_append]
    apply nums_inj
    simp [encTo, widthsC]
theorem headS_size (fm kd ln sz : Int) : (headS fm kd ln sz).size ≤ 16 := by
  unfold headS
  rw [ByteArray.size_append, ByteArray.size_append]
  have h1 := bytesW_size (z := 1) (l := [fm, kd])
  have h2 := bytesW_size (z := 2) (l := [ln])
  have h3 := bytesW_size (z := 4) (l := [sz])
  simp only [List.length_cons, List.length_nil] at h1 h2 h3
  omega
theorem accS_size (fm kd ln sz : Int) (rs : List Sp) (j : Nat) : (accS fm kd ln sz rs j).size ≤ 20 + 12 * j := by
  induction j with
  | zero =>
    unfold accS
    rw [ByteArray.size_append]
    have h1 := headS_size fm kd ln sz
    have h2 := bytesW_size (z := 1) (l := [(rs.length : Int)])
    simp only [List.length_cons, List.length_nil] at h2
    omega
  | succ j ih =>
    unfold accS
    rw [ByteArray.size_append]
    have h2 := bytesW_size (z := 2) (l := runI rs j)
    simp only [runI, List.length_cons, List.length_nil] at h2
    unfold runI
    omega
/-- the bytes, padded by zeros. -/
theorem write_zeros {c : Cd} (h : rightC c = true) : writeC c = (bytesC c ++ (⟨(List.replicate (32 - (bytesC c).size) (0 : UInt8)).toArray⟩ : ByteArray), 0) := by
  rw [writeC_ok h, pad_add]
end Go.Proofs.Ytmimfnbcffcdfaa
