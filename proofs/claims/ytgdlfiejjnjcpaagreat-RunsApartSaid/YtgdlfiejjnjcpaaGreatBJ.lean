/-
  WALK: Read returns the card whose bytes a text is, or that it is none's. Condition: fewer than 2^49 bytes.
  WALK: Read returns the card whose bytes a text is, or that it is none's. No condition.
  WALK: the reference's Read returns the numbers of bytes, in a list of its own memory. Conditions: at most 17592186044416 widths, 1000000000000000 bytes.
  WALK: the reference's bytes are those of numbers of one width. Condition: at most 100000 numbers.
  MATHEMATICS: the numbers that the reference reads of a card's bytes. Condition: the text has 32 bytes.
  MATHEMATICS: a card's bytes are those of its numbers, part by part. Conditions: the card is valid.
  WALK: New returns a new file's card, or that it may not be. Condition: the numbers are of an int64.
-/
import Derived.Test.YtgdlfiejjnjcpaaGreatBI
import Derived.Test.YtgdlfiejjnjcpaaGreatBH
import Derived.Test.YtgdlfiejjnjcpaaGreatBC
namespace Go.Proofs.YtgdlfiejjnjcpaaGreat
open Go.RowKit

/-- an answer that is a card and an error's number. -/
def RetCE (w : World) (c : Cd) (z : Int) (e : Ending) (w' : World) : Prop := ∃ v, e = .returned (.tuple #[v, .int .i64 z]) ∧ CdAt w' w'.heap.size v c ∧ Below w.heap.size w w'
set_option maxRecDepth 100000 in
theorem IntsAt.apart {w w' : World} {B n : Nat} {A : Option Addr} {l : List Int} {r : Nat} (h : IntsAt w B A n l) (hf : Fresh (r + 1) A) (hk : ∀ q, q ≠ r → w'.heap[q]? = w.heap[q]?) : IntsAt w' B A n l :=
  ⟨h.1, h.2.1, fun k hkn => by
    obtain ⟨b, o, e, hb, hc⟩ := h.2.2 k hkn
    have := hf b o e
    refine ⟨b, o, e, hb, ?_⟩
    rw [← hc]; unfold World.cell?; rw [hk b (by omega)]⟩
set_option maxRecDepth 100000 in
theorem SpsAt.apart {w w' : World} {B n : Nat} {A : Option Addr} {l : List Sp} {r : Nat} (h : SpsAt w B A n l) (hf : Fresh (r + 1) A) (hk : ∀ q, q ≠ r → w'.heap[q]? = w.heap[q]?) : SpsAt w' B A n l :=
  ⟨h.1, h.2.1, fun k hkn => by
    obtain ⟨b, o, e, hb, h1, h2, h3⟩ := h.2.2 k hkn
    have := hf b o e
    refine ⟨b, o, e, hb, ?_, ?_, ?_⟩
    · rw [← h1]; unfold World.cell?; rw [hk b (by omega)]
    · rw [← h2]; unfold World.cell?; rw [hk b (by omega)]
    · rw [← h3]; unfold World.cell?; rw [hk b (by omega)]⟩
set_option maxRecDepth 100000 in
/-- a card laid into block r, whose lists lie behind r. -/
theorem cd_put9 {w : World} {r : Nat} {c : Cd} {A : Option Addr} {n k : Nat} {A' : Option Addr} {n' k' B : Nat} (h : CdAt w B (cdv c A n k A' n' k') c) (hB : B ≤ w.heap.size) (h1 : Fresh (r + 1) A) (h2 : Fresh (r + 1) A') :
    CdAt (put9 w r c A n k A' n' k') (put9 w r c A n k A' n' k').heap.size (cdv c A n k A' n' k') c := by
  obtain ⟨Q, m, l, Q', m', l', e, i, s, bm, bm', f⟩ := h
  injection e with e
  have e := congrArg Array.toList e
  simp only [List.cons.injEq, Value.slice.injEq, and_true, true_and] at e
  obtain ⟨⟨rfl, rfl, rfl⟩, rfl, rfl, rfl⟩ := e
  rw [put9_size]
  exact ⟨A, n, k, A', n', k', rfl, (i.apart h1 fun q hq => put9_other hq).more hB, (s.apart h2 fun q hq => put9_other hq).more hB, bm, bm', f⟩

/-- an answer that is a card and an error's number, the card's lists of the call's own. -/
def RetCN (w : World) (c : Cd) (z : Int) (e : Ending) (w' : World) : Prop := ∃ v, e = .returned (.tuple #[v, .int .i64 z]) ∧ CdNew w' w.heap.size v c ∧ Below w.heap.size w w'
theorem cd_new {w : World} {N : Nat} {c c' : Cd} {A : Option Addr} {n k : Nat} {A' : Option Addr} {n' k' : Nat} (h : CdAt w w.heap.size (cdv c' A n k A' n' k') c) (h1 : Fresh N A) (h2 : Fresh N A') : CdNew w N (cdv c' A n k A' n' k') c := by
  obtain ⟨Q, m, l, Q', m', l', e, i, s, bm, bm', f⟩ := h
  have e0 := e
  injection e with e
  have e := congrArg Array.toList e
  simp only [List.cons.injEq, Value.slice.injEq, and_true] at e
  obtain ⟨_, _, _, _, ⟨rfl, rfl, rfl⟩, _, _, ⟨rfl, rfl, rfl⟩, _⟩ := e
  exact ⟨A, n, k, A', n', k', h1, h2, e0, i, s, bm, bm', f⟩
theorem CdNew.more {w : World} {N N' : Nat} {v : Value} {c : Cd} (h : CdNew w N v c) (hN : N' ≤ N) : CdNew w N' v c := by
  obtain ⟨A, n, k, A', n', k', h1, h2, h⟩ := h
  exact ⟨A, n, k, A', n', k', fun b o e => Nat.le_trans hN (h1 b o e), fun b o e => Nat.le_trans hN (h2 b o e), h⟩
theorem RetCN.ce {w : World} {c : Cd} {z : Int} {e : Ending} {w' : World} (h : RetCN w c z e w') : RetCE w c z e w' := by
  obtain ⟨v, h1, h2, h3⟩ := h
  exact ⟨v, h1, h2.at_, h3⟩
end Go.Proofs.YtgdlfiejjnjcpaaGreat

namespace Go.Proofs.YtgdlfiejjnjcpaaGreat
open Go.RowKit

set_option maxRecDepth 100000 in
theorem writeC_size2 {c : Cd} {t : ByteArray} {z : Int} (h : writeC c = (t, z)) : t.size ≤ 32 := by
  cases hr : rightC c with
  | false => rw [writeC_no hr] at h; injection h with h1 _; subst h1; exact Nat.zero_le _
  | true => have := writeC_size hr; rw [h] at this; exact Nat.le_of_eq this

end Go.Proofs.YtgdlfiejjnjcpaaGreat

namespace Go.Proofs.YtgdlfiejjnjcpaaGreat
open Go.RowKit

end Go.Proofs.YtgdlfiejjnjcpaaGreat

namespace Go.Proofs.YtgdlfiejjnjcpaaGreat
open Go.RowKit

set_option maxRecDepth 100000 in
theorem rep_succ (z : Int) (k : Nat) : List.replicate (k + 1) z = List.replicate k z ++ [z] := List.replicate_succ'
def bytesW (z : Int) (l : List Int) : ByteArray := strOfNums (writeR (List.replicate l.length z) l).1

end Go.Proofs.YtgdlfiejjnjcpaaGreat

namespace Go.Proofs.YtgdlfiejjnjcpaaGreat
open Go.RowKit

def fieldsH (bs : List Int) : List Int := [decF bs 0 1, decF bs 1 1, decF bs 2 2, decF bs 4 4]
def fieldsP (bs : List Int) : List Int := [decF bs 8 2, decF bs 10 2, decF bs 12 2, decF bs 14 2, decF bs 16 2, decF bs 18 2]
def fieldsN (bs : List Int) : List Int := [decF bs 8 1, decF bs 9 2, decF bs 11 2, decF bs 13 2, decF bs 15 2, decF bs 17 2, decF bs 19 2, decF bs 21 2, decF bs 23 2, decF bs 25 2, decF bs 27 2]
set_option maxRecDepth 100000 in
theorem readH {bs : List Int} (h : bs.length = 32) : readR [1, 1, 2, 4] bs = (fieldsH bs, 0) := readR_ok (by decide) (by rw [h]; decide)
set_option maxRecDepth 100000 in
theorem bytes_ext (s : ByteArray) (k i : Nat) : (bytesOf (s.extract k s.size)).getD i 0 = (bytesOf s).getD (k + i) 0 := by
  have e : bytesOf (s.extract k s.size) = (bytesOf s).drop k := by
    simp only [bytesOf, ByteArray.data_extract, Array.toList_extract]
    rw [List.extract_eq_take_drop, List.map_take, List.map_drop]
    rw [List.take_of_length_le (by simp)]
  rw [e, getD_drop]
set_option maxRecDepth 100000 in
theorem dec8 (s : ByteArray) (a n : Nat) : decF (bytesOf (s.extract 8 s.size)) a n = decF (bytesOf s) (8 + a) n :=
  decF_congr _ _ _ _ _ fun i _ => by rw [bytes_ext, Nat.add_assoc]
set_option maxRecDepth 100000 in
theorem len8 {s : ByteArray} (h : s.size = 32) : (bytesOf (s.extract 8 s.size)).length = 24 := by
  rw [bytesOf_len, ByteArray.size_extract, h]; rfl
set_option maxRecDepth 100000 in
theorem readP {s : ByteArray} (h : s.size = 32) : readR [2, 2, 2, 2, 2, 2] (bytesOf (s.extract 8 s.size)) = (fieldsP (bytesOf s), 0) := by
  rw [readR_ok (by decide) (by rw [len8 h]; decide)]
  have e : readTo [2, 2, 2, 2, 2, 2] (bytesOf (s.extract 8 s.size)) 6 = [decF (bytesOf (s.extract 8 s.size)) 0 2, decF (bytesOf (s.extract 8 s.size)) 2 2, decF (bytesOf (s.extract 8 s.size)) 4 2, decF (bytesOf (s.extract 8 s.size)) 6 2, decF (bytesOf (s.extract 8 s.size)) 8 2, decF (bytesOf (s.extract 8 s.size)) 10 2] := rfl
  show (readTo _ _ 6, _) = _
  rw [e]
  simp only [dec8, fieldsP]
set_option maxRecDepth 100000 in
theorem readN {s : ByteArray} (h : s.size = 32) : readR [1, 2, 2, 2, 2, 2, 2, 2, 2, 2, 2] (bytesOf (s.extract 8 s.size)) = (fieldsN (bytesOf s), 0) := by
  rw [readR_ok (by decide) (by rw [len8 h]; decide)]
  generalize hbs : bytesOf (s.extract 8 s.size) = bs8
  have e : readTo [1, 2, 2, 2, 2, 2, 2, 2, 2, 2, 2] bs8 11 = [decF bs8 0 1, decF bs8 1 2, decF bs8 3 2, decF bs8 5 2, decF bs8 7 2, decF bs8 9 2, decF bs8 11 2, decF bs8 13 2, decF bs8 15 2, decF bs8 17 2, decF bs8 19 2] := rfl
  show (readTo _ _ 11, _) = _
  rw [e, ← hbs]
  simp only [dec8, fieldsN]
/-- the card that the reference builds. -/
def refCard (bs : List Int) : Cd :=
  if decF bs 0 1 = 0 then zeroC else if decF bs 0 1 = 1 then cardD bs else if decF bs 0 1 = 2 then cardD bs else ⟨decF bs 0 1, decF bs 1 1, decF bs 2 2, decF bs 4 4, [], 0, 0, [], 0⟩
set_option maxRecDepth 100000 in
theorem ref_read {s : ByteArray} (h : s.size = 32) : readC s = if writeC (refCard (bytesOf s)) = (s, 0) then (refCard (bytesOf s), 0) else (zeroC, 15) := by
  unfold readC
  simp only [h, true_and]
  by_cases h0 : decF (bytesOf s) 0 1 = 0
  · have e : refCard (bytesOf s) = zeroC := by unfold refCard; rw [if_pos h0]
    have e2 : cardD (bytesOf s) = zeroC := by unfold cardD; rw [if_neg (by rw [h0]; decide), if_neg (by rw [h0]; decide)]
    rw [e, e2]
  · by_cases h1 : decF (bytesOf s) 0 1 = 1
    · have e : refCard (bytesOf s) = cardD (bytesOf s) := by unfold refCard; rw [if_neg h0, if_pos h1]
      rw [e]
    · by_cases h2 : decF (bytesOf s) 0 1 = 2
      · have e : refCard (bytesOf s) = cardD (bytesOf s) := by unfold refCard; rw [if_neg h0, if_neg h1, if_pos h2]
        rw [e]
      · have e : refCard (bytesOf s) = ⟨decF (bytesOf s) 0 1, decF (bytesOf s) 1 1, decF (bytesOf s) 2 2, decF (bytesOf s) 4 4, [], 0, 0, [], 0⟩ := by unfold refCard; rw [if_neg h0, if_neg h1, if_neg h2]
        have e2 : cardD (bytesOf s) = zeroC := by unfold cardD; rw [if_neg h1, if_neg h2]
        have hr : rightC ⟨decF (bytesOf s) 0 1, decF (bytesOf s) 1 1, decF (bytesOf s) 2 2, decF (bytesOf s) 4 4, [], 0, 0, [], 0⟩ = false := by simp [rightC, isZ, headB, oneB, twoB, h0, h1, h2]
        rw [e, e2, writeC_no hr, if_neg, if_neg]
        · intro hh; injection hh with _ hh; cases hh
        · intro hh
          injection hh with hh
          apply h0
          rw [← hh]
          decide +kernel
end Go.Proofs.YtgdlfiejjnjcpaaGreat

namespace Go.Proofs.YtgdlfiejjnjcpaaGreat
open Go.RowKit

set_option maxRecDepth 100000 in
theorem ok_rep {z : Int} (hz : wOk z = true) (n : Nat) : ∀ k, k ≤ n → okTo (List.replicate n z) k = true := by
  intro k
  induction k with
  | zero => intro _; rfl
  | succ k ih =>
    intro h
    have : (List.replicate n z).getD k 0 = z := by simp [List.getD, show k < n by omega]
    simp only [okTo, ih (by omega), this, hz]; rfl
set_option maxRecDepth 100000 in
theorem fit_rep {z : Int} {l : List Int} (hf : ∀ x ∈ l, fitB x z = true) : ∀ k, k ≤ l.length → fitTo (List.replicate l.length z) l k = true := by
  intro k
  induction k with
  | zero => intro _; rfl
  | succ k ih =>
    intro h
    have e : (List.replicate l.length z).getD k 0 = z := by simp [List.getD, show k < l.length by omega]
    have e2 : l.getD k 0 = l[k] := by simp [List.getD, show k < l.length by omega]
    simp only [fitTo, ih (by omega), e, e2, hf _ (List.getElem_mem _)]; rfl
set_option maxRecDepth 100000 in
theorem enc_rep {z : Int} (l : List Int) : ∀ k, k ≤ l.length → encTo (List.replicate l.length z) l k = (l.take k).flatMap fun x => encF x z.toNat := by
  intro k
  induction k with
  | zero => intro _; rfl
  | succ k ih =>
    intro h
    have e : (List.replicate l.length z).getD k 0 = z := by simp [List.getD, show k < l.length by omega]
    have e2 : l.getD k 0 = l[k] := by simp [List.getD, show k < l.length by omega]
    simp only [encTo, ih (by omega), e, e2]
    rw [List.take_add_one, List.getElem?_eq_getElem (by omega), List.flatMap_append]
    simp
set_option maxRecDepth 100000 in
theorem bytesW_eq {z : Int} {l : List Int} (hz : wOk z = true) (hf : ∀ x ∈ l, fitB x z = true) : bytesW z l = strOfNums (l.flatMap fun x => encF x z.toNat) := by
  unfold bytesW
  rw [writeR_ok (by rw [List.length_replicate]; exact ok_rep hz _ _ (Nat.le_refl _)) List.length_replicate (by rw [List.length_replicate]; exact fit_rep hf _ (Nat.le_refl _)), List.length_replicate]
  show strOfNums (encTo _ _ _) = _
  rw [enc_rep l _ (Nat.le_refl _), List.take_length]
set_option maxRecDepth 100000 in
theorem bytesW_size {z : Int} {l : List Int} : (bytesW z l).size ≤ 4 * l.length := by
  unfold bytesW
  rw [strOfNums_size]
  have := writeR_len (List.replicate l.length z) l
  rwa [List.length_replicate] at this

def headS (fm kd ln sz : Int) : ByteArray := bytesW 1 [fm, kd] ++ bytesW 2 [ln] ++ bytesW 4 [sz]
def accS (fm kd ln sz : Int) (rs : List Sp) : Nat → ByteArray
  | 0 => headS fm kd ln sz ++ bytesW 1 [(rs.length : Int)]
  | j + 1 => accS fm kd ln sz rs j ++ bytesW 2 (runI rs j)
set_option maxRecDepth 100000 in
theorem nums_inj {a b : List Int} (h : a = b) : strOfNums a = strOfNums b := by rw [h]
set_option maxRecDepth 100000 in
theorem headS_eq {fm kd ln sz : Int} (hf : 0 ≤ fm ∧ fm ≤ 255) (hk : 0 ≤ kd ∧ kd ≤ 255) (hl : 0 ≤ ln ∧ ln ≤ 65535) (hs : 0 ≤ sz ∧ sz ≤ 4294967295) :
    headS fm kd ln sz = strOfNums (encF fm 1 ++ encF kd 1 ++ encF ln 2 ++ encF sz 4) := by
  unfold headS
  rw [bytesW_eq (by decide) (by simp [fitB, mostOf]; omega), bytesW_eq (by decide) (by simp [fitB, mostOf]; omega), bytesW_eq (by decide) (by simp [fitB, mostOf]; omega), nums_append, nums_append]
  apply nums_inj
  simp
set_option maxRecDepth 100000 in
theorem one_parts {kd ln sz sg db : Int} {ps : List Int} (h : rightC ⟨1, kd, ln, sz, ps, sg, db, [], 0⟩ = true) : bytesC ⟨1, kd, ln, sz, ps, sg, db, [], 0⟩ = headS 1 kd ln sz ++ (bytesW 2 ps ++ bytesW 2 [sg, db]) := by
  have hw := bytesC_ok h
  rcases rightC_iff.1 h with h0 | ⟨hh, ho | ht⟩
  · injection h0 with h0; cases h0
  · obtain ⟨h1, h2, h3⟩ := headB_iff.1 hh
    obtain ⟨e1, e2, e3, e4, e5, e6, e7, e8⟩ := oneB_iff.1 ho
    simp only at h1 h2 h3 e2 e3 e4 e5 e6
    have g5 := blkB_iff.1 e5
    have g6 := blkB_iff.1 e6
    rw [headS_eq (by omega) (by omega) (by omega) (by omega), bytesW_eq (l := ps) (by decide) (fun x hx => by have := blkB_iff.1 (e4 x hx); simp [fitB, mostOf]; omega), bytesW_eq (l := [sg, db]) (by decide) (by simp [fitB, mostOf]; omega), nums_append, nums_append]
    unfold bytesC
    rw [hw]
    apply nums_inj
    obtain ⟨a, b, c, d, rfl⟩ := four e3
    simp [encTo, widthsC, valuesC]
  · have := (twoB_iff.1 ht).1; simp only at this; omega
set_option maxRecDepth 100000 in
theorem two_parts {kd ln sz ov : Int} {rs : List Sp} (h : rightC ⟨2, kd, ln, sz, [], 0, 0, rs, ov⟩ = true) : bytesC ⟨2, kd, ln, sz, [], 0, 0, rs, ov⟩ = accS 2 kd ln sz rs 3 ++ bytesW 2 [ov] := by
  have hw := bytesC_ok h
  rcases rightC_iff.1 h with h0 | ⟨hh, ho | ht⟩
  · injection h0 with h0; cases h0
  · have := (oneB_iff.1 ho).1; simp only at this; omega
  · obtain ⟨h1, h2, h3⟩ := headB_iff.1 hh
    obtain ⟨e1, e2, e3, e4, e5, e6, e7, e8, e9⟩ := twoB_iff.1 ht
    simp only at h1 h2 h3 e2 e3 e5 e6
    have g5 := blkB_iff.1 e5
    have r0 := run_fit e6 0
    have r1 := run_fit e6 1
    have r2 := run_fit e6 2
    unfold accS accS accS accS runI
    unfold bytesC
    rw [hw]
    have hv : valuesC ⟨2, kd, ln, sz, [], 0, 0, rs, ov⟩ = [2, kd, ln, sz, (rs.length : Int), (rs.getD 0 Sp.z).at_, (rs.getD 0 Sp.z).st, (rs.getD 0 Sp.z).len, (rs.getD 1 Sp.z).at_, (rs.getD 1 Sp.z).st, (rs.getD 1 Sp.z).len, (rs.getD 2 Sp.z).at_, (rs.getD 2 Sp.z).st, (rs.getD 2 Sp.z).len, ov] := by
      simp [valuesC, runI]
    rw [hv]
    generalize rs.getD 0 Sp.z = s0 at *
    generalize rs.getD 1 Sp.z = s1 at *
    generalize rs.getD 2 Sp.z = s2 at *
    rw [headS_eq (by omega) (by omega) (by omega) (by omega), bytesW_eq (l := [(rs.length : Int)]) (by decide) (by simp [fitB, mostOf]; omega), bytesW_eq (l := [ov]) (by decide) (by simp [fitB, mostOf]; omega),
      bytesW_eq (l := [s0.at_, s0.st, s0.len]) (by decide) (by simp [fitB, mostOf]; omega), bytesW_eq (l := [s1.at_, s1.st, s1.len]) (by decide) (by simp [fitB, mostOf]; omega), bytesW_eq (l := [s2.at_, s2.st, s2.len]) (by decide) (by simp [fitB, mostOf]; omega), nums_append, nums_append, nums_append, nums_append, nums_append]
    apply nums_inj
    simp [encTo, widthsC]
set_option maxRecDepth 100000 in
theorem headS_size (fm kd ln sz : Int) : (headS fm kd ln sz).size ≤ 16 := by
  unfold headS
  rw [ByteArray.size_append, ByteArray.size_append]
  have h1 := bytesW_size (z := 1) (l := [fm, kd])
  have h2 := bytesW_size (z := 2) (l := [ln])
  have h3 := bytesW_size (z := 4) (l := [sz])
  simp only [List.length_cons, List.length_nil] at h1 h2 h3
  omega
set_option maxRecDepth 100000 in
theorem accS_size (fm kd ln sz : Int) (rs : List Sp) (j : Nat) : (accS fm kd ln sz rs j).size ≤ 20 + 12 * j := by
  induction j with
  | zero =>
    unfold accS
    rw [ByteArray.size_append]
    have h1 := headS_size fm kd ln sz
    have h2 := bytesW_size (z := 1) (l := [(rs.length : Int)])
    simp only [List.length_cons, List.length_nil] at h2
    omega
  | succ j ih =>
    unfold accS
    rw [ByteArray.size_append]
    have h2 := bytesW_size (z := 2) (l := runI rs j)
    simp only [runI, List.length_cons, List.length_nil] at h2
    unfold runI
    omega
set_option maxRecDepth 100000 in
/-- the bytes, padded by zeros. -/
theorem write_zeros {c : Cd} (h : rightC c = true) : writeC c = (bytesC c ++ (⟨(List.replicate (32 - (bytesC c).size) (0 : UInt8)).toArray⟩ : ByteArray), 0) := by
  rw [writeC_ok h, pad_add]
end Go.Proofs.YtgdlfiejjnjcpaaGreat

namespace Go.Proofs.YtgdlfiejjnjcpaaGreat
open Go.RowKit

def newC (f kd : Int) : Cd × Int :=
  if (decide (kd = 1) || decide (kd = 2)) = true then
    (if f = 1 then (⟨1, kd, 1, 0, [0, 0, 0, 0], 0, 0, [], 0⟩, 0) else if f = 2 then (⟨2, kd, 1, 0, [], 0, 0, [], 0⟩, 0) else (zeroC, 1))
  else (zeroC, 1)

set_option maxRecDepth 100000 in
theorem make4 (W : World) : (Instr.makeSlice 27 (.int .i64 4) (.int .i64 4)).run Tryz.prog W = .ok (.slice (some ⟨W.heap.size, 0, none⟩) 4 4) (W.alloc (.cells #[.int .i64 0, .int .i64 0, .int .i64 0, .int .i64 0] 3)) := by
  obtain ⟨i0, hi, hz0, hz1, hz2⟩ := info_parts Tryz.info3
  have h := run_make (P := Tryz.prog) W 27 3 i0 (.int .i64 0) Tryz.underlying27 hi hz0 .i64 .i64 (4 : Int) (4 : Int) (by omega) (by omega) (by rw [hz2]; decide) (by omega)
  have e : madeCells (Value.int .i64 0).cells (4 * i0.size) = #[.int .i64 0, .int .i64 0, .int .i64 0, .int .i64 0] := by
    apply Array.toList_inj.1
    have e1 : (Value.int .i64 0).cells = #[.int .i64 0] := rfl
    rw [hz1, Nat.mul_one, e1, toList_madeCells_one]
    rfl
  rw [← e]
  simpa using h
set_option maxRecDepth 100000 in
theorem four0 (W : World) : IntsAt (W.alloc (.cells #[.int .i64 0, .int .i64 0, .int .i64 0, .int .i64 0] 3)) (W.heap.size + 1) (some ⟨W.heap.size, 0, none⟩) 4 [0, 0, 0, 0] :=
  ints_new (w := W) [0, 0, 0, 0] (by decide)

end Go.Proofs.YtgdlfiejjnjcpaaGreat
