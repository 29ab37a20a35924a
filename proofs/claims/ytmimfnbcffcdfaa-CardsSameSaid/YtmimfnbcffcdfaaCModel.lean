/-
  PLAIN MATHEMATICS of layer 9's cards: which are valid (rightC), their bytes (writeC), the card of any bytes (readC); what was written is read. Nothing of the program is named here; no condition.
-/
import Derived.Test.YtmimfnbcffcdfaaPad
import Derived.Test.YtmimfnbcffcdfaaPlainC
import Derived.Test.YtmimfnbcffcdfaaSPlain
namespace Go.Proofs.Ytmimfnbcffcdfaa
open Go.RowKit

structure Cd where
  fm : Int
  kd : Int
  ln : Int
  sz : Int
  ps : List Int
  sg : Int
  db : Int
  rs : List Sp
  ov : Int
def zeroC : Cd := ⟨0, 0, 0, 0, [], 0, 0, [], 0⟩
def blkB (z : Int) : Bool := decide (0 ≤ z) && decide (z ≤ 65535)
def headB (c : Cd) : Bool := (decide (c.kd = 1) || decide (c.kd = 2)) && (decide (1 ≤ c.ln) && decide (c.ln ≤ 200))
def oneB (c : Cd) : Bool := decide (c.fm = 1) && (decide (0 ≤ c.sz) && decide (c.sz ≤ 9728)) && decide (c.ps.length = 4) && c.ps.all blkB && blkB c.sg && blkB c.db && decide (c.rs.length = 0) && decide (c.ov = 0)
def twoB (c : Cd) : Bool := decide (c.fm = 2) && (decide (0 ≤ c.sz) && decide (c.sz ≤ 15360)) && decide (c.rs.length ≤ 3) && (decide (c.ov = 0) || decide (3 ≤ c.rs.length)) && blkB c.ov && rightL none c.rs && decide (c.ps.length = 0) && decide (c.sg = 0) && decide (c.db = 0)
def isZ (c : Cd) : Bool := decide (c.fm = 0) && decide (c.kd = 0) && decide (c.ln = 0) && decide (c.sz = 0) && decide (c.ps.length = 0) && decide (c.sg = 0) && decide (c.db = 0) && decide (c.rs.length = 0) && decide (c.ov = 0)
def rightC (c : Cd) : Bool := isZ c || (headB c && (oneB c || twoB c))

theorem isZ_iff {c : Cd} : isZ c = true ↔ c = zeroC := by
  obtain ⟨a, b, d, e, f, g, h, i, j⟩ := c
  simp [isZ, zeroC, and_assoc]
theorem blkB_iff {z : Int} : blkB z = true ↔ 0 ≤ z ∧ z ≤ 65535 := by simp [blkB]
theorem headB_iff {c : Cd} : headB c = true ↔ (c.kd = 1 ∨ c.kd = 2) ∧ 1 ≤ c.ln ∧ c.ln ≤ 200 := by simp [headB]
theorem oneB_iff {c : Cd} : oneB c = true ↔ c.fm = 1 ∧ (0 ≤ c.sz ∧ c.sz ≤ 9728) ∧ c.ps.length = 4 ∧ (∀ z ∈ c.ps, blkB z = true) ∧ blkB c.sg = true ∧ blkB c.db = true ∧ c.rs = [] ∧ c.ov = 0 := by
  simp [oneB, and_assoc]
theorem twoB_iff {c : Cd} : twoB c = true ↔ c.fm = 2 ∧ (0 ≤ c.sz ∧ c.sz ≤ 15360) ∧ c.rs.length ≤ 3 ∧ (c.ov = 0 ∨ 3 ≤ c.rs.length) ∧ blkB c.ov = true ∧ rightL none c.rs = true ∧ c.ps = [] ∧ c.sg = 0 ∧ c.db = 0 := by
  simp [twoB, and_assoc]
theorem rightC_iff {c : Cd} : rightC c = true ↔ c = zeroC ∨ (headB c = true ∧ (oneB c = true ∨ twoB c = true)) := by
  simp [rightC, isZ_iff]

def widthsC (f : Int) : List Int := if f = 1 then [1, 1, 2, 4, 2, 2, 2, 2, 2, 2] else if f = 2 then [1, 1, 2, 4, 1, 2, 2, 2, 2, 2, 2, 2, 2, 2, 2] else []
theorem widthsC1 : widthsC 1 = [1, 1, 2, 4, 2, 2, 2, 2, 2, 2] := rfl
theorem widthsC2 : widthsC 2 = [1, 1, 2, 4, 1, 2, 2, 2, 2, 2, 2, 2, 2, 2, 2] := rfl
theorem widthsC0 {f : Int} (h1 : f ≠ 1) (h2 : f ≠ 2) : widthsC f = [] := by simp [widthsC, h1, h2]
/-- the three fields of run number k, zero where there is none. -/
def runI (rs : List Sp) (k : Nat) : List Int := [(rs.getD k Sp.z).at_, (rs.getD k Sp.z).st, (rs.getD k Sp.z).len]
def valuesC (c : Cd) : List Int :=
  if c.fm = 1 then [c.fm, c.kd, c.ln, c.sz] ++ c.ps ++ [c.sg, c.db]
  else if c.fm = 2 then [c.fm, c.kd, c.ln, c.sz] ++ [(c.rs.length : Int)] ++ runI c.rs 0 ++ runI c.rs 1 ++ runI c.rs 2 ++ [c.ov]
  else []
def bytesC (c : Cd) : ByteArray := strOfNums (writeR (widthsC c.fm) (valuesC c)).1
def writeC (c : Cd) : ByteArray × Int := if rightC c = true then (padS (bytesC c) 32, 0) else (⟨#[]⟩, 1)

theorem sp_cases {l : List Sp} (h : l.length ≤ 3) : l = [] ∨ (∃ a, l = [a]) ∨ (∃ a b, l = [a, b]) ∨ (∃ a b c, l = [a, b, c]) := by
  match l, h with
  | [], _ => exact Or.inl rfl
  | [a], _ => exact Or.inr (Or.inl ⟨a, rfl⟩)
  | [a, b], _ => exact Or.inr (Or.inr (Or.inl ⟨a, b, rfl⟩))
  | [a, b, c], _ => exact Or.inr (Or.inr (Or.inr ⟨a, b, c, rfl⟩))
theorem four {l : List Int} (h : l.length = 4) : ∃ a b c d, l = [a, b, c, d] := by
  match l, h with
  | [a, b, c, d], _ => exact ⟨a, b, c, d, rfl⟩
/-- each field of a run of valid ones fits two bytes; of none it is zero. -/
theorem run_fit {l : List Sp} (h : rightL none l = true) (k : Nat) : (0 ≤ (l.getD k Sp.z).at_ ∧ (l.getD k Sp.z).at_ ≤ 65535) ∧ (0 ≤ (l.getD k Sp.z).st ∧ (l.getD k Sp.z).st ≤ 65535) ∧ (0 ≤ (l.getD k Sp.z).len ∧ (l.getD k Sp.z).len ≤ 65535) := by
  have all : ∀ (l : List Sp) (p : Option Sp), rightL p l = true → ∀ s ∈ l, inB s = true := by
    intro l
    induction l with
    | nil => intro p _ s hs; cases hs
    | cons a r ih =>
      intro p hp s hs
      simp only [rightL, Bool.and_eq_true] at hp
      rcases List.mem_cons.1 hs with rfl | hs
      · exact fitsB_in hp.1
      · exact ih _ hp.2 s hs
  rcases Nat.lt_or_ge k l.length with hl | hl
  · have := inB_iff.1 (all l none h _ (List.getElem_mem hl))
    simp only [List.getD, List.getElem?_eq_getElem hl, Option.getD_some]
    omega
  · simp [List.getD, List.getElem?_eq_none hl, Sp.z]

theorem okTo1 : okTo [1, 1, 2, 4, 2, 2, 2, 2, 2, 2] 10 = true := by decide
theorem okTo2 : okTo [1, 1, 2, 4, 1, 2, 2, 2, 2, 2, 2, 2, 2, 2, 2] 15 = true := by decide

/-- A VALID CARD'S VALUES FIT ITS WIDTHS. -/
theorem fits_right {c : Cd} (h : rightC c = true) : (widthsC c.fm).length = (valuesC c).length ∧ okTo (widthsC c.fm) (widthsC c.fm).length = true ∧ fitTo (widthsC c.fm) (valuesC c) (widthsC c.fm).length = true := by
  rcases rightC_iff.1 h with rfl | ⟨hh, ho | ht⟩
  · exact ⟨rfl, rfl, rfl⟩
  · obtain ⟨h1, h2, h3⟩ := headB_iff.1 hh
    obtain ⟨e1, e2, e3, e4, e5, e6, e7, e8⟩ := oneB_iff.1 ho
    obtain ⟨fm, kd, ln, sz, ps, sg, db, rs, ov⟩ := c
    simp only at *
    obtain ⟨a, b, c, d, rfl⟩ := four e3
    subst e1
    have := blkB_iff.1 (e4 a (by simp))
    have := blkB_iff.1 (e4 b (by simp))
    have := blkB_iff.1 (e4 c (by simp))
    have := blkB_iff.1 (e4 d (by simp))
    have := blkB_iff.1 e5
    have := blkB_iff.1 e6
    refine ⟨rfl, okTo1, ?_⟩
    simp [widthsC, valuesC, fitTo, fitB, mostOf]
    omega
  · obtain ⟨h1, h2, h3⟩ := headB_iff.1 hh
    obtain ⟨e1, e2, e3, e4, e5, e6, e7, e8, e9⟩ := twoB_iff.1 ht
    obtain ⟨fm, kd, ln, sz, ps, sg, db, rs, ov⟩ := c
    simp only at *
    subst e1
    have r0 := run_fit e6 0
    have r1 := run_fit e6 1
    have r2 := run_fit e6 2
    have := blkB_iff.1 e5
    refine ⟨rfl, okTo2, ?_⟩
    simp only [widthsC, valuesC, runI]
    generalize rs.getD 0 Sp.z = s0 at *
    generalize rs.getD 1 Sp.z = s1 at *
    generalize rs.getD 2 Sp.z = s2 at *
    simp [fitTo, fitB, mostOf]
    omega

theorem nums_append (a b : List Int) : strOfNums a ++ strOfNums b = strOfNums (a ++ b) := by
  apply ByteArray.ext
  simp [strOfNums]
theorem strOfNums_size (l : List Int) : (strOfNums l).size = l.length := by simp [strOfNums, ByteArray.size]
theorem bytesOf_nums (l : List Int) (h : ∀ b ∈ l, 0 ≤ b ∧ b ≤ 255) : bytesOf (strOfNums l) = l := by
  simp only [bytesOf, strOfNums]
  rw [List.map_map]
  refine (List.map_congr_left fun b hb => ?_).trans (List.map_id _)
  have := h b hb
  show ((UInt8.ofNat b.toNat).toNat : Int) = b
  rw [UInt8.toNat_ofNat']
  omega
theorem bytesOf_pad (s : ByteArray) (n : Nat) : bytesOf (padS s n) = bytesOf s ++ List.replicate (n - s.size) 0 := by
  simp [bytesOf, padS]
theorem size_pad (s : ByteArray) {n : Nat} (h : s.size ≤ n) : (padS s n).size = n := by
  have : s.data.toList.length = s.size := by rw [Array.length_toList]; rfl
  show (s.data.toList ++ List.replicate (n - s.size) 0).toArray.size = n
  rw [List.size_toArray, List.length_append, List.length_replicate, this]
  omega

theorem bytesC_ok {c : Cd} (h : rightC c = true) : (writeR (widthsC c.fm) (valuesC c)) = (encTo (widthsC c.fm) (valuesC c) (widthsC c.fm).length, 0) :=
  have ⟨h1, h2, h3⟩ := fits_right h
  writeR_ok h2 h1 h3
theorem sumTo_c (f : Int) : sumTo (widthsC f) (widthsC f).length ≤ 29 := by
  by_cases h1 : f = 1
  · subst h1; decide
  · by_cases h2 : f = 2
    · subst h2; decide
    · rw [widthsC0 h1 h2]; decide
theorem bytesC_len {c : Cd} (h : rightC c = true) : (bytesC c).size ≤ 29 := by
  have h2 := (fits_right h).2.1
  have h3 := encTo_len (widthsC c.fm) (valuesC c) _ h2
  have h4 := sumTo_c c.fm
  rw [bytesC, strOfNums_size, bytesC_ok h]
  show (encTo (widthsC c.fm) (valuesC c) (widthsC c.fm).length).length ≤ 29
  omega
theorem writeC_size {c : Cd} (h : rightC c = true) : (writeC c).1.size = 32 := by
  unfold writeC; rw [if_pos h]
  exact size_pad _ (by have := bytesC_len h; omega)

/-- the run number k of the bytes bs. -/
def runD (bs : List Int) (k : Nat) : Sp := ⟨decF bs (9 + 6 * k) 2, decF bs (11 + 6 * k) 2, decF bs (13 + 6 * k) 2⟩
def runsD (bs : List Int) (n : Nat) : List Sp := (List.range n).map (runD bs)
/-- how many runs the bytes bs have, at most three. -/
def cntD (bs : List Int) : Nat := (min (decF bs 8 1) 3).toNat
/-- the card that the bytes bs are of, if they are of one. -/
def cardD (bs : List Int) : Cd :=
  if decF bs 0 1 = 1 then ⟨1, decF bs 1 1, decF bs 2 2, decF bs 4 4, [decF bs 8 2, decF bs 10 2, decF bs 12 2, decF bs 14 2], decF bs 16 2, decF bs 18 2, [], 0⟩
  else if decF bs 0 1 = 2 then ⟨2, decF bs 1 1, decF bs 2 2, decF bs 4 4, [], 0, 0, runsD bs (cntD bs), decF bs 27 2⟩
  else zeroC
def readC (s : ByteArray) : Cd × Int := if s.size = 32 ∧ writeC (cardD (bytesOf s)) = (s, 0) then (cardD (bytesOf s), 0) else (zeroC, 15)

theorem vals_back {ws vs ms : List Int} {n : Nat} (hn : ws.length = n) (ho : okTo ws n = true) (hl : n = vs.length) (hf : fitTo ws vs n = true) {k : Nat} (hk : k < n) :
    decF (encTo ws vs n ++ ms) (sumTo ws k).toNat (ws.getD k 0).toNat = vs.getD k 0 := by
  subst hn
  have h := read_written ws vs ms ho hl hf
  have g := readTo_get ws (encTo ws vs ws.length ++ ms) ws.length k hk
  rw [h] at g
  exact g.symm

theorem enc_bytes {ws vs : List Int} (h : (writeR ws vs) = (encTo ws vs ws.length, 0)) : ∀ b ∈ encTo ws vs ws.length, 0 ≤ b ∧ b ≤ 255 := by
  have := writeR_bytes ws vs
  rw [h] at this
  exact this

/-- WHAT WAS WRITTEN IS READ. -/
theorem card_back {c : Cd} (h : rightC c = true) : cardD (bytesOf (writeC c).1) = c := by
  unfold writeC; rw [if_pos h]
  obtain ⟨h1, h2, h3⟩ := fits_right h
  have hw := bytesC_ok h
  show cardD (bytesOf (padS (bytesC c) 32)) = c
  rw [bytesOf_pad, bytesC, hw, bytesOf_nums _ (enc_bytes hw)]
  rcases rightC_iff.1 h with rfl | ⟨hh, ho | ht⟩
  · rfl
  all_goals generalize List.replicate (32 - (strOfNums (encTo (widthsC c.fm) (valuesC c) (widthsC c.fm).length, (0 : Int)).1).size) (0 : Int) = ms
  · obtain ⟨e1, e2, e3, e4, e5, e6, e7, e8⟩ := oneB_iff.1 ho
    obtain ⟨fm, kd, ln, sz, ps, sg, db, rs, ov⟩ := c
    simp only at *
    obtain ⟨a, b, c, d, rfl⟩ := four e3
    subst e1 e7 e8
    have key := fun k hk => vals_back (ms := ms) rfl h2 h1 h3 (k := k) hk
    generalize encTo (widthsC 1) (valuesC ⟨1, kd, ln, sz, [a, b, c, d], sg, db, [], 0⟩) (widthsC 1).length ++ ms = bs at *
    have k0 : decF bs 0 1 = 1 := key 0 (by decide)
    have k1 : decF bs 1 1 = kd := key 1 (by decide)
    have k2 : decF bs 2 2 = ln := key 2 (by decide)
    have k3 : decF bs 4 4 = sz := key 3 (by decide)
    have k4 : decF bs 8 2 = a := key 4 (by decide)
    have k5 : decF bs 10 2 = b := key 5 (by decide)
    have k6 : decF bs 12 2 = c := key 6 (by decide)
    have k7 : decF bs 14 2 = d := key 7 (by decide)
    have k8 : decF bs 16 2 = sg := key 8 (by decide)
    have k9 : decF bs 18 2 = db := key 9 (by decide)
    unfold cardD
    rw [if_pos k0, k1, k2, k3, k4, k5, k6, k7, k8, k9]
  · obtain ⟨e1, e2, e3, e4, e5, e6, e7, e8, e9⟩ := twoB_iff.1 ht
    obtain ⟨fm, kd, ln, sz, ps, sg, db, rs, ov⟩ := c
    simp only at *
    subst e1 e7 e8 e9
    have key := fun k hk => vals_back (ms := ms) rfl h2 h1 h3 (k := k) hk
    generalize hbs : encTo (widthsC 2) (valuesC ⟨2, kd, ln, sz, [], 0, 0, rs, ov⟩) (widthsC 2).length ++ ms = bs at *
    have k0 : decF bs 0 1 = 2 := key 0 (by decide)
    have k1 : decF bs 1 1 = kd := key 1 (by decide)
    have k2 : decF bs 2 2 = ln := key 2 (by decide)
    have k3 : decF bs 4 4 = sz := key 3 (by decide)
    have k4 : decF bs 8 1 = (rs.length : Int) := key 4 (by decide)
    have k5 : decF bs 9 2 = (rs.getD 0 Sp.z).at_ := key 5 (by decide)
    have k6 : decF bs 11 2 = (rs.getD 0 Sp.z).st := key 6 (by decide)
    have k7 : decF bs 13 2 = (rs.getD 0 Sp.z).len := key 7 (by decide)
    have k8 : decF bs 15 2 = (rs.getD 1 Sp.z).at_ := key 8 (by decide)
    have k9 : decF bs 17 2 = (rs.getD 1 Sp.z).st := key 9 (by decide)
    have k10 : decF bs 19 2 = (rs.getD 1 Sp.z).len := key 10 (by decide)
    have k11 : decF bs 21 2 = (rs.getD 2 Sp.z).at_ := key 11 (by decide)
    have k12 : decF bs 23 2 = (rs.getD 2 Sp.z).st := key 12 (by decide)
    have k13 : decF bs 25 2 = (rs.getD 2 Sp.z).len := key 13 (by decide)
    have k14 : decF bs 27 2 = ov := key 14 (by decide)
    have hc : cntD bs = rs.length := by unfold cntD; rw [k4]; omega
    unfold cardD
    rw [if_neg (by rw [k0]; decide), if_pos k0, k1, k2, k3, k14, hc]
    clear key hbs
    have : runsD bs rs.length = rs := by
      rcases sp_cases e3 with rfl | ⟨a, rfl⟩ | ⟨a, b, rfl⟩ | ⟨a, b, c, rfl⟩
      · rfl
      · simp [List.getD] at k5 k6 k7
        simp [runsD, List.range, List.range.loop, runD, k5, k6, k7]
      · simp [List.getD] at k5 k6 k7 k8 k9 k10
        simp [runsD, List.range, List.range.loop, runD, k5, k6, k7, k8, k9, k10]
      · simp [List.getD] at k5 k6 k7 k8 k9 k10 k11 k12 k13
        simp [runsD, List.range, List.range.loop, runD, k5, k6, k7, k8, k9, k10, k11, k12, k13]
    rw [this]

theorem read_back {c : Cd} (h : rightC c = true) : readC (writeC c).1 = (c, 0) := by
  have hb := card_back h
  have hw : writeC c = ((writeC c).1, 0) := by unfold writeC; rw [if_pos h]
  unfold readC
  rw [hb, if_pos ⟨writeC_size h, hw⟩]
theorem read_ok {s : ByteArray} (h : (readC s).2 = 0) : writeC (readC s).1 = (s, 0) := by
  unfold readC at h ⊢
  split
  · rename_i hc; exact hc.2
  · rename_i hc; rw [if_neg hc] at h; cases h
end Go.Proofs.Ytmimfnbcffcdfaa
