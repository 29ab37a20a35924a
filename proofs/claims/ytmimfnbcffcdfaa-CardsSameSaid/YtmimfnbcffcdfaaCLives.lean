/-
  WALK: lives, the head of each law of layer 9: a new file's card is written as the document says, and read again. No condition.
-/
import Derived.Test.YtmimfnbcffcdfaaCRead2
import Derived.Test.YtmimfnbcffcdfaaCNew
namespace Go.Proofs.Ytmimfnbcffcdfaa
open Go.RowKit

def c11 : Cd := ⟨1, 1, 1, 0, [0, 0, 0, 0], 0, 0, [], 0⟩
def z28 : ByteArray := ⟨(List.replicate 28 (0 : UInt8)).toArray⟩
def s11 : ByteArray := (⟨#[1, 1, 1, 0]⟩ : ByteArray) ++ z28
theorem new11 : newC 1 1 = (c11, 0) := rfl
theorem right11 : rightC c11 = true := by decide +kernel
theorem write11 : writeC c11 = (s11, 0) := by
  unfold writeC
  rw [if_pos right11]
  decide +kernel
theorem read11 : readC s11 = (c11, 0) := by
  have h := read_back right11
  rw [write11] at h
  exact h

set_option maxHeartbeats 2000000 in
theorem lives_any (w : World) : Calls Try.prog 8 #[] w fun e w' => e = .returned (.bool true) ∧ Below w.heap.size w w' := by
  have HN : Hid (∀ v : World, Calls Try.prog 17 #[.int .i64 1, .int .i64 1] v (RetCE v c11 0)) := fun v => by
    have h := new_any 1 1 v (by decide) (by decide)
    rwa [new11] at h
  have HW : Hid (∀ (v : Value) (B : Nat) (u : World), CdAt u B v c11 → B ≤ u.heap.size → Calls Try.prog 9 #[v] u fun e w' => e = .returned (.tuple #[.string ((⟨#[1, 1, 1, 0]⟩ : ByteArray) ++ z28), .int .i64 0]) ∧ Below u.heap.size u w') := fun v B u hc hB => by
    have h := write9_any v c11 B u hc hB
    rwa [write11] at h
  have HRD : Hid (∀ v : World, Calls Try.prog 13 #[.string ((⟨#[1, 1, 1, 0]⟩ : ByteArray) ++ z28)] v (RetCE v c11 0)) := fun v => by
    have h := read9_any s11 v (by decide +kernel)
    rwa [read11] at h
  have HZ : Hid (∀ v : World, Calls Try.prog 21 #[.int .i64 28] v fun e w' => e = .returned (.string z28) ∧ Below v.heap.size v w') := fun v => zeros_any 28 v (by omega)
  have HS : Hid (∀ (v v' : Value) (B : Nat) (u : World), CdAt u B v c11 → CdAt u B v' c11 → B ≤ u.heap.size → Calls Try.prog 16 #[v, v'] u fun e w' => e = .returned (.bool true) ∧ Below u.heap.size u w') :=
    fun v v' B u h1 h2 hB => same_any v v' c11 c11 B true u (by simp) h1 h2 hB
  have HRT : Hid (∀ (v : Value) (B : Nat) (u : World), CdAt u B v c11 → B ≤ u.heap.size → Calls Try.prog 11 #[v] u fun e w' => e = .returned (.bool true) ∧ Below u.heap.size u w') :=
    fun v B u hc hB => rightc_any v c11 B true u right11 hc hB
  have hz : z28.size ≤ 28 := by decide +kernel
  have hz4 : ¬ 9223372036854775807 < 4 + z28.size := by omega
  generalize z28 = zs at *
  have HLN : Hid (c11.ln = 1) := rfl
  generalize c11 = c at *
  go_enter Try.func8, Try.ntmps8
  go_wp2_with fail
  refine (HN.out _).mono ?_
  rintro e w1 ⟨v1, rfl, hc1, b1⟩
  obtain ⟨A, n, k, A', n', k', rfl, i1, s1, bn, bn', f1⟩ := hc1
  have HC1 : Hid (CdAt w1 w1.heap.size (cdv c A n k A' n' k') c) := ⟨A, n, k, A', n', k', rfl, i1, s1, bn, bn', f1⟩
  have HB1 := Lib.hid b1
  clear b1 i1 s1 bn bn' f1
  go_upto_region 2 with fail
  have HG2 : Hid (CdRow (w1.alloc (.cells (cells9 c A n k A' n' k') 25)) w1.heap.size c A n k A' n' k') := CdRow.new w1 c A n k A' n' k'
  have b2 : Below w1.heap.size w1 (w1.alloc (.cells (cells9 c A n k A' n' k') 25)) := (Below.refl _ _).alloc (Nat.le_refl _) _
  have HC2 := Lib.hid ((HC1.out.below b2 (Nat.le_refl _)).more b2.size)
  have HB2 := Lib.hid (HB1.out.trans (b2.mono HB1.out.size))
  clear b2 HC1 HB1
  unfold cells9 at HG2 HC2 HB2
  generalize w1.alloc (.cells #[.int .i64 c.fm, .int .i64 c.kd, .int .i64 c.ln, .int .i64 c.sz, .slice A n k, .int .i64 c.sg, .int .i64 c.db, .slice A' n' k', .int .i64 c.ov] 25) = w2 at *
  generalize w1.heap.size = g at *
  obtain ⟨e0, e1, e2, e3, e4, e5, e6, e7, e8⟩ := HG2.out.cells
  go_wp2_with fail
  refine (HW.out _ _ _ HC2.out (Nat.le_refl _)).mono ?_
  rintro e w3 ⟨rfl, b3⟩
  have HG3 := Lib.hid (HG2.out.below b3 HG2.out.lt)
  have HC3 := Lib.hid ((HC2.out.below b3 (Nat.le_refl _)).more b3.size)
  have HB3 := Lib.hid (HB2.out.trans (b3.mono HB2.out.size))
  clear b3 e0 e1 e2 e3 e4 e5 e6 e7 e8 HG2 HC2 HB2
  go_wp2_with fail
  refine (HZ.out _).mono ?_
  rintro e w4 ⟨rfl, b4⟩
  have HG4 := Lib.hid (HG3.out.below b4 HG3.out.lt)
  have HC4 := Lib.hid ((HC3.out.below b4 (Nat.le_refl _)).more b4.size)
  have HB4 := Lib.hid (HB3.out.trans (b4.mono HB3.out.size))
  clear b4 HG3 HC3 HB3
  go_wp2_with fail
  refine (HRD.out _).mono ?_
  rintro e w5 ⟨v5, rfl, hc5, b5⟩
  obtain ⟨C, m, l, C', m', l', rfl, i5, s5, bm, bm', f5⟩ := hc5
  have HD5 : Hid (CdAt w5 w5.heap.size (cdv c C m l C' m' l') c) := ⟨C, m, l, C', m', l', rfl, i5, s5, bm, bm', f5⟩
  have HG5 := Lib.hid (HG4.out.below b5 HG4.out.lt)
  have HC5 := Lib.hid ((HC4.out.below b5 (Nat.le_refl _)).more b5.size)
  have HB5 := Lib.hid (HB4.out.trans (b5.mono HB4.out.size))
  clear b5 HG4 HC4 HB4 i5 s5 bm bm' f5
  go_upto_region 4 with fail
  have HE6 : Hid (CdRow (w5.alloc (.cells (cells9 c C m l C' m' l') 25)) w5.heap.size c C m l C' m' l') := CdRow.new w5 c C m l C' m' l'
  have b6 : Below w5.heap.size w5 (w5.alloc (.cells (cells9 c C m l C' m' l') 25)) := (Below.refl _ _).alloc (Nat.le_refl _) _
  have HG6 := Lib.hid (HG5.out.below b6 HG5.out.lt)
  have HC6 := Lib.hid ((HC5.out.below b6 (Nat.le_refl _)).more b6.size)
  have HD6 := Lib.hid ((HD5.out.below b6 (Nat.le_refl _)).more b6.size)
  have HB6 := Lib.hid (HB5.out.trans (b6.mono HB5.out.size))
  clear b6 HG5 HC5 HB5 HD5
  unfold cells9 at HE6 HG6 HC6 HB6 HD6
  generalize w5.alloc (.cells #[.int .i64 c.fm, .int .i64 c.kd, .int .i64 c.ln, .int .i64 c.sz, .slice C m l, .int .i64 c.sg, .int .i64 c.db, .slice C' m' l', .int .i64 c.ov] 25) = w6 at *
  generalize w5.heap.size = g' at *
  go_wp2_with fail
  refine (HZ.out _).mono ?_
  rintro e w7 ⟨rfl, b7⟩
  have HE7 := Lib.hid (HE6.out.below b7 HE6.out.lt)
  have HG7 := Lib.hid (HG6.out.below b7 HG6.out.lt)
  have HC7 := Lib.hid ((HC6.out.below b7 (Nat.le_refl _)).more b7.size)
  have HD7 := Lib.hid ((HD6.out.below b7 (Nat.le_refl _)).more b7.size)
  have HB7 := Lib.hid (HB6.out.trans (b7.mono HB6.out.size))
  clear b7 HE6 HG6 HC6 HD6 HB6
  obtain ⟨e0, e1, e2, e3, e4, e5, e6, e7, e8⟩ := HG7.out.cells
  obtain ⟨q0, q1, q2, q3, q4, q5, q6, q7, q8⟩ := HE7.out.cells
  go_wp2_with fail
  refine (HS.out _ _ _ _ HC7.out HD7.out (Nat.le_refl _)).mono ?_
  rintro e w8 ⟨rfl, b8⟩
  have HE8 := Lib.hid (HE7.out.below b8 HE7.out.lt)
  have HG8 := Lib.hid (HG7.out.below b8 HG7.out.lt)
  have HC8 := Lib.hid ((HC7.out.below b8 (Nat.le_refl _)).more b8.size)
  have HB8 := Lib.hid (HB7.out.trans (b8.mono HB7.out.size))
  clear b8 e0 e1 e2 e3 e4 e5 e6 e7 e8 q0 q1 q2 q3 q4 q5 q6 q7 q8 HE7 HG7 HC7 HD7 HB7
  obtain ⟨e0, e1, e2, e3, e4, e5, e6, e7, e8⟩ := HG8.out.cells
  obtain ⟨q0, q1, q2, q3, q4, q5, q6, q7, q8⟩ := HE8.out.cells
  rw [HLN.out] at q2
  go_wp2_with fail
  refine (HRT.out _ _ _ HC8.out (Nat.le_refl _)).mono ?_
  rintro e w9 ⟨rfl, b9⟩
  have HB9 := Lib.hid (HB8.out.trans (b9.mono HB8.out.size))
  clear b9
  go_wp2
  go_ret
  exact ⟨rfl, HB9.out⟩
end Go.Proofs.Ytmimfnbcffcdfaa
