/-
  PLAIN MATHEMATICS of a script's step: both alike; crown and marks behind it. No condition.
-/
import Derived.Test.YtbkgfkemjhaopaaGreatFI
set_option linter.unusedVariables false
set_option linter.unusedSimpArgs false
set_option maxRecDepth 100000
set_option maxHeartbeats 4000000
namespace Go.Proofs.YtbkgfkemjhaopaaGreat.Dl
open Go.RowKit
open Mk
open Sl (Turns SlabAt)
open Lg (Ch chCells chsCells FS LogAt Whole setL setL_len ownB bcell z128 newD newD_len newD_whole newD_get SsAt)
open Kr (crv rightK blockK okK kf kb kc KBox cells3 put3 put3_box put3_below marksK bit_marks marks_size I64 inB)

theorem zTo_get {V : List ByteArray} {a i : Nat} (h : i < a) : ∀ k, (zTo V a k).getD i ⟨#[]⟩ = V.getD i ⟨#[]⟩
  | 0 => rfl
  | k + 1 => by rw [zTo, getD_set2, if_neg (by omega)]; exact zTo_get h k
/-- V has a crown of b blocks and the marks m. -/
structure Crd (V : List ByteArray) (b : Nat) (m : ByteArray) : Prop where
  ok : okCr V = true
  cb : crB V = (b : Int)
  mb : mkB V = m
  sz : m.size = 128
  ln : 42 < V.length
  b1 : 64 ≤ b
  b2 : b ≤ 400
theorem okCr_eq {V W : List ByteArray} (h0 : W.getD 0 ⟨#[]⟩ = V.getD 0 ⟨#[]⟩) (hl : W.length = V.length) : okCr W = okCr V ∧ crB W = crB V := by
  have e : okCr W = okCr V := by unfold okCr; rw [h0, hl]
  refine ⟨e, ?_⟩
  unfold crB
  rw [e, h0]
section
variable {V : List ByteArray} {b : Nat} {m : ByteArray}
theorem Crd.set (h : Crd V b m) {W : List ByteArray} {m' : ByteArray} (h0 : W.getD 0 ⟨#[]⟩ = V.getD 0 ⟨#[]⟩) (hl : W.length = V.length) (hm : mkB W = m') (hz : m'.size = 128) : Crd W b m' := by
  obtain ⟨e1, e2⟩ := okCr_eq h0 hl
  exact ⟨e1.trans h.ok, e2.trans h.cb, hm, hz, by rw [hl]; exact h.ln, h.b1, h.b2⟩
theorem Crd.fn (h : Crd V b m) {n a l : Nat} (hf : IsFnd m b n a l) (hn : 1 ≤ n) : l = (fnV V (n : Int)).2 ∧ (l ≠ 0 → a = (fnV V (n : Int)).1) := by
  have h1 := fnd_is m b n h.sz (by have := h.b2; omega) hn
  have e : fnV V (n : Int) = fndP m b n := by unfold fnV; rw [h.cb, h.mb]
  rw [e]
  exact hf.uniq h1
theorem Crd.bad (h : Crd V b m) {n : Int} (hn : n < 1) : rnE V n = 1 ∧ rnA V n = 0 ∧ rnL V n = 0 ∧ rnV V n = V := by
  have e : rnE V n = 1 := by unfold rnE; rw [if_pos h.ok, if_pos hn]
  unfold rnA rnL rnV
  rw [e]
  exact ⟨rfl, rfl, rfl, rfl⟩
theorem Crd.none (h : Crd V b m) {n a : Nat} (hn : 1 ≤ n) (hf : IsFnd m b n a 0) : rnE V (n : Int) = 10 ∧ rnA V (n : Int) = 0 ∧ rnL V (n : Int) = 0 ∧ rnV V (n : Int) = V := by
  have e : rnE V (n : Int) = 10 := by unfold rnE; rw [if_pos h.ok, if_neg (by omega), if_pos (h.fn hf hn).1.symm]
  unfold rnA rnL rnV
  rw [e]
  exact ⟨rfl, rfl, rfl, rfl⟩
theorem Crd.some (h : Crd V b m) {n a l : Nat} (hn : 1 ≤ n) (hl : l ≠ 0) (hf : IsFnd m b n a l) : rnE V (n : Int) = 0 ∧ rnA V (n : Int) = (a : Int) ∧ rnL V (n : Int) = (l : Int) ∧ Crd (rnV V (n : Int)) b (takeN m a l) := by
  obtain ⟨e1, e2⟩ := h.fn hf hn
  have e2 := e2 hl
  have e : rnE V (n : Int) = 0 := by unfold rnE; rw [if_pos h.ok, if_neg (by omega), if_neg (by rw [← e1]; exact hl)]
  have ha : 51 ≤ a := by
    rcases hf with ⟨e, _⟩ | ⟨_, _, h3, _⟩
    · exact absurd e hl
    · exact h3.1
  unfold rnA rnL rnV
  rw [e]
  simp only [if_pos]
  rw [← e1, ← e2, h.mb]
  refine ⟨trivial, rfl, rfl, ?_⟩
  refine h.set ?_ (by rw [List.length_set, zTo_len]) ?_ (by rw [take_size]; exact h.sz)
  · rw [getD_set2, if_neg (by omega), zTo_get (by omega)]
  · show ((zTo V a l).set 42 (takeN m a l)).getD 42 ⟨#[]⟩ = _
    rw [getD_set2, zTo_len, if_pos ⟨rfl, h.ln⟩]
theorem Crd.own (h : Crd V b m) (i : Int) : ownV V i = (decide (51 ≤ i) && decide (i < b)) := by
  unfold ownV Kr.inB
  rw [h.ok, h.cb, Bool.true_and]
  congr 1
  rw [decide_eq_decide]
  omega
theorem Crd.drop (h : Crd V b m) {i : Nat} (h1 : 51 ≤ i) (h2 : i < b) (hb : bitN m i = true) : dpE V (i : Int) = 0 ∧ Crd (dpV V (i : Int)) b (setN m i false) := by
  have e : dpE V (i : Int) = 0 := by
    unfold dpE
    rw [h.own, decide_eq_true (by omega), decide_eq_true (by omega), h.mb, isB_nat, hb]
    rfl
  refine ⟨e, ?_⟩
  unfold dpV
  rw [if_pos e, h.mb, setR_nat]
  refine h.set (by rw [getD_set2, if_neg (by omega)]) (by rw [List.length_set]) ?_ (by rw [size_setN]; exact h.sz)
  show (V.set 42 (setN m i false)).getD 42 ⟨#[]⟩ = _
  rw [getD_set2, if_pos ⟨rfl, h.ln⟩]
theorem Crd.nodrop (h : Crd V b m) {i : Int} (hn : ¬ ((51 ≤ i ∧ i < b) ∧ bitN m i.toNat = true)) : dpE V i = 15 ∧ dpV V i = V := by
  have e : dpE V i = 15 := by
    unfold dpE
    rw [h.own, h.mb]
    by_cases h1 : 51 ≤ i ∧ i < (b : Int)
    · rw [decide_eq_true h1.1, decide_eq_true h1.2]
      have hb : isB m i = false := by
        obtain ⟨k, rfl⟩ := Int.eq_ofNat_of_zero_le (show 0 ≤ i by omega)
        rw [isB_nat]
        cases hb : bitN m k with
        | false => rfl
        | true => exact absurd ⟨h1, hb⟩ hn
      rw [hb]; rfl
    · have : (decide (51 ≤ i) && decide (i < (b : Int))) = false := by
        rw [Bool.and_eq_false_iff, decide_eq_false_iff_not, decide_eq_false_iff_not]; omega
      rw [this]; rfl
  exact ⟨e, by unfold dpV; rw [if_neg (by rw [e]; decide)]⟩
theorem Crd.free (h : Crd V b m) : frN V = (fcn m b : Nat) ∧ crE V = 0 := by
  refine ⟨?_, cr_ok h.ok⟩
  unfold frN
  rw [if_pos h.ok, h.mb, h.cb, Int.toNat_natCast]
theorem Crd.used (h : Crd V b m) {i : Nat} (h1 : 51 ≤ i) (h2 : i < b) : usB V (i : Int) = bitN m i ∧ usE V (i : Int) = 0 := by
  have e : ownV V (i : Int) = true := by rw [h.own, decide_eq_true (by omega), decide_eq_true (by omega)]; rfl
  unfold usB usE
  rw [e, if_pos h.ok, if_pos rfl, h.mb, isB_nat]
  exact ⟨rfl, rfl⟩
end
/-! ### a new disk -/
theorem mk1_new {n : Nat} : mk1 (n : Int) ⟨#[]⟩ = marksK n := by
  have e : mk0 (n : Int) ⟨#[]⟩ = marksK n := by unfold mk0; exact if_pos (by decide)
  have hz := marks_size (n : Int)
  unfold mk1
  rw [e, show min (marksK (n : Int)).size 128 = (marksK (n : Int)).size by omega]
  exact ByteArray.extract_zero_size
theorem crd_any {n : Nat} (h1 : 64 ≤ n) (h2 : n ≤ 400) (m : ByteArray) : Crd (V0 n m) n (Sl.padS (mk1 n m) 128) :=
  ⟨(V0_cr h1 h2 m).1, (V0_cr h1 h2 m).2, V0_mk h1 h2 m, Lg.size_padS _ _ (mk1_le n m), by rw [V0_len h1 h2]; omega, h1, h2⟩
theorem crd_new {n : Nat} (h1 : 64 ≤ n) (h2 : n ≤ 400) : Crd (V0 n ⟨#[]⟩) n (marksK n) := by
  have h := crd_any h1 h2 ⟨#[]⟩
  rw [mk1_new, Lg.padS_full (marks_size _)] at h
  exact h
theorem bit_new {n t : Nat} (h1 : 51 ≤ t) (h2 : t < n) (h3 : n ≤ 1024) : bitN (marksK n) t = false := by
  rw [bit_marks _ _ (by omega), decide_eq_false_iff_not]; omega
theorem fcn_new (n : Nat) (h3 : n ≤ 1024) : ∀ t, 51 + t ≤ n → fcn (marksK n) (51 + t) = t
  | 0, _ => fcn_low _ _ (Nat.le_refl _)
  | t + 1, h => by
    rw [show 51 + (t + 1) = (51 + t) + 1 by omega, fcn_yes (by omega) (bit_new (by omega) (by omega) h3), fcn_new n h3 t (by omega)]

/-! ### both alike -/
theorem own42 : ownB ((42 : Nat) : Int) = false := by decide
theorem ownHi {i : Nat} (h : 51 ≤ i) : ownB (i : Int) = false := Lg.ownB_f.2 (by omega)
section
variable {N : Nat} {V D now base : List ByteArray}
theorem Agree.mkb (h : Agree N V D now base) (hN : 64 ≤ N) : mkB now = mkB V := h.hnow 42 (by omega) own42
theorem Agree.okc (h : Agree N V D now base) (hV : V.length = N) (hn : now.length = N) (hN : 64 ≤ N) : okCr now = okCr V ∧ crB now = crB V := okCr_eq (h.hnow 0 (by omega) own0) (hn.trans hV.symm)
theorem Agree.zTo (h : Agree N V D now base) (hV : V.length = N) (hn : now.length = N) {a : Nat} (ha : 51 ≤ a) : ∀ k, Agree N (zTo V a k) D (Dl.zTo now a k) base
  | 0 => h
  | k + 1 => (h.zTo hV hn ha k).set (by rw [zTo_len, hV]) (by rw [zTo_len, hn]) (ownHi (by omega)) _
theorem Agree.run (h : Agree N V D now base) (hV : V.length = N) (hn : now.length = N) (hN : 64 ≤ N) (hz : (mkB V).size = 128) (n : Int) :
    rnA now n = rnA V n ∧ rnL now n = rnL V n ∧ rnE now n = rnE V n ∧ Agree N (rnV V n) D (rnV now n) base := by
  have e1 := h.mkb hN
  obtain ⟨e2, e3⟩ := h.okc hV hn hN
  have e4 : fnV now n = fnV V n := by unfold fnV; rw [e1, e3]
  have e5 : rnE now n = rnE V n := by unfold rnE; rw [e2, e4]
  refine ⟨by unfold rnA; rw [e5, e4], by unfold rnL; rw [e5, e4], e5, ?_⟩
  unfold rnV
  rw [e5, e4, e1]
  by_cases he : rnE V n = 0
  · rw [if_pos he, if_pos he]
    have ho : okCr V = true := by
      cases ho : okCr V with
      | true => rfl
      | false => unfold rnE at he; rw [ho] at he; simp at he
    have h1 : ¬ n < 1 := fun h1 => by unfold rnE at he; rw [if_pos ho, if_pos h1] at he; simp at he
    have h2 : (fnV V n).2 ≠ 0 := fun h2 => by unfold rnE at he; rw [if_pos ho, if_neg h1, if_pos h2] at he; simp at he
    obtain ⟨k1, k2, k3, k4⟩ := cr_b ho
    have hf := fnd_is (mkB V) (crB V).toNat n.toNat hz (by omega) (by omega)
    rw [show (((crB V).toNat : Nat) : Int) = crB V by omega, show ((n.toNat : Nat) : Int) = n by omega] at hf
    have ha : 51 ≤ (fnV V n).1 := by
      rcases hf with ⟨e, _⟩ | ⟨_, _, h3, _⟩
      · exact absurd e h2
      · exact h3.1
    exact (h.zTo hV hn ha _).set (by rw [zTo_len, hV]) (by rw [zTo_len, hn]) own42 _
  · rw [if_neg he, if_neg he]
    exact h
theorem Agree.own (h : Agree N V D now base) (hV : V.length = N) (hn : now.length = N) (hN : 64 ≤ N) (i : Int) : ownV now i = ownV V i := by
  obtain ⟨e2, e3⟩ := h.okc hV hn hN
  unfold ownV; rw [e2, e3]
theorem Agree.drop (h : Agree N V D now base) (hV : V.length = N) (hn : now.length = N) (hN : 64 ≤ N) (i : Int) : dpE now i = dpE V i ∧ Agree N (dpV V i) D (dpV now i) base := by
  have e : dpE now i = dpE V i := by unfold dpE; rw [h.own hV hn hN, h.mkb hN]
  refine ⟨e, ?_⟩
  unfold dpV
  rw [e, h.mkb hN]
  split
  · exact h.set hV hn own42 _
  · exact h
theorem Agree.tell (h : Agree N V D now base) (hV : V.length = N) (hn : now.length = N) (hN : 64 ≤ N) (i : Int) : usB now i = usB V i ∧ usE now i = usE V i ∧ frN now = frN V ∧ crE now = crE V := by
  obtain ⟨e2, e3⟩ := h.okc hV hn hN
  unfold usB usE frN crE
  rw [h.own hV hn hN, h.mkb hN, e2, e3]
  exact ⟨rfl, rfl, rfl, rfl⟩
end
end Go.Proofs.YtbkgfkemjhaopaaGreat.Dl
