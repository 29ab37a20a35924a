/-
  WHAT stock does to a deal's view: what is taken, given back, told. No condition.
-/
import Derived.Test.YtgdlfiejjnjcpaaGreatFB
set_option linter.unusedVariables false
set_option linter.unusedSimpArgs false
set_option maxRecDepth 100000
set_option maxHeartbeats 4000000
namespace Go.Proofs.YtgdlfiejjnjcpaaGreat.Dl
open Go.RowKit
open Mk
open Sl (Turns SlabAt)
open Lg (Ch chCells chsCells FS LogAt Whole setL setL_len ownB bcell z128)
open Kr (crv rightK blockK okK kf kb kc KBox cells3 put3 put3_box put3_below marksK bit_marks marks_size I64 inB)

/-! ### what the crown says -/
theorem cr_b {V : List ByteArray} (h : okCr V = true) : rightK (crF V) (crB V) (crC V) = true ∧ 64 ≤ crB V ∧ crB V ≤ 400 ∧ crB V ≤ V.length := by
  unfold crF crB crC
  rw [if_pos h, if_pos h, if_pos h]
  unfold okCr at h
  simp only [Bool.and_eq_true, decide_eq_true_eq] at h
  have h1 := (Kr.okK_t h.1).1
  have h2 := Kr.rightK_t h1
  exact ⟨h1, h2.1, h2.2.1, h.2⟩
theorem cr_no {V : List ByteArray} (h : okCr V = false) : crB V = 0 ∧ crE V = 15 := by
  unfold crB crE
  rw [h]
  exact ⟨rfl, rfl⟩
theorem cr_ok {V : List ByteArray} (h : okCr V = true) : crE V = 0 := by
  unfold crE
  rw [h]
  rfl

/-! ### what is taken -/
def fnV (V : List ByteArray) (n : Int) : Nat × Nat := fndP (mkB V) (crB V) n
def rnE (V : List ByteArray) (n : Int) : Int := if okCr V = true then (if n < 1 then 1 else if (fnV V n).2 = 0 then 10 else 0) else 15
def rnA (V : List ByteArray) (n : Int) : Int := if rnE V n = 0 then ((fnV V n).1 : Nat) else 0
def rnL (V : List ByteArray) (n : Int) : Int := if rnE V n = 0 then ((fnV V n).2 : Nat) else 0
/-- V, with k blocks from a on empty. -/
def zTo (V : List ByteArray) (a : Nat) : Nat → List ByteArray
  | 0 => V
  | k + 1 => (zTo V a k).set (a + k) z128
def rnV (V : List ByteArray) (n : Int) : List ByteArray := if rnE V n = 0 then (zTo V (fnV V n).1 (fnV V n).2).set 42 (takeN (mkB V) (fnV V n).1 (fnV V n).2) else V
theorem zTo_len (V : List ByteArray) (a : Nat) : ∀ k, (zTo V a k).length = V.length
  | 0 => rfl
  | k + 1 => by rw [zTo, List.length_set]; exact zTo_len V a k
theorem wr_zero {V : List ByteArray} {i : Nat} (h1 : 42 ≤ i) (h2 : i < V.length) : wrE V (i : Int) ⟨#[]⟩ = 0 ∧ wrV V (i : Int) ⟨#[]⟩ = V.set i z128 := by
  have e : wrOk V (i : Int) ⟨#[]⟩ = true := by unfold wrOk; rw [hasB_t.2 (by omega)]; rfl
  unfold wrE wrV
  rw [if_pos e, if_pos e]
  exact ⟨rfl, rfl⟩
theorem wr_marks {V : List ByteArray} {s : ByteArray} (h2 : 42 < V.length) (hs : s.size = 128) : wrE V 42 s = 0 ∧ wrV V 42 s = V.set 42 s := by
  have e : wrOk V 42 s = true := by unfold wrOk; rw [hasB_t.2 (by omega), hs]; rfl
  unfold wrE wrV
  rw [if_pos e, if_pos e, Lg.padS_full hs]
  exact ⟨rfl, rfl⟩
theorem setR_take (m : ByteArray) (a k : Nat) : setR (takeN m a k) ((a + k : Nat) : Int) true = takeN m a (k + 1) := by rw [setR_nat, takeN]

/-! ### what is given back, and told -/
def ownV (V : List ByteArray) (i : Int) : Bool := okCr V && inB i 51 (crB V - 1)
def dpE (V : List ByteArray) (i : Int) : Int := if ownV V i = true then (if isB (mkB V) i = true then 0 else 15) else 15
def dpV (V : List ByteArray) (i : Int) : List ByteArray := if dpE V i = 0 then V.set 42 (setR (mkB V) i false) else V
def frN (V : List ByteArray) : Int := if okCr V = true then (fcn (mkB V) (crB V).toNat : Nat) else 0
def usB (V : List ByteArray) (i : Int) : Bool := ownV V i && isB (mkB V) i
def usE (V : List ByteArray) (i : Int) : Int := if okCr V = true then (if ownV V i = true then 0 else 1) else 15
theorem own_is {V : List ByteArray} (h : okCr V = true) (i : Int) : Kr.ownK (crF V) (crB V) (crC V) i = ownV V i := by
  unfold Kr.ownK ownV
  rw [(cr_b h).1, h]

/-! ### crown and marks behind it -/
theorem zTo_get {V : List ByteArray} {a i : Nat} (h : i < a) : ∀ k, (zTo V a k).getD i ⟨#[]⟩ = V.getD i ⟨#[]⟩
  | 0 => rfl
  | k + 1 => by rw [zTo, getD_set2, if_neg (by omega)]; exact zTo_get h k
/-- V has a crown of b blocks and the marks m. -/
structure Crd (V : List ByteArray) (b : Nat) (m : ByteArray) : Prop where
  ok : okCr V = true
  cb : crB V = (b : Int)
  mb : mkB V = m
  sz : m.size = 128
  ln : 42 < V.length
  b1 : 64 ≤ b
  b2 : b ≤ 400
theorem okCr_eq {V W : List ByteArray} (h0 : W.getD 0 ⟨#[]⟩ = V.getD 0 ⟨#[]⟩) (hl : W.length = V.length) : okCr W = okCr V ∧ crB W = crB V := by
  have e : okCr W = okCr V := by unfold okCr; rw [h0, hl]
  refine ⟨e, ?_⟩
  unfold crB
  rw [e, h0]
section
variable {V : List ByteArray} {b : Nat} {m : ByteArray}
theorem Crd.set (h : Crd V b m) {W : List ByteArray} {m' : ByteArray} (h0 : W.getD 0 ⟨#[]⟩ = V.getD 0 ⟨#[]⟩) (hl : W.length = V.length) (hm : mkB W = m') (hz : m'.size = 128) : Crd W b m' := by
  obtain ⟨e1, e2⟩ := okCr_eq h0 hl
  exact ⟨e1.trans h.ok, e2.trans h.cb, hm, hz, by rw [hl]; exact h.ln, h.b1, h.b2⟩
theorem Crd.fn (h : Crd V b m) {n a l : Nat} (hf : IsFnd m b n a l) (hn : 1 ≤ n) : l = (fnV V (n : Int)).2 ∧ (l ≠ 0 → a = (fnV V (n : Int)).1) := by
  have h1 := fnd_is m b n h.sz (by have := h.b2; omega) hn
  have e : fnV V (n : Int) = fndP m b n := by unfold fnV; rw [h.cb, h.mb]
  rw [e]
  exact hf.uniq h1
theorem Crd.bad (h : Crd V b m) {n : Int} (hn : n < 1) : rnE V n = 1 ∧ rnA V n = 0 ∧ rnL V n = 0 ∧ rnV V n = V := by
  have e : rnE V n = 1 := by unfold rnE; rw [if_pos h.ok, if_pos hn]
  unfold rnA rnL rnV
  rw [e]
  exact ⟨rfl, rfl, rfl, rfl⟩
theorem Crd.none (h : Crd V b m) {n a : Nat} (hn : 1 ≤ n) (hf : IsFnd m b n a 0) : rnE V (n : Int) = 10 ∧ rnA V (n : Int) = 0 ∧ rnL V (n : Int) = 0 ∧ rnV V (n : Int) = V := by
  have e : rnE V (n : Int) = 10 := by unfold rnE; rw [if_pos h.ok, if_neg (by omega), if_pos (h.fn hf hn).1.symm]
  unfold rnA rnL rnV
  rw [e]
  exact ⟨rfl, rfl, rfl, rfl⟩
theorem Crd.some (h : Crd V b m) {n a l : Nat} (hn : 1 ≤ n) (hl : l ≠ 0) (hf : IsFnd m b n a l) : rnE V (n : Int) = 0 ∧ rnA V (n : Int) = (a : Int) ∧ rnL V (n : Int) = (l : Int) ∧ Crd (rnV V (n : Int)) b (takeN m a l) := by
  obtain ⟨e1, e2⟩ := h.fn hf hn
  have e2 := e2 hl
  have e : rnE V (n : Int) = 0 := by unfold rnE; rw [if_pos h.ok, if_neg (by omega), if_neg (by rw [← e1]; exact hl)]
  have ha : 51 ≤ a := by
    rcases hf with ⟨e, _⟩ | ⟨_, _, h3, _⟩
    · exact absurd e hl
    · exact h3.1
  unfold rnA rnL rnV
  rw [e]
  simp only [if_pos]
  rw [← e1, ← e2, h.mb]
  refine ⟨trivial, rfl, rfl, ?_⟩
  refine h.set ?_ (by rw [List.length_set, zTo_len]) ?_ (by rw [take_size]; exact h.sz)
  · rw [getD_set2, if_neg (by omega), zTo_get (by omega)]
  · show ((zTo V a l).set 42 (takeN m a l)).getD 42 ⟨#[]⟩ = _
    rw [getD_set2, zTo_len, if_pos ⟨rfl, h.ln⟩]
theorem Crd.own (h : Crd V b m) (i : Int) : ownV V i = (decide (51 ≤ i) && decide (i < b)) := by
  unfold ownV Kr.inB
  rw [h.ok, h.cb, Bool.true_and]
  congr 1
  rw [decide_eq_decide]
  omega
theorem Crd.drop (h : Crd V b m) {i : Nat} (h1 : 51 ≤ i) (h2 : i < b) (hb : bitN m i = true) : dpE V (i : Int) = 0 ∧ Crd (dpV V (i : Int)) b (setN m i false) := by
  have e : dpE V (i : Int) = 0 := by
    unfold dpE
    rw [h.own, decide_eq_true (by omega), decide_eq_true (by omega), h.mb, isB_nat, hb]
    rfl
  refine ⟨e, ?_⟩
  unfold dpV
  rw [if_pos e, h.mb, setR_nat]
  refine h.set (by rw [getD_set2, if_neg (by omega)]) (by rw [List.length_set]) ?_ (by rw [size_setN]; exact h.sz)
  show (V.set 42 (setN m i false)).getD 42 ⟨#[]⟩ = _
  rw [getD_set2, if_pos ⟨rfl, h.ln⟩]
theorem Crd.nodrop (h : Crd V b m) {i : Int} (hn : ¬ ((51 ≤ i ∧ i < b) ∧ bitN m i.toNat = true)) : dpE V i = 15 ∧ dpV V i = V := by
  have e : dpE V i = 15 := by
    unfold dpE
    rw [h.own, h.mb]
    by_cases h1 : 51 ≤ i ∧ i < (b : Int)
    · rw [decide_eq_true h1.1, decide_eq_true h1.2]
      have hb : isB m i = false := by
        obtain ⟨k, rfl⟩ := Int.eq_ofNat_of_zero_le (show 0 ≤ i by omega)
        rw [isB_nat]
        cases hb : bitN m k with
        | false => rfl
        | true => exact absurd ⟨h1, hb⟩ hn
      rw [hb]; rfl
    · have : (decide (51 ≤ i) && decide (i < (b : Int))) = false := by
        rw [Bool.and_eq_false_iff, decide_eq_false_iff_not, decide_eq_false_iff_not]; omega
      rw [this]; rfl
  exact ⟨e, by unfold dpV; rw [if_neg (by rw [e]; decide)]⟩
theorem Crd.free (h : Crd V b m) : frN V = (fcn m b : Nat) ∧ crE V = 0 := by
  refine ⟨?_, cr_ok h.ok⟩
  unfold frN
  rw [if_pos h.ok, h.mb, h.cb, Int.toNat_natCast]
theorem Crd.used (h : Crd V b m) {i : Nat} (h1 : 51 ≤ i) (h2 : i < b) : usB V (i : Int) = bitN m i ∧ usE V (i : Int) = 0 := by
  have e : ownV V (i : Int) = true := by rw [h.own, decide_eq_true (by omega), decide_eq_true (by omega)]; rfl
  unfold usB usE
  rw [e, if_pos h.ok, if_pos rfl, h.mb, isB_nat]
  exact ⟨rfl, rfl⟩
end
end Go.Proofs.YtgdlfiejjnjcpaaGreat.Dl
