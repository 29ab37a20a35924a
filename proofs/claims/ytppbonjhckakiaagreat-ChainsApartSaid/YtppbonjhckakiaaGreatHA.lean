import Derived.Test.YtppbonjhckakiaaGreatGA
import Derived.Test.YtppbonjhckakiaaGreatBY
import Derived.Test.YtppbonjhckakiaaGreatBZ
/-
  PLAIN MATHEMATICS of chains: what a card's pointers say of a view, what is taken for a map's lists, and what a file of them is. No condition.
-/
set_option linter.unusedVariables false
set_option linter.unusedSimpArgs false
set_option maxRecDepth 100000
set_option maxHeartbeats 4000000
namespace Go.Proofs.YtppbonjhckakiaaGreat.Dl
open Go.RowKit
open Mk
open Lg (z128)

/-! ### what is read -/
/-- a block of the view. -/
def bA (V : List ByteArray) (i : Int) : ByteArray := V.getD i.toNat ⟨#[]⟩
/-- 0, or a block that files can have. -/
def ptOk (b : Int) (x : Int) : Bool := x == 0 || (decide (51 ≤ x) && decide (x < b))
def ptsOk (b : Int) (l : List Int) : Bool := l.all (ptOk b)
theorem ptOk_t {b x : Int} : ptOk b x = true ↔ x = 0 ∨ (51 ≤ x ∧ x < b) := by simp [ptOk]
def rlOk (V : List ByteArray) (b : Int) (i : Int) : Bool := i == 0 || (decide (51 ≤ i) && decide (i < b) && decide ((La.readL (bA V i)).2 = 0) && !La.zeroB (La.readL (bA V i)).1)
theorem rlOk_t {V : List ByteArray} {b i : Int} : rlOk V b i = true ↔ i = 0 ∨ (51 ≤ i ∧ i < b ∧ (La.readL (bA V i)).2 = 0 ∧ La.zeroB (La.readL (bA V i)).1 = false) := by simp [rlOk, and_assoc]
def rlV (V : List ByteArray) (i : Int) : Option (List Int) := if i = 0 then none else some (La.readL (bA V i)).1
theorem rlV_0 (V : List ByteArray) : rlV V 0 = none := rfl
def dblV (V : List ByteArray) (db : Int) : List Int := (rlV V db).getD []
def lsV (V : List ByteArray) (db : Int) : List (Option (List Int)) := (dblV V db).map (rlV V)
def ldM (V : List ByteArray) (d : List Int) (sg db : Int) : List Int := La.numsTo d ((rlV V sg).getD []) (lsV V db) 76
def ldL (V : List ByteArray) (sg db : Int) : List Int := ([sg, db] ++ dblV V db).filter fun x => decide (x ≠ 0)
def rgOk (V : List ByteArray) (b : Int) (sg db : Int) : Bool := rlOk V b sg && (rlOk V b db && (dblV V db).all (rlOk V b))
def ldOk (V : List ByteArray) (b : Int) (d : List Int) (sg db : Int) : Bool := rgOk V b sg db && ptsOk b (ldM V d sg db)
theorem rlV_len (V : List ByteArray) (i : Int) : ((rlV V i).getD []).length ≤ 8 := by
  unfold rlV
  split
  · exact Nat.zero_le _
  · exact La.readL_len _
theorem rlV_same {V W : List ByteArray} {i : Int} (h : i ≠ 0 → bA W i = bA V i) : rlV W i = rlV V i := by
  unfold rlV
  split
  · rfl
  · rename_i h0; rw [h h0]
theorem rlOk_same {V W : List ByteArray} {b i : Int} (h : i ≠ 0 → bA W i = bA V i) : rlOk W b i = rlOk V b i := by
  by_cases h0 : i = 0
  · subst h0; rfl
  · unfold rlOk; rw [h h0]
theorem getD_or (l : List Int) (k : Nat) : l.getD k 0 = 0 ∨ l.getD k 0 ∈ l := by
  rcases Nat.lt_or_ge k l.length with h | h
  · right
    rw [show l.getD k 0 = l[k] by simp [List.getD, List.getElem?_eq_getElem h]]
    exact List.getElem_mem h
  · left; simp [List.getD, List.getElem?_eq_none h]
theorem pts_whole {b : Int} {zs : List Int} (h : ptsOk b zs = true) : ptsOk b (La.wholeOf zs) = true := by
  unfold ptsOk at h ⊢
  rw [List.all_eq_true] at h ⊢
  intro x hx
  obtain ⟨k, hk, rfl⟩ := List.getElem_of_mem hx
  rw [La.wholeOf_len] at hk
  have e : (La.wholeOf zs)[k]'(by rw [La.wholeOf_len]; exact hk) = (La.wholeOf zs).getD k 0 := by simp [List.getD, List.getElem?_eq_getElem (show k < (La.wholeOf zs).length by rw [La.wholeOf_len]; exact hk)]
  rw [e, La.wholeOf_get zs k hk]
  rcases getD_or zs k with e | e
  · rw [e]; rfl
  · exact h _ e

/-! ### a file's lists -/
structure FileAt (V : List ByteArray) (b : Nat) (m : ByteArray) (sg db : Int) (zs L : List Int) : Prop where
  os : rlOk V b sg = true
  vs : rlV V sg = La.optP zs 1
  od : rlOk V b db = true
  vd : lsV V db = La.dblOf zs
  ol : ∀ x ∈ dblV V db, rlOk V b x = true
  eL : ldL V sg db = L
  asc : L.Pairwise (· < ·)
  us : ∀ x ∈ L, 51 ≤ x ∧ x < b ∧ bitN m x.toNat = true
  ln : L.length = La.blocksN ((La.optP zs 1).getD []).length (La.dblOf zs).length (La.dblOf zs)
section
variable {V W : List ByteArray} {b : Nat} {m m' : ByteArray} {sg db : Int} {zs L : List Int}
theorem FileAt.load (h : FileAt V b m sg db zs L) (hp : ptsOk b zs = true) : ldOk V b (La.pieceOf zs 0) sg db = true ∧ ldM V (La.pieceOf zs 0) sg db = La.wholeOf zs := by
  have e : ldM V (La.pieceOf zs 0) sg db = La.wholeOf zs := by unfold ldM; rw [h.vs, h.vd]; exact La.back_nums zs
  refine ⟨?_, e⟩
  unfold ldOk rgOk
  rw [e, pts_whole hp, h.os, h.od, List.all_eq_true.2 h.ol]
  rfl
theorem mem_ldL {x : Int} (h : x ∈ [sg, db] ++ dblV V db) (h0 : x ≠ 0) : x ∈ ldL V sg db := List.mem_filter.2 ⟨h, by simpa using h0⟩
theorem FileAt.keep (h : FileAt V b m sg db zs L) (hV : ∀ x ∈ L, bA W x = bA V x) (hm : ∀ x ∈ L, bitN m' x.toNat = true) : FileAt W b m' sg db zs L := by
  have hb : ∀ x ∈ [sg, db] ++ dblV V db, x ≠ 0 → bA W x = bA V x := fun x hx h0 => hV x (by rw [← h.eL]; exact mem_ldL hx h0)
  have hs := hb sg (by simp)
  have hd := hb db (by simp)
  have ed : dblV W db = dblV V db := by unfold dblV; rw [rlV_same hd]
  have el : lsV W db = lsV V db := by
    unfold lsV
    rw [ed]
    exact List.map_congr_left fun x hx => rlV_same (hb x (by simp [hx]))
  refine ⟨(rlOk_same hs).trans h.os, (rlV_same hs).trans h.vs, (rlOk_same hd).trans h.od, el.trans h.vd, fun x hx => ?_, ?_, h.asc, fun x hx => ⟨(h.us x hx).1, (h.us x hx).2.1, hm x hx⟩, h.ln⟩
  · rw [ed] at hx
    exact (rlOk_same (hb x (by simp [hx]))).trans (h.ol x hx)
  · unfold ldL
    rw [ed]
    exact h.eL
end

/-! ### what is written -/
theorem padS_size (s : ByteArray) (n : Nat) (h : s.size ≤ n) : (padS s n).size = n := by
  have e : (padS s n).size = s.data.toList.length + (n - s.size) := by show ((s.data.toList ++ List.replicate (n - s.size) 0).toArray).size = _; simp
  have e2 : s.data.toList.length = s.size := by rw [Array.length_toList]; rfl
  omega
theorem lw_ok {l : List Int} (hl : l.length = 8) (h : ∀ x ∈ l, 0 ≤ x ∧ x ≤ 65535) : (La.writeL l).2 = 0 ∧ (La.writeL l).1.size = 128 := by
  have hg : ∀ k, fitB (l.getD k 0) 2 = true := fun k => by
    unfold fitB
    have e : mostOf 2 = 65535 := by decide
    rw [e, decide_eq_true_eq]
    rcases getD_or l k with e | e
    · rw [e]; omega
    · exact h _ e
  have hf : fitTo La.w8 l La.w8.length = true := by
    show fitTo La.w8 l 8 = true
    have e8 : ∀ k, k < 8 → La.w8.getD k 0 = 2 := by decide
    have : ∀ k, k ≤ 8 → fitTo La.w8 l k = true := by
      intro k
      induction k with
      | zero => intro _; rfl
      | succ k ih => intro hk; rw [fitTo, ih (by omega), e8 k (by omega), hg k]; rfl
    exact this 8 (Nat.le_refl _)
  have hw : (writeR La.w8 l).2 = 0 := by rw [writeR_ok La.w8_ok (by rw [hl]; rfl) hf]
  have h16 := (La.writeR_8 l hw).1
  unfold La.writeL
  rw [if_pos hw]
  exact ⟨rfl, padS_size _ _ (by omega)⟩
theorem rl_written {V : List ByteArray} {b : Nat} {l : List Int} {a : Int} (h1 : 51 ≤ a) (h2 : a < b) (h8 : (La.writeL l).2 = 0) (hz : La.zeroB l = false) (hb : bA V a = (La.writeL l).1) : rlOk V b a = true ∧ rlV V a = some l := by
  have e := La.read_back l h8
  refine ⟨rlOk_t.2 (.inr ⟨h1, h2, by rw [hb, e], by rw [hb, e]; exact hz⟩), ?_⟩
  unfold rlV
  rw [if_neg (by omega), hb, e]

/-! ### how many are free -/
theorem fcn_pos {m : ByteArray} : ∀ t, 1 ≤ fcn m t → ∃ j, 51 ≤ j ∧ j < t ∧ bitN m j = false
  | 0, h => by simp [fcn] at h
  | t + 1, h => by
    by_cases h1 : 51 ≤ t ∧ bitN m t = false
    · exact ⟨t, h1.1, by omega, h1.2⟩
    · rw [fcn, if_neg h1] at h
      obtain ⟨j, h2, h3, h4⟩ := fcn_pos t h
      exact ⟨j, h2, by omega, h4⟩
theorem fcn_set {m : ByteArray} {n : Nat} (hm : m.size = 128) (h1 : 51 ≤ n) (h2 : n < 1024) (h0 : bitN m n = false) : ∀ t, fcn (setN m n true) t + (if n < t then 1 else 0) = fcn m t
  | 0 => by simp [fcn]
  | t + 1 => by
    have ih := fcn_set hm h1 h2 h0 t
    rw [fcn, fcn, bit_setN _ _ _ _ (by omega)]
    by_cases e : t = n
    · subst e
      rw [if_neg (by omega)] at ih
      rw [if_pos rfl, if_neg (by simp), if_pos (by omega), if_pos ⟨h1, h0⟩]
      omega
    · rw [if_neg e]
      generalize (if 51 ≤ t ∧ bitN m t = false then 1 else 0) = z
      by_cases h : n < t
      · rw [if_pos h] at ih; rw [if_pos (by omega)]; omega
      · rw [if_neg h] at ih; rw [if_neg (by omega)]; omega
theorem fcn_off {m : ByteArray} {n : Nat} (hm : m.size = 128) (h1 : 51 ≤ n) (h2 : n < 1024) (h0 : bitN m n = true) : ∀ t, fcn (setN m n false) t = fcn m t + (if n < t then 1 else 0)
  | 0 => by simp [fcn]
  | t + 1 => by
    have ih := fcn_off hm h1 h2 h0 t
    rw [fcn, fcn, bit_setN _ _ _ _ (by omega)]
    by_cases e : t = n
    · subst e
      rw [if_neg (by omega)] at ih
      rw [if_pos rfl, if_pos ⟨h1, rfl⟩, if_neg (fun h : 51 ≤ t ∧ bitN m t = false => by rw [h0] at h; cases h.2), if_pos (show t < t + 1 by omega)]
      omega
    · rw [if_neg e]
      generalize (if 51 ≤ t ∧ bitN m t = false then 1 else 0) = z
      by_cases h : n < t
      · rw [if_pos h] at ih; rw [if_pos (by omega)]; omega
      · rw [if_neg h] at ih; rw [if_neg (by omega)]; omega

/-! ### what is taken -/
/-- V', m' stand behind V, m when the blocks of T have been taken, all of them below top, and none below top is free. -/
structure Tkn (b : Nat) (V : List ByteArray) (m : ByteArray) (V' : List ByteArray) (m' : ByteArray) (top : Nat) (T : List Int) : Prop where
  cr : Crd V' b m'
  hi : ∀ j, 51 ≤ j → j < top → bitN m' j = true
  lt : ∀ x ∈ T, 51 ≤ x ∧ x < top ∧ x < b
  asc : T.Pairwise (· < ·)
  bits : ∀ j : Nat, bitN m' j = (bitN m j || decide ((j : Int) ∈ T))
  keep : ∀ i : Int, 51 ≤ i → i ∉ T → bA V' i = bA V i
  cnt : fcn m' b + T.length = fcn m b
  new : ∀ x ∈ T, bitN m x.toNat = false
theorem Tkn.start {b : Nat} {V : List ByteArray} {m : ByteArray} (h : Crd V b m) : Tkn b V m V m 51 [] :=
  ⟨h, fun j h1 h2 => by omega, by simp, .nil, fun j => by simp, fun _ _ _ => rfl, by simp, by simp⟩
section
variable {b : Nat} {V V' : List ByteArray} {m m' : ByteArray} {top : Nat} {T : List Int}
theorem Tkn.take (h : Tkn b V m V' m' top T) (hf : 1 ≤ fcn m' b) : ∃ n : Nat, top ≤ n ∧ 51 ≤ n ∧ n < b ∧ rnA V' 1 = (n : Int) ∧ (∀ j : Nat, 51 ≤ j → j < n → bitN m' j = true) ∧ Tkn b V m (rnV V' 1) (setN m' n true) (n + 1) (T ++ [(n : Int)]) ∧ (∀ x ∈ T, bA (rnV V' 1) x = bA V' x) := by
  have hb2 := h.cr.b2
  have hsz := h.cr.sz
  have hI := fnd_is m' b 1 hsz (by omega) (by omega)
  generalize hfa : (fndP m' b (1 : Nat)).1 = a at hI
  generalize hfl : (fndP m' b (1 : Nat)).2 = l at hI
  have hI' : IsFnd m' b 1 a l := hI
  rcases hI with ⟨rfl, h0⟩ | ⟨h1, h2, h3, h4, h5⟩
  · obtain ⟨j, j1, j2, j3⟩ := fcn_pos b hf
    exact absurd ⟨j1, by omega, fun t ht => by rw [show j + t = j by omega]; exact j3⟩ (h0 j)
  · obtain rfl : l = 1 := by omega
    obtain ⟨e1, e2, e3, e4⟩ := h.cr.some (Nat.le_refl 1) (by decide) hI'
    have e5 : rnV V' ((1 : Nat) : Int) = rnV V' 1 := rfl
    have e6 : rnA V' ((1 : Nat) : Int) = rnA V' 1 := rfl
    rw [e5] at e4
    rw [e6] at e2
    have e7 : takeN m' a 1 = setN m' a true := rfl
    rw [e7] at e4
    have ha := h3.1
    have hab := h3.2.1
    have hfree : bitN m' a = false := by have := h3.2.2 0 (by omega); simpa using this
    have htop : top ≤ a := by
      rcases Nat.lt_or_ge a top with e | e
      · rw [h.hi a ha e] at hfree; cases hfree
      · exact e
    have hlow : ∀ j, 51 ≤ j → j < a → bitN m' j = true := fun j j1 j2 => by
      cases hj : bitN m' j with
      | true => rfl
      | false => exact absurd ⟨j1, by omega, fun t ht => by rw [show j + t = j by omega]; exact hj⟩ (h4 j j2)
    have hnot : ((a : Nat) : Int) ∉ T := fun hm => by have := (h.lt _ hm).2.1; omega
    have hV : ∀ i : Int, 51 ≤ i → i ≠ a → bA (rnV V' 1) i = bA V' i := fun i i1 i2 => by
      have e1' : rnE V' 1 = 0 := e1
      unfold bA rnV
      rw [if_pos e1', getD_set2, if_neg (by omega)]
      have hf1 : fnV V' 1 = (a, 1) := by
        unfold fnV
        rw [h.cr.cb, h.cr.mb]
        exact Prod.ext hfa hfl
      rw [hf1]
      show (V'.set (a + 0) z128).getD i.toNat ⟨#[]⟩ = _
      rw [getD_set2, if_neg (by omega)]
    refine ⟨a, htop, ha, by omega, e2, hlow, ⟨e4, fun j j1 j2 => ?_, fun x hx => ?_, ?_, fun j => ?_, fun i i1 i2 => ?_, ?_, fun x hx => ?_⟩, fun x hx => ?_⟩
    · rw [bit_setN _ _ _ _ (by omega)]
      by_cases e : j = a
      · rw [if_pos e]
      · rw [if_neg e]; exact hlow j j1 (by omega)
    · rcases List.mem_append.1 hx with hx | hx
      · have := h.lt x hx; omega
      · simp at hx; omega
    · rw [List.pairwise_append]
      refine ⟨h.asc, by simp, fun x hx y hy => ?_⟩
      have := h.lt x hx
      simp at hy
      omega
    · rw [bit_setN _ _ _ _ (by omega), h.bits j]
      by_cases e : j = a
      · rw [if_pos e]; simp [e]
      · rw [if_neg e]
        have : ((j : Int) ∈ T ++ [(a : Int)]) ↔ (j : Int) ∈ T := by simp; omega
        rw [decide_eq_decide.2 this]
    · have i3 : i ∉ T := fun hm => i2 (List.mem_append_left _ hm)
      have i4 : i ≠ a := fun e => i2 (by simp [e])
      rw [hV i i1 i4]
      exact h.keep i i1 i3
    · have := h.cnt
      have := fcn_set (t := b) hsz ha (by omega) hfree
      rw [if_pos (by omega)] at this
      rw [List.length_append, List.length_singleton]
      omega
    · rcases List.mem_append.1 hx with hx | hx
      · exact h.new x hx
      · simp at hx
        subst hx
        rw [Int.toNat_natCast]
        have := h.bits a
        rw [hfree] at this
        cases hm : bitN m a with
        | false => rfl
        | true => rw [hm] at this; cases this
    · have := h.lt x hx
      exact hV x this.1 (by omega)
theorem Tkn.write (h : Tkn b V m V' m' top T) {x : Int} (hx : x ∈ T) {s : ByteArray} (hs : s.size = 128) : wrE V' x s = 0 ∧ Tkn b V m (wrV V' x s) m' top T ∧ bA (wrV V' x s) x = s ∧ ∀ y : Int, 51 ≤ y → y ≠ x → bA (wrV V' x s) y = bA V' y := by
  have hlt := h.lt x hx
  have hl : b ≤ V'.length := by have := (cr_b h.cr.ok).2.2.2; rw [h.cr.cb] at this; omega
  have hok : wrOk V' x s = true := by unfold wrOk; rw [hasB_t.2 (by omega), hs]; rfl
  have e : wrV V' x s = V'.set x.toNat s := by unfold wrV; rw [if_pos hok, Lg.padS_full hs]
  have hother : ∀ y : Int, 51 ≤ y → y ≠ x → bA (wrV V' x s) y = bA V' y := fun y y1 y2 => by
    unfold bA
    rw [e, getD_set2, if_neg (by omega)]
  refine ⟨by unfold wrE; rw [if_pos hok], ⟨?_, h.hi, h.lt, h.asc, h.bits, fun i i1 i2 => ?_, h.cnt, h.new⟩, ?_, hother⟩
  · rw [e]
    refine h.cr.set (by rw [getD_set2, if_neg (by omega)]) (by rw [List.length_set]) ?_ h.cr.sz
    show (V'.set x.toNat s).getD 42 ⟨#[]⟩ = _
    rw [getD_set2, if_neg (by omega)]
    exact h.cr.mb
  · rw [hother i i1 (fun e => i2 (e ▸ hx))]
    exact h.keep i i1 i2
  · unfold bA
    rw [e, getD_set2, if_pos ⟨rfl, by omega⟩]
end
end Go.Proofs.YtppbonjhckakiaaGreat.Dl

/-
  PLAIN MATHEMATICS of Save: what is given back, what is stored, and that the file behind it says the map. No condition.
-/
set_option linter.unusedVariables false
set_option linter.unusedSimpArgs false
set_option maxRecDepth 100000
set_option maxHeartbeats 4000000
namespace Go.Proofs.YtppbonjhckakiaaGreat.Dl
open Go.RowKit
open Mk

/-! ### what is given back -/
def dpT (V : List ByteArray) (L : List Int) : Nat → List ByteArray
  | 0 => V
  | k + 1 => dpV (dpT V L k) (L.getD k 0)
structure Dpn (b : Nat) (V : List ByteArray) (m : ByteArray) (V' : List ByteArray) (m' : ByteArray) (T : List Int) : Prop where
  cr : Crd V' b m'
  bits : ∀ j : Nat, bitN m' j = (bitN m j && !decide ((j : Int) ∈ T))
  keep : ∀ i : Int, 51 ≤ i → bA V' i = bA V i
  cnt : fcn m' b = fcn m b + T.length
theorem asc_take {L : List Int} (h : L.Pairwise (· < ·)) {k : Nat} (hk : k < L.length) : L.getD k 0 ∉ L.take k := by
  intro hm
  obtain ⟨i, hi, e⟩ := List.getElem_of_mem hm
  rw [List.length_take] at hi
  rw [List.getElem_take] at e
  have := (List.pairwise_iff_getElem.1 h) i k (by omega) hk (by omega)
  rw [show L.getD k 0 = L[k] by simp [List.getD, List.getElem?_eq_getElem hk]] at e
  omega
theorem dp_all {b : Nat} {V : List ByteArray} {m : ByteArray} (h : Crd V b m) {L : List Int} (ha : L.Pairwise (· < ·)) (hu : ∀ x ∈ L, 51 ≤ x ∧ x < b ∧ bitN m x.toNat = true) : ∀ k, k ≤ L.length → ∃ m', Dpn b V m (dpT V L k) m' (L.take k)
  | 0, _ => ⟨m, h, fun j => by simp, fun _ _ => rfl, by simp⟩
  | k + 1, hk => by
    obtain ⟨m', d⟩ := dp_all h ha hu k (by omega)
    have hb2 := d.cr.b2
    have hx := asc_take ha (show k < L.length by omega)
    have hmem : L.getD k 0 ∈ L := by
      rw [show L.getD k 0 = L[k] by simp [List.getD, List.getElem?_eq_getElem (show k < L.length by omega)]]
      exact List.getElem_mem _
    have htk : L.take (k + 1) = L.take k ++ [L.getD k 0] := by
      rw [List.take_add_one]
      simp [List.getD, List.getElem?_eq_getElem (show k < L.length by omega)]
    obtain ⟨u1, u2, u3⟩ := hu _ hmem
    rw [htk]
    show ∃ m', Dpn b V m (dpV (dpT V L k) (L.getD k 0)) m' _
    generalize L.getD k 0 = x at *
    obtain ⟨n, rfl⟩ := Int.eq_ofNat_of_zero_le (show 0 ≤ x by omega)
    rw [Int.toNat_natCast] at u3
    have hbit : bitN m' n = true := by rw [d.bits n, u3]; simp [hx]
    obtain ⟨e1, e2⟩ := d.cr.drop (i := n) (by omega) (by omega) hbit
    refine ⟨_, e2, fun j => ?_, fun i i1 => ?_, ?_⟩
    · rw [bit_setN _ _ _ _ (by rw [d.cr.sz]; omega), d.bits j]
      by_cases e : j = n
      · rw [if_pos e]; simp [e]
      · rw [if_neg e]
        have : ((j : Int) ∈ L.take k ++ [(n : Int)]) ↔ (j : Int) ∈ L.take k := by simp; omega
        rw [decide_eq_decide.2 this]
    · rw [← d.keep i i1]
      unfold bA dpV
      rw [if_pos e1, getD_set2, if_neg (by omega)]
    · have := fcn_off (t := b) d.cr.sz (show 51 ≤ n by omega) (by omega) hbit
      rw [if_pos (by omega), d.cnt] at this
      rw [List.length_append, List.length_singleton]
      omega

/-! ### what is stored -/
def stL (V : List ByteArray) (l : List Int) : List ByteArray × Int := if l.length = 0 then (V, 0) else (wrV (rnV V 1) (rnA V 1) (La.writeL l).1, rnA V 1)
def stT (V : List ByteArray) (ls : List (Option (List Int))) : Nat → List ByteArray × List Int
  | 0 => (V, [])
  | k + 1 => ((stL (stT V ls k).1 ((ls.getD k none).getD [])).1, (stT V ls k).2 ++ [(stL (stT V ls k).1 ((ls.getD k none).getD [])).2])
def stD (V : List ByteArray) (ls : List (Option (List Int))) : List ByteArray × Int :=
  if ls.length = 0 then (V, 0) else (wrV (stT (rnV V 1) ls ls.length).1 (rnA V 1) (La.writeL (stT (rnV V 1) ls ls.length).2).1, rnA V 1)
def lsOk (b : Int) (o : Option (List Int)) : Prop := ∀ l, o = some l → l.length = 8 ∧ ptsOk b l = true ∧ La.zeroB l = false
theorem pts_range {b : Int} (hb : b ≤ 400) {l : List Int} (h : ptsOk b l = true) : ∀ x ∈ l, 0 ≤ x ∧ x ≤ 65535 := fun x hx => by
  have := ptOk_t.1 (List.all_eq_true.1 h x hx)
  omega
theorem optP_ok {b : Int} {zs : List Int} (h : ptsOk b zs = true) (k : Nat) (h1 : 1 ≤ k) (h2 : k < 10) : lsOk b (La.optP zs k) := fun l e => by
  unfold La.optP at e
  split at e
  · cases e
  · rename_i hz
    cases e
    refine ⟨?_, ?_, by simpa using hz⟩
    · rw [La.pieceOf_len zs k h2]; unfold La.lenP; rw [if_neg (by omega)]
    · unfold ptsOk
      rw [List.all_eq_true]
      intro x hx
      obtain ⟨j, hj, rfl⟩ := List.getElem_of_mem hx
      have hl := La.pieceOf_len zs k h2
      rw [show (La.pieceOf zs k)[j] = (La.pieceOf zs k).getD j 0 by simp [List.getD, List.getElem?_eq_getElem hj], La.pieceOf_get zs k j h2 (by omega)]
      rcases getD_or zs (La.offP k + j) with e | e
      · rw [e]; rfl
      · exact List.all_eq_true.1 h _ e
section
variable {b : Nat} {V V' : List ByteArray} {m m' : ByteArray} {top : Nat} {T : List Int}
theorem Tkn.store (h : Tkn b V m V' m' top T) {l : List Int} (h8 : l.length = 8) (hp : ptsOk b l = true) (hz : La.zeroB l = false) (hf : 1 ≤ fcn m' b) :
    ∃ (n : Nat) (m'' : ByteArray), (stL V' l).2 = (n : Int) ∧ top ≤ n ∧ 51 ≤ n ∧ Tkn b V m (stL V' l).1 m'' (n + 1) (T ++ [(n : Int)]) ∧ rlOk (stL V' l).1 b (n : Int) = true ∧ rlV (stL V' l).1 (n : Int) = some l ∧ ∀ x ∈ T, bA (stL V' l).1 x = bA V' x := by
  obtain ⟨n, n1, n2, n3, n4, n5, n6, n7⟩ := h.take hf
  have hb2 := h.cr.b2
  obtain ⟨w1, w2⟩ := lw_ok h8 (pts_range (by omega) hp)
  obtain ⟨x1, x2, x3, x4⟩ := n6.write (x := (n : Int)) (by simp) w2
  have e : stL V' l = (wrV (rnV V' 1) (n : Int) (La.writeL l).1, (n : Int)) := by unfold stL; rw [if_neg (by omega), n4]
  rw [e]
  obtain ⟨r1, r2⟩ := rl_written (V := wrV (rnV V' 1) (n : Int) (La.writeL l).1) (b := b) (a := (n : Int)) (by omega) (by omega) w1 hz x3
  refine ⟨n, _, rfl, n1, n2, x2, r1, r2, fun x hx => ?_⟩
  have := h.lt x hx
  exact (x4 x this.1 (by omega)).trans (n7 x hx)
theorem stL_nil (V : List ByteArray) : stL V [] = (V, 0) := rfl
theorem cntTo_none {ls : List (Option (List Int))} {k : Nat} (h : ls.getD k none = none) : La.cntTo ls (k + 1) = La.cntTo ls k := by
  rw [La.cntTo, La.lenAt, h]; rfl
theorem cntTo_some {ls : List (Option (List Int))} {k : Nat} {l : List Int} (h : ls.getD k none = some l) (h8 : l.length = 8) : La.cntTo ls (k + 1) = La.cntTo ls k + 1 := by
  rw [La.cntTo, La.lenAt, h]
  show _ + (if 0 < l.length then 1 else 0) = _
  rw [if_pos (by omega)]
theorem getD_snoc_lt {l : List Int} {x : Int} {j : Nat} (h : j < l.length) : (l ++ [x]).getD j 0 = l.getD j 0 := by simp [List.getD, List.getElem?_append_left h]
theorem getD_snoc_eq {l : List Int} {x : Int} {j : Nat} (h : j = l.length) : (l ++ [x]).getD j 0 = x := by subst h; simp [List.getD]
theorem Tkn.stores (h : Tkn b V m V' m' top T) {ls : List (Option (List Int))} (hl : ∀ j, lsOk b (ls.getD j none)) : ∀ k, k ≤ ls.length → La.cntTo ls k ≤ fcn m' b →
    ∃ (m'' : ByteArray) (top'' : Nat) (T2 : List Int), Tkn b V m (stT V' ls k).1 m'' top'' (T ++ T2) ∧ T2.length = La.cntTo ls k ∧ (stT V' ls k).2.length = k ∧ (stT V' ls k).2.filter (fun x => decide (x ≠ 0)) = T2 ∧
      (∀ j, j < k → rlOk (stT V' ls k).1 b ((stT V' ls k).2.getD j 0) = true ∧ rlV (stT V' ls k).1 ((stT V' ls k).2.getD j 0) = ls.getD j none) ∧ (∀ x ∈ T, bA (stT V' ls k).1 x = bA V' x) ∧ (∀ x ∈ (stT V' ls k).2, x = 0 ∨ x ∈ T2) := by
  intro k
  induction k with
  | zero => intro _ _; exact ⟨m', top, [], by simpa [stT] using h, rfl, rfl, rfl, fun j hj => by omega, fun _ _ => rfl, by simp [stT]⟩
  | succ k ih =>
    intro hk hc
    have hck : La.cntTo ls k ≤ La.cntTo ls (k + 1) := by rw [La.cntTo]; omega
    obtain ⟨m2, top2, T2, t, c1, c2, c3, c4, c5, c6⟩ := ih (by omega) (by omega)
    cases hg : ls.getD k none with
    | none =>
      have e1 : (stT V' ls (k + 1)) = ((stT V' ls k).1, (stT V' ls k).2 ++ [0]) := by
        show (_, _) = _
        rw [hg]; rfl
      rw [e1]
      refine ⟨m2, top2, T2, t, by rw [cntTo_none hg]; exact c1, by simp [c2], by rw [List.filter_append]; simp [← c3], fun j hj => ?_, c5, fun x hx => ?_⟩
      · by_cases e : j = k
        · subst e
          rw [getD_snoc_eq c2.symm, hg]
          exact ⟨rfl, rfl⟩
        · rw [getD_snoc_lt (by omega)]
          exact c4 j (by omega)
      · rcases List.mem_append.1 hx with hx | hx
        · exact c6 x hx
        · simp at hx; exact .inl hx
    | some l =>
      obtain ⟨l1, l2, l3⟩ := hl k l hg
      have hcs := cntTo_some hg l1
      have hcnt := t.cnt
      have hcnt0 := h.cnt
      rw [List.length_append] at hcnt
      obtain ⟨n, m3, s1, s2, s3, s4, s5, s6, s7⟩ := t.store l1 l2 l3 (by omega)
      have e1 : (stT V' ls (k + 1)) = ((stL (stT V' ls k).1 l).1, (stT V' ls k).2 ++ [(n : Int)]) := by
        show (_, _) = _
        rw [hg]
        show ((stL (stT V' ls k).1 l).1, (stT V' ls k).2 ++ [(stL (stT V' ls k).1 l).2]) = _
        rw [s1]
      rw [e1]
      simp only
      generalize (stL (stT V' ls k).1 l).1 = W at *
      have hsame : ∀ x, x ∈ (stT V' ls k).2 → x ≠ 0 → bA W x = bA (stT V' ls k).1 x := fun x hx h0 => by
        rcases c6 x hx with e | e
        · exact absurd e h0
        · exact s7 x (List.mem_append_right _ e)
      refine ⟨m3, n + 1, T2 ++ [(n : Int)], by rw [← List.append_assoc]; exact s4, by rw [List.length_append, c1, hcs]; rfl, by simp [c2], ?_, fun j hj => ?_, fun x hx => ?_, fun x hx => ?_⟩
      · rw [List.filter_append, c3]
        congr 1
        simp; omega
      · by_cases e : j = k
        · subst e
          rw [getD_snoc_eq c2.symm, hg]
          exact ⟨s5, s6⟩
        · rw [getD_snoc_lt (by omega)]
          have hm : (stT V' ls k).2.getD j 0 ∈ (stT V' ls k).2 := by
            rw [show (stT V' ls k).2.getD j 0 = (stT V' ls k).2[j]'(by omega) by simp [List.getD, List.getElem?_eq_getElem (show j < (stT V' ls k).2.length by omega)]]
            exact List.getElem_mem _
          obtain ⟨q1, q2⟩ := c4 j (by omega)
          exact ⟨(rlOk_same (hsame _ hm)).trans q1, (rlV_same (hsame _ hm)).trans q2⟩
      · exact (s7 x (List.mem_append_left _ hx)).trans (c5 x hx)
      · rcases List.mem_append.1 hx with hx | hx
        · rcases c6 x hx with e | e
          · exact .inl e
          · exact .inr (List.mem_append_left _ e)
        · exact .inr (List.mem_append_right _ hx)
end
/-- the first list, where there is one. -/
theorem Tkn.single {b : Nat} {V : List ByteArray} {m : ByteArray} (hc : Crd V b m) {o : Option (List Int)} (ho : lsOk b o) (hf : (if 0 < (o.getD []).length then 1 else 0) ≤ fcn m b) :
    ∃ (m1 : ByteArray) (top1 : Nat) (T1 : List Int), Tkn b V m (stL V (o.getD [])).1 m1 top1 T1 ∧ rlOk (stL V (o.getD [])).1 b (stL V (o.getD [])).2 = true ∧ rlV (stL V (o.getD [])).1 (stL V (o.getD [])).2 = o ∧ [(stL V (o.getD [])).2].filter (fun x => decide (x ≠ 0)) = T1 ∧ T1.length = if 0 < (o.getD []).length then 1 else 0 := by
  cases o with
  | none => exact ⟨m, 51, [], Tkn.start hc, rfl, rfl, rfl, rfl⟩
  | some l =>
    obtain ⟨l1, l2, l3⟩ := ho l rfl
    simp only [Option.getD_some] at *
    rw [if_pos (by omega)] at hf ⊢
    obtain ⟨n, m3, s1, s2, s3, s4, s5, s6, s7⟩ := (Tkn.start hc).store l1 l2 l3 hf
    rw [s1]
    refine ⟨m3, n + 1, [(n : Int)], s4, s5, s6, ?_, rfl⟩
    simp; omega
theorem anyB_some {zs : List Int} (h : (La.dblOf zs).length ≠ 0) : (La.dblOf zs).length = 8 ∧ ∃ j l, j < 8 ∧ (La.dblOf zs).getD j none = some l := by
  have hl := La.dblL_len (fun j => La.optP zs (j + 2))
  have ha : La.anyB (fun j => La.optP zs (j + 2)) = true := by
    cases h' : La.anyB (fun j => La.optP zs (j + 2)) with
    | true => rfl
    | false => rw [h'] at hl; exact absurd hl h
  rw [ha] at hl
  refine ⟨hl, ?_⟩
  obtain ⟨j, hj, hn⟩ := (La.anyB_iff _).1 ha
  cases e : La.optP zs (j + 2) with
  | none => exact absurd e hn
  | some l => exact ⟨j, l, hj, by rw [La.dblL_get _ j hj, e]⟩
theorem dbl_ok {b : Int} {zs : List Int} (h : ptsOk b zs = true) (j : Nat) : lsOk b ((La.dblOf zs).getD j none) := by
  rcases Nat.lt_or_ge j 8 with hj | hj
  · rw [La.dblL_get _ j hj]
    exact optP_ok h (j + 2) (by omega) (by omega)
  · have hl := La.dblL_len (fun j => La.optP zs (j + 2))
    have : (La.dblOf zs).getD j none = none := by
      have : (La.dblOf zs).length ≤ j := by rw [hl]; split <;> omega
      simp [List.getD, List.getElem?_eq_none this]
    rw [this]
    intro l e; cases e
theorem store_all {b : Nat} {V : List ByteArray} {m : ByteArray} (hc : Crd V b m) {zs : List Int} (hp : ptsOk b zs = true) (hf : La.blocksN ((La.optP zs 1).getD []).length (La.dblOf zs).length (La.dblOf zs) ≤ fcn m b) :
    ∃ (m' : ByteArray) (top : Nat) (L : List Int), Tkn b V m (stD (stL V ((La.optP zs 1).getD [])).1 (La.dblOf zs)).1 m' top L ∧
      FileAt (stD (stL V ((La.optP zs 1).getD [])).1 (La.dblOf zs)).1 b m' (stL V ((La.optP zs 1).getD [])).2 (stD (stL V ((La.optP zs 1).getD [])).1 (La.dblOf zs)).2 zs L := by
  have hbN := hf
  unfold La.blocksN at hf
  obtain ⟨m1, top1, T1, t1, a1, a2, a3, a4⟩ := Tkn.single hc (optP_ok hp 1 (by omega) (by omega)) (by omega)
  generalize (stL V ((La.optP zs 1).getD [])).1 = V1 at *
  generalize (stL V ((La.optP zs 1).getD [])).2 = sg at *
  have hus : ∀ {W : List ByteArray} {m' : ByteArray} {top : Nat} {L : List Int}, Tkn b V m W m' top L → ∀ x ∈ L, 51 ≤ x ∧ x < b ∧ bitN m' x.toNat = true := fun t x hx => by
    obtain ⟨q1, q2, q3⟩ := t.lt x hx
    refine ⟨q1, q3, ?_⟩
    rw [t.bits, show ((x.toNat : Nat) : Int) = x by omega, decide_eq_true hx, Bool.or_true]
  by_cases h0 : (La.dblOf zs).length = 0
  · have e : stD V1 (La.dblOf zs) = (V1, 0) := by unfold stD; rw [if_pos h0]
    rw [e]
    have hnil : La.dblOf zs = [] := List.length_eq_zero_iff.1 h0
    refine ⟨m1, top1, T1, t1, ⟨a1, a2, rfl, by rw [hnil]; rfl, (by intro x hx; cases hx), ?_, t1.asc, hus t1, ?_⟩⟩
    · show ([sg, 0] ++ []).filter _ = _
      rw [← a3]
      rw [show ([sg, 0] ++ ([] : List Int)) = [sg] ++ [0] by rfl, List.filter_append]
      simp
    · unfold La.blocksN
      rw [hnil, a4]
      simp [La.cntTo]
  · obtain ⟨h8, j0, l0, hj0, hl0⟩ := anyB_some h0
    rw [if_pos (show 0 < (La.dblOf zs).length by omega)] at hf
    have hc1 := t1.cnt
    obtain ⟨n, n1, n2, n3, n4, n5, n6, n7⟩ := t1.take (by omega)
    have hc2 := n6.cnt
    rw [List.length_append, List.length_singleton] at hc2
    obtain ⟨m2, top2, T2, t, c1, c2, c3, c4, c5, c6⟩ := n6.stores (ls := La.dblOf zs) (dbl_ok hp) (La.dblOf zs).length (Nat.le_refl _) (by omega)
    have hb2 := hc.b2
    have e : stD V1 (La.dblOf zs) = (wrV (stT (rnV V1 1) (La.dblOf zs) (La.dblOf zs).length).1 (n : Int) (La.writeL (stT (rnV V1 1) (La.dblOf zs) (La.dblOf zs).length).2).1, (n : Int)) := by unfold stD; rw [if_neg h0, n4]
    rw [e]
    generalize (stT (rnV V1 1) (La.dblOf zs) (La.dblOf zs).length).1 = W at *
    generalize (stT (rnV V1 1) (La.dblOf zs) (La.dblOf zs).length).2 = bs at *
    have hbs : ∀ x ∈ bs, 0 ≤ x ∧ x ≤ 65535 := fun x hx => by
      rcases c6 x hx with e | e
      · omega
      · have := t.lt x (List.mem_append_right _ e); omega
    obtain ⟨w1, w2⟩ := lw_ok (l := bs) (by omega) hbs
    obtain ⟨x1, x2, x3, x4⟩ := t.write (x := (n : Int)) (by simp) w2
    simp only
    generalize hW2 : wrV W (n : Int) (La.writeL bs).1 = W2 at *
    have hz : La.zeroB bs = false := by
      have q := (c4 j0 (by omega)).2
      rw [hl0] at q
      refine La.zeroB_f (k := j0) (by omega) (fun e0 => ?_)
      rw [e0] at q
      cases q
    obtain ⟨r1, r2⟩ := rl_written (V := W2) (b := b) (a := (n : Int)) (by omega) (by omega) w1 hz x3
    have hdv : dblV W2 (n : Int) = bs := by unfold dblV; rw [r2]; rfl
    have hsg : sg = 0 ∨ sg ∈ T1 := by
      by_cases e0 : sg = 0
      · exact .inl e0
      · right; rw [← a3]; simp [e0]
    have hne : ∀ x ∈ T1, x ≠ (n : Int) := fun x hx => by have := (t1.lt x hx).2.1; omega
    have hsame : sg ≠ 0 → bA W2 sg = bA V1 sg := fun hs => by
      have hm : sg ∈ T1 := by rcases hsg with e0 | e0; exact absurd e0 hs; exact e0
      rw [x4 sg (t1.lt sg hm).1 (hne sg hm), c5 sg (List.mem_append_left _ hm), n7 sg hm]
    have hT2 : ∀ x ∈ T2, 51 ≤ x ∧ x ≠ (n : Int) := fun x hx => by
      have h1 := t.lt x (List.mem_append_right _ hx)
      refine ⟨h1.1, ?_⟩
      have h2 := (List.pairwise_append.1 t.asc).2.2 (n : Int) (by simp) x hx
      omega
    have hbsame : ∀ x ∈ bs, x ≠ 0 → bA W2 x = bA W x := fun x hx h0 => by
      rcases c6 x hx with e0 | e0
      · exact absurd e0 h0
      · exact x4 x (hT2 x e0).1 (hT2 x e0).2
    refine ⟨m2, top2, T1 ++ [(n : Int)] ++ T2, x2, ⟨(rlOk_same hsame).trans a1, (rlV_same hsame).trans a2, r1, ?_, fun x hx => ?_, ?_, x2.asc, hus x2, ?_⟩⟩
    · unfold lsV
      rw [hdv]
      apply List.ext_getElem (by rw [List.length_map]; omega)
      intro j j1 j2
      rw [List.getElem_map]
      have q := (c4 j j2).2
      rw [show bs.getD j 0 = bs[j]'(by omega) by simp [List.getD, List.getElem?_eq_getElem (show j < bs.length by omega)], show (La.dblOf zs).getD j none = (La.dblOf zs)[j] by simp [List.getD, List.getElem?_eq_getElem j2]] at q
      rw [← q]
      exact rlV_same (hbsame _ (List.getElem_mem _))
    · rw [hdv] at hx
      obtain ⟨j, j1, rfl⟩ := List.getElem_of_mem hx
      have q := (c4 j (by omega)).1
      rw [show bs.getD j 0 = bs[j] by simp [List.getD, List.getElem?_eq_getElem j1]] at q
      exact (rlOk_same (hbsame _ (List.getElem_mem _))).trans q
    · unfold ldL
      rw [hdv, show [sg, (n : Int)] ++ bs = [sg] ++ ([(n : Int)] ++ bs) by rfl, List.filter_append, List.filter_append, a3, c3]
      have : [(n : Int)].filter (fun x => decide (x ≠ 0)) = [(n : Int)] := by simp; omega
      rw [this, List.append_assoc]
    · unfold La.blocksN
      rw [List.length_append, List.length_append, a4, c1, if_pos (show 0 < (La.dblOf zs).length by omega)]
      rfl

/-! ### Save -/
def svP (V : List ByteArray) (L0 zs : List Int) : List ByteArray × Int := stL (dpT V L0 L0.length) ((La.optP zs 1).getD [])
def svQ (V : List ByteArray) (L0 zs : List Int) : List ByteArray × Int := stD (svP V L0 zs).1 (La.dblOf zs)
def need (zs : List Int) : Nat := La.blocksN ((La.optP zs 1).getD []).length (La.dblOf zs).length (La.dblOf zs)
theorem save_is {b : Nat} {V : List ByteArray} {m : ByteArray} (hc : Crd V b m) {L0 zs : List Int} (ha : L0.Pairwise (· < ·)) (hu : ∀ x ∈ L0, 51 ≤ x ∧ x < b ∧ bitN m x.toNat = true) (hp : ptsOk b zs = true) (hf : need zs ≤ fcn m b + L0.length) :
    ∃ (m' : ByteArray) (L : List Int), Crd (svQ V L0 zs).1 b m' ∧ FileAt (svQ V L0 zs).1 b m' (svP V L0 zs).2 (svQ V L0 zs).2 zs L ∧ fcn m' b + need zs = fcn m b + L0.length ∧
      ∀ i : Int, 51 ≤ i → bitN m i.toNat = true → i ∉ L0 → bitN m' i.toNat = true ∧ i ∉ L ∧ bA (svQ V L0 zs).1 i = bA V i := by
  obtain ⟨m1, d⟩ := dp_all hc ha hu L0.length (Nat.le_refl _)
  have hd := d.cnt
  rw [List.take_length] at hd d
  obtain ⟨m', top, L, t, f⟩ := store_all d.cr hp (by unfold need at hf; omega)
  refine ⟨m', L, t.cr, f, ?_, fun i i1 i2 i3 => ?_⟩
  · have h1 := t.cnt
    have h2 := f.ln
    unfold need
    omega
  · have hbit : bitN m1 i.toNat = true := by rw [d.bits, i2, show ((i.toNat : Nat) : Int) = i by omega]; simp [i3]
    have hL : i ∉ L := fun hm => by rw [t.new i hm] at hbit; cases hbit
    refine ⟨by rw [t.bits, hbit]; rfl, hL, (t.keep i i1 hL).trans (d.keep i i1)⟩
end Go.Proofs.YtppbonjhckakiaaGreat.Dl
