import Derived.Test.YtgdlfiejjnjcpaaGreatGA
import Derived.Test.YtgdlfiejjnjcpaaGreatSOf
/-
  PLAIN MATHEMATICS of runs: run blocks, what a card's runs say of a view, what is taken for a map's run blocks, and what a file of them is. No condition.
-/
set_option linter.unusedVariables false
set_option linter.unusedSimpArgs false
set_option maxRecDepth 100000
set_option maxHeartbeats 4000000
namespace Go.Proofs.YtgdlfiejjnjcpaaGreat.Dl
open Go.RowKit
open Mk
open Lg (z128)

/-- a block of the view. -/
def bA (V : List ByteArray) (i : Int) : ByteArray := V.getD i.toNat ⟨#[]⟩
/-- 0, or a block that files can have. -/
def ptOk (b : Int) (x : Int) : Bool := x == 0 || (decide (51 ≤ x) && decide (x < b))
def ptsOk (b : Int) (l : List Int) : Bool := l.all (ptOk b)
theorem ptOk_t {b x : Int} : ptOk b x = true ↔ x = 0 ∨ (51 ≤ x ∧ x < b) := by simp [ptOk]
theorem getD_or (l : List Int) (k : Nat) : l.getD k 0 = 0 ∨ l.getD k 0 ∈ l := by
  rcases Nat.lt_or_ge k l.length with h | h
  · right
    rw [show l.getD k 0 = l[k] by simp [List.getD, List.getElem?_eq_getElem h]]
    exact List.getElem_mem h
  · left; simp [List.getD, List.getElem?_eq_none h]
theorem padS_size (s : ByteArray) (n : Nat) (h : s.size ≤ n) : (padS s n).size = n := by
  have e : (padS s n).size = s.data.toList.length + (n - s.size) := by show ((s.data.toList ++ List.replicate (n - s.size) 0).toArray).size = _; simp
  have e2 : s.data.toList.length = s.size := by rw [Array.length_toList]; rfl
  omega
theorem fcn_pos {m : ByteArray} : ∀ t, 1 ≤ fcn m t → ∃ j, 51 ≤ j ∧ j < t ∧ bitN m j = false
  | 0, h => by simp [fcn] at h
  | t + 1, h => by
    by_cases h1 : 51 ≤ t ∧ bitN m t = false
    · exact ⟨t, h1.1, by omega, h1.2⟩
    · rw [fcn, if_neg h1] at h
      obtain ⟨j, h2, h3, h4⟩ := fcn_pos t h
      exact ⟨j, h2, by omega, h4⟩
theorem fcn_set {m : ByteArray} {n : Nat} (hm : m.size = 128) (h1 : 51 ≤ n) (h2 : n < 1024) (h0 : bitN m n = false) : ∀ t, fcn (setN m n true) t + (if n < t then 1 else 0) = fcn m t
  | 0 => by simp [fcn]
  | t + 1 => by
    have ih := fcn_set hm h1 h2 h0 t
    rw [fcn, fcn, bit_setN _ _ _ _ (by omega)]
    by_cases e : t = n
    · subst e
      rw [if_neg (by omega)] at ih
      rw [if_pos rfl, if_neg (by simp), if_pos (by omega), if_pos ⟨h1, h0⟩]
      omega
    · rw [if_neg e]
      generalize (if 51 ≤ t ∧ bitN m t = false then 1 else 0) = z
      by_cases h : n < t
      · rw [if_pos h] at ih; rw [if_pos (by omega)]; omega
      · rw [if_neg h] at ih; rw [if_neg (by omega)]; omega
theorem fcn_off {m : ByteArray} {n : Nat} (hm : m.size = 128) (h1 : 51 ≤ n) (h2 : n < 1024) (h0 : bitN m n = true) : ∀ t, fcn (setN m n false) t = fcn m t + (if n < t then 1 else 0)
  | 0 => by simp [fcn]
  | t + 1 => by
    have ih := fcn_off hm h1 h2 h0 t
    rw [fcn, fcn, bit_setN _ _ _ _ (by omega)]
    by_cases e : t = n
    · subst e
      rw [if_neg (by omega)] at ih
      rw [if_pos rfl, if_pos ⟨h1, rfl⟩, if_neg (fun h : 51 ≤ t ∧ bitN m t = false => by rw [h0] at h; cases h.2), if_pos (show t < t + 1 by omega)]
      omega
    · rw [if_neg e]
      generalize (if 51 ≤ t ∧ bitN m t = false then 1 else 0) = z
      by_cases h : n < t
      · rw [if_pos h] at ih; rw [if_pos (by omega)]; omega
      · rw [if_neg h] at ih; rw [if_neg (by omega)]; omega
/-- V', m' stand behind V, m when the blocks of T have been taken, all of them below top, and none below top is free. -/
structure Tkn (b : Nat) (V : List ByteArray) (m : ByteArray) (V' : List ByteArray) (m' : ByteArray) (top : Nat) (T : List Int) : Prop where
  cr : Crd V' b m'
  hi : ∀ j, 51 ≤ j → j < top → bitN m' j = true
  lt : ∀ x ∈ T, 51 ≤ x ∧ x < top ∧ x < b
  asc : T.Pairwise (· < ·)
  bits : ∀ j : Nat, bitN m' j = (bitN m j || decide ((j : Int) ∈ T))
  keep : ∀ i : Int, 51 ≤ i → i ∉ T → bA V' i = bA V i
  cnt : fcn m' b + T.length = fcn m b
  new : ∀ x ∈ T, bitN m x.toNat = false
theorem Tkn.start {b : Nat} {V : List ByteArray} {m : ByteArray} (h : Crd V b m) : Tkn b V m V m 51 [] :=
  ⟨h, fun j h1 h2 => by omega, by simp, .nil, fun j => by simp, fun _ _ _ => rfl, by simp, by simp⟩
section
variable {b : Nat} {V V' : List ByteArray} {m m' : ByteArray} {top : Nat} {T : List Int}
theorem Tkn.take (h : Tkn b V m V' m' top T) (hf : 1 ≤ fcn m' b) : ∃ n : Nat, top ≤ n ∧ 51 ≤ n ∧ n < b ∧ rnA V' 1 = (n : Int) ∧ (∀ j : Nat, 51 ≤ j → j < n → bitN m' j = true) ∧ Tkn b V m (rnV V' 1) (setN m' n true) (n + 1) (T ++ [(n : Int)]) ∧ (∀ x ∈ T, bA (rnV V' 1) x = bA V' x) := by
  have hb2 := h.cr.b2
  have hsz := h.cr.sz
  have hI := fnd_is m' b 1 hsz (by omega) (by omega)
  generalize hfa : (fndP m' b (1 : Nat)).1 = a at hI
  generalize hfl : (fndP m' b (1 : Nat)).2 = l at hI
  have hI' : IsFnd m' b 1 a l := hI
  rcases hI with ⟨rfl, h0⟩ | ⟨h1, h2, h3, h4, h5⟩
  · obtain ⟨j, j1, j2, j3⟩ := fcn_pos b hf
    exact absurd ⟨j1, by omega, fun t ht => by rw [show j + t = j by omega]; exact j3⟩ (h0 j)
  · obtain rfl : l = 1 := by omega
    obtain ⟨e1, e2, e3, e4⟩ := h.cr.some (Nat.le_refl 1) (by decide) hI'
    have e5 : rnV V' ((1 : Nat) : Int) = rnV V' 1 := rfl
    have e6 : rnA V' ((1 : Nat) : Int) = rnA V' 1 := rfl
    rw [e5] at e4
    rw [e6] at e2
    have e7 : takeN m' a 1 = setN m' a true := rfl
    rw [e7] at e4
    have ha := h3.1
    have hab := h3.2.1
    have hfree : bitN m' a = false := by have := h3.2.2 0 (by omega); simpa using this
    have htop : top ≤ a := by
      rcases Nat.lt_or_ge a top with e | e
      · rw [h.hi a ha e] at hfree; cases hfree
      · exact e
    have hlow : ∀ j, 51 ≤ j → j < a → bitN m' j = true := fun j j1 j2 => by
      cases hj : bitN m' j with
      | true => rfl
      | false => exact absurd ⟨j1, by omega, fun t ht => by rw [show j + t = j by omega]; exact hj⟩ (h4 j j2)
    have hnot : ((a : Nat) : Int) ∉ T := fun hm => by have := (h.lt _ hm).2.1; omega
    have hV : ∀ i : Int, 51 ≤ i → i ≠ a → bA (rnV V' 1) i = bA V' i := fun i i1 i2 => by
      have e1' : rnE V' 1 = 0 := e1
      unfold bA rnV
      rw [if_pos e1', getD_set2, if_neg (by omega)]
      have hf1 : fnV V' 1 = (a, 1) := by
        unfold fnV
        rw [h.cr.cb, h.cr.mb]
        exact Prod.ext hfa hfl
      rw [hf1]
      show (V'.set (a + 0) z128).getD i.toNat ⟨#[]⟩ = _
      rw [getD_set2, if_neg (by omega)]
    refine ⟨a, htop, ha, by omega, e2, hlow, ⟨e4, fun j j1 j2 => ?_, fun x hx => ?_, ?_, fun j => ?_, fun i i1 i2 => ?_, ?_, fun x hx => ?_⟩, fun x hx => ?_⟩
    · rw [bit_setN _ _ _ _ (by omega)]
      by_cases e : j = a
      · rw [if_pos e]
      · rw [if_neg e]; exact hlow j j1 (by omega)
    · rcases List.mem_append.1 hx with hx | hx
      · have := h.lt x hx; omega
      · simp at hx; omega
    · rw [List.pairwise_append]
      refine ⟨h.asc, by simp, fun x hx y hy => ?_⟩
      have := h.lt x hx
      simp at hy
      omega
    · rw [bit_setN _ _ _ _ (by omega), h.bits j]
      by_cases e : j = a
      · rw [if_pos e]; simp [e]
      · rw [if_neg e]
        have : ((j : Int) ∈ T ++ [(a : Int)]) ↔ (j : Int) ∈ T := by simp; omega
        rw [decide_eq_decide.2 this]
    · have i3 : i ∉ T := fun hm => i2 (List.mem_append_left _ hm)
      have i4 : i ≠ a := fun e => i2 (by simp [e])
      rw [hV i i1 i4]
      exact h.keep i i1 i3
    · have := h.cnt
      have := fcn_set (t := b) hsz ha (by omega) hfree
      rw [if_pos (by omega)] at this
      rw [List.length_append, List.length_singleton]
      omega
    · rcases List.mem_append.1 hx with hx | hx
      · exact h.new x hx
      · simp at hx
        subst hx
        rw [Int.toNat_natCast]
        have := h.bits a
        rw [hfree] at this
        cases hm : bitN m a with
        | false => rfl
        | true => rw [hm] at this; cases this
    · have := h.lt x hx
      exact hV x this.1 (by omega)
theorem Tkn.write (h : Tkn b V m V' m' top T) {x : Int} (hx : x ∈ T) {s : ByteArray} (hs : s.size = 128) : wrE V' x s = 0 ∧ Tkn b V m (wrV V' x s) m' top T ∧ bA (wrV V' x s) x = s ∧ ∀ y : Int, 51 ≤ y → y ≠ x → bA (wrV V' x s) y = bA V' y := by
  have hlt := h.lt x hx
  have hl : b ≤ V'.length := by have := (cr_b h.cr.ok).2.2.2; rw [h.cr.cb] at this; omega
  have hok : wrOk V' x s = true := by unfold wrOk; rw [hasB_t.2 (by omega), hs]; rfl
  have e : wrV V' x s = V'.set x.toNat s := by unfold wrV; rw [if_pos hok, Lg.padS_full hs]
  have hother : ∀ y : Int, 51 ≤ y → y ≠ x → bA (wrV V' x s) y = bA V' y := fun y y1 y2 => by
    unfold bA
    rw [e, getD_set2, if_neg (by omega)]
  refine ⟨by unfold wrE; rw [if_pos hok], ⟨?_, h.hi, h.lt, h.asc, h.bits, fun i i1 i2 => ?_, h.cnt, h.new⟩, ?_, hother⟩
  · rw [e]
    refine h.cr.set (by rw [getD_set2, if_neg (by omega)]) (by rw [List.length_set]) ?_ h.cr.sz
    show (V'.set x.toNat s).getD 42 ⟨#[]⟩ = _
    rw [getD_set2, if_neg (by omega)]
    exact h.cr.mb
  · rw [hother i i1 (fun e => i2 (e ▸ hx))]
    exact h.keep i i1 i2
  · unfold bA
    rw [e, getD_set2, if_pos ⟨rfl, by omega⟩]
end
def dpT (V : List ByteArray) (L : List Int) : Nat → List ByteArray
  | 0 => V
  | k + 1 => dpV (dpT V L k) (L.getD k 0)
structure Dpn (b : Nat) (V : List ByteArray) (m : ByteArray) (V' : List ByteArray) (m' : ByteArray) (T : List Int) : Prop where
  cr : Crd V' b m'
  bits : ∀ j : Nat, bitN m' j = (bitN m j && !decide ((j : Int) ∈ T))
  keep : ∀ i : Int, 51 ≤ i → bA V' i = bA V i
  cnt : fcn m' b = fcn m b + T.length
theorem asc_take {L : List Int} (h : L.Pairwise (· < ·)) {k : Nat} (hk : k < L.length) : L.getD k 0 ∉ L.take k := by
  intro hm
  obtain ⟨i, hi, e⟩ := List.getElem_of_mem hm
  rw [List.length_take] at hi
  rw [List.getElem_take] at e
  have := (List.pairwise_iff_getElem.1 h) i k (by omega) hk (by omega)
  rw [show L.getD k 0 = L[k] by simp [List.getD, List.getElem?_eq_getElem hk]] at e
  omega
theorem dp_all {b : Nat} {V : List ByteArray} {m : ByteArray} (h : Crd V b m) {L : List Int} (ha : L.Pairwise (· < ·)) (hu : ∀ x ∈ L, 51 ≤ x ∧ x < b ∧ bitN m x.toNat = true) : ∀ k, k ≤ L.length → ∃ m', Dpn b V m (dpT V L k) m' (L.take k)
  | 0, _ => ⟨m, h, fun j => by simp, fun _ _ => rfl, by simp⟩
  | k + 1, hk => by
    obtain ⟨m', d⟩ := dp_all h ha hu k (by omega)
    have hb2 := d.cr.b2
    have hx := asc_take ha (show k < L.length by omega)
    have hmem : L.getD k 0 ∈ L := by
      rw [show L.getD k 0 = L[k] by simp [List.getD, List.getElem?_eq_getElem (show k < L.length by omega)]]
      exact List.getElem_mem _
    have htk : L.take (k + 1) = L.take k ++ [L.getD k 0] := by
      rw [List.take_add_one]
      simp [List.getD, List.getElem?_eq_getElem (show k < L.length by omega)]
    obtain ⟨u1, u2, u3⟩ := hu _ hmem
    rw [htk]
    show ∃ m', Dpn b V m (dpV (dpT V L k) (L.getD k 0)) m' _
    generalize L.getD k 0 = x at *
    obtain ⟨n, rfl⟩ := Int.eq_ofNat_of_zero_le (show 0 ≤ x by omega)
    rw [Int.toNat_natCast] at u3
    have hbit : bitN m' n = true := by rw [d.bits n, u3]; simp [hx]
    obtain ⟨e1, e2⟩ := d.cr.drop (i := n) (by omega) (by omega) hbit
    refine ⟨_, e2, fun j => ?_, fun i i1 => ?_, ?_⟩
    · rw [bit_setN _ _ _ _ (by rw [d.cr.sz]; omega), d.bits j]
      by_cases e : j = n
      · rw [if_pos e]; simp [e]
      · rw [if_neg e]
        have : ((j : Int) ∈ L.take k ++ [(n : Int)]) ↔ (j : Int) ∈ L.take k := by simp; omega
        rw [decide_eq_decide.2 this]
    · rw [← d.keep i i1]
      unfold bA dpV
      rw [if_pos e1, getD_set2, if_neg (by omega)]
    · have := fcn_off (t := b) d.cr.sz (show 51 ≤ n by omega) (by omega) hbit
      rw [if_pos (by omega), d.cnt] at this
      rw [List.length_append, List.length_singleton]
      omega
theorem pts_range {b : Int} (hb : b ≤ 400) {l : List Int} (h : ptsOk b l = true) : ∀ x ∈ l, 0 ≤ x ∧ x ≤ 65535 := fun x hx => by
  have := ptOk_t.1 (List.all_eq_true.1 h x hx)
  omega
theorem bytes_of_nums : ∀ (bs : List Int), (∀ b ∈ bs, 0 ≤ b ∧ b ≤ 255) → bytesOf (strOfNums bs) = bs := by
  intro bs h
  unfold bytesOf
  rw [strOfNums_data, List.map_map]
  conv => rhs; rw [← List.map_id bs]
  refine List.map_congr_left fun b hb => ?_
  have := h b hb
  simp only [Function.comp, id]
  rw [UInt8.toNat_ofNat']
  omega

/-! ### lists without one element twice -/
theorem nodup_bd : ∀ (n : Nat) (a : Int) (l : List Int), l.Nodup → (∀ x ∈ l, a ≤ x ∧ x < a + n) → l.length ≤ n
  | 0, a, l, _, h => by
    cases l with
    | nil => exact Nat.le_refl _
    | cons x l => have := h x (List.mem_cons_self ..); omega
  | n + 1, a, l, hd, h => by
    by_cases hm : a + (n : Int) ∈ l
    · have h1 : (l.erase (a + n)).Nodup := hd.erase _
      have h2 := nodup_bd n a (l.erase (a + n)) h1 (fun x hx => by
        obtain ⟨e1, e2⟩ := (List.Nodup.mem_erase_iff hd).1 hx
        have := h x e2
        omega)
      have h3 := List.length_erase_of_mem hm
      have h4 : 0 < l.length := List.length_pos_of_mem hm
      omega
    · have := nodup_bd n a l hd (fun x hx => by
        have h1 := h x hx
        have : x ≠ a + n := fun e => hm (e ▸ hx)
        omega)
      omega

/-! ### run blocks -/
/-- the layout of a run block. -/
def wR : List Int := [1] ++ List.replicate 60 2 ++ List.replicate 5 1 ++ [2]
theorem wR_len : wR.length = 67 := by decide
theorem wR_ok : okTo wR wR.length = true := by decide
theorem wR_sum : sumTo wR wR.length = 128 := by decide
def spI (s : Sp) : List Int := [s.at_, s.st, s.len]
def spsI (l : List Sp) : List Int := l.flatMap spI
theorem spsI_len (l : List Sp) : (spsI l).length = 3 * l.length := by
  unfold spsI
  induction l with
  | nil => rfl
  | cons a l ih => rw [List.flatMap_cons, List.length_append, ih]; simp [spI]; omega
theorem spsI_snoc (l : List Sp) (s : Sp) : spsI (l ++ [s]) = spsI l ++ spI s := by simp [spsI]
theorem spsI_at (l : List Sp) (k : Nat) (hk : k < l.length) : (spsI l).getD (3 * k) 0 = (l.getD k Sp.z).at_ ∧ (spsI l).getD (3 * k + 1) 0 = (l.getD k Sp.z).st ∧ (spsI l).getD (3 * k + 2) 0 = (l.getD k Sp.z).len := by
  induction l generalizing k with
  | nil => exact absurd hk (Nat.not_lt_zero _)
  | cons a l ih =>
    cases k with
    | zero => exact ⟨rfl, rfl, rfl⟩
    | succ k =>
      have h := ih k (by simpa using hk)
      have e : spsI (a :: l) = a.at_ :: a.st :: a.len :: spsI l := rfl
      have e1 : 3 * (k + 1) = 3 * k + 1 + 1 + 1 := by omega
      rw [e, e1]
      exact h
/-- the values of a run block of which k spans stand there. -/
def valsT (g : List Sp) (nx : Int) (k : Nat) : List Int := (g.length : Int) :: (spsI (g.take k) ++ (List.replicate (65 - 3 * k) 0 ++ [nx]))
def valsB (g : List Sp) (nx : Int) : List Int := valsT g nx g.length
theorem valsT_len (g : List Sp) (nx : Int) (k : Nat) (h : k ≤ g.length) (h2 : g.length ≤ 20) : (valsT g nx k).length = 67 := by
  unfold valsT
  rw [List.length_cons, List.length_append, List.length_append, spsI_len, List.length_replicate, List.length_take, List.length_singleton]
  omega
theorem valsB_len (g : List Sp) (nx : Int) (h : g.length ≤ 20) : (valsB g nx).length = 67 := valsT_len g nx _ (Nat.le_refl _) h
theorem gd_app_l (a b : List Int) (k : Nat) (h : k < a.length) : (a ++ b).getD k 0 = a.getD k 0 := by simp [List.getD, List.getElem?_append_left h]
theorem gd_app_r (a b : List Int) (k : Nat) (h : a.length ≤ k) : (a ++ b).getD k 0 = b.getD (k - a.length) 0 := by simp [List.getD, List.getElem?_append_right h]
theorem gd_cons (a : Int) (l : List Int) (k : Nat) : (a :: l).getD (k + 1) 0 = l.getD k 0 := rfl
theorem valsB_0 (g : List Sp) (nx : Int) : (valsB g nx).getD 0 0 = (g.length : Int) := rfl
theorem valsB_66 (g : List Sp) (nx : Int) (h : g.length ≤ 20) : (valsB g nx).getD 66 0 = nx := by
  unfold valsB valsT
  rw [gd_cons, List.take_length, gd_app_r _ _ _ (by rw [spsI_len]; omega), gd_app_r _ _ _ (by rw [spsI_len, List.length_replicate]; omega), spsI_len, List.length_replicate, show 65 - 3 * g.length - (65 - 3 * g.length) = 0 by omega]
  rfl
theorem valsB_at (g : List Sp) (nx : Int) (k : Nat) (hk : k < g.length) : (valsB g nx).getD (1 + 3 * k) 0 = (g.getD k Sp.z).at_ ∧ (valsB g nx).getD (2 + 3 * k) 0 = (g.getD k Sp.z).st ∧ (valsB g nx).getD (3 + 3 * k) 0 = (g.getD k Sp.z).len := by
  obtain ⟨h1, h2, h3⟩ := spsI_at g k hk
  have hl := spsI_len g
  unfold valsB valsT
  rw [List.take_length, show 1 + 3 * k = 3 * k + 1 by omega, show 2 + 3 * k = 3 * k + 1 + 1 by omega, show 3 + 3 * k = 3 * k + 2 + 1 by omega, gd_cons, gd_cons, gd_cons, gd_app_l _ _ _ (by omega), gd_app_l _ _ _ (by omega), gd_app_l _ _ _ (by omega)]
  exact ⟨h1, h2, h3⟩
/-- the bytes of a run block. -/
def blockB (g : List Sp) (nx : Int) : ByteArray := strOfNums (writeR wR (valsB g nx)).1
def grpV (vs : List Int) (k : Nat) : List Sp := (List.range k).map fun j => ⟨vs.getD (1 + 3 * j) 0, vs.getD (2 + 3 * j) 0, vs.getD (3 + 3 * j) 0⟩
theorem grpV_len (vs : List Int) (k : Nat) : (grpV vs k).length = k := by simp [grpV]
theorem grpV_succ (vs : List Int) (k : Nat) : grpV vs (k + 1) = grpV vs k ++ [⟨vs.getD (1 + 3 * k) 0, vs.getD (2 + 3 * k) 0, vs.getD (3 + 3 * k) 0⟩] := by unfold grpV; rw [List.range_succ, List.map_append]; rfl
theorem grp_vals (g : List Sp) (nx : Int) : grpV (valsB g nx) g.length = g := by
  apply List.ext_getElem (by rw [grpV_len])
  intro k h1 h2
  obtain ⟨e1, e2, e3⟩ := valsB_at g nx k h2
  simp only [grpV, List.getElem_map, List.getElem_range, e1, e2, e3]
  simp [List.getD, List.getElem?_eq_getElem h2]
def rvs (s : ByteArray) : List Int := (readR wR (bytesOf s)).1
def cntB (s : ByteArray) : Int := (rvs s).getD 0 0
def nxB (s : ByteArray) : Int := (rvs s).getD 66 0
def grpB (s : ByteArray) : List Sp := grpV (rvs s) (cntB s).toNat
def headOk (s : ByteArray) : Bool := decide (1 ≤ cntB s) && decide (cntB s ≤ 20) && (decide (20 ≤ cntB s) || decide (nxB s = 0))
theorem headOk_t {s : ByteArray} : headOk s = true ↔ 1 ≤ cntB s ∧ cntB s ≤ 20 ∧ (20 ≤ cntB s ∨ nxB s = 0) := by simp [headOk, and_assoc]
def blkOk (s : ByteArray) : Bool := headOk s && decide (blockB (grpB s) (nxB s) = s)
theorem rvs_ok {s : ByteArray} (h : s.size = 128) : readR wR (bytesOf s) = (rvs s, 0) ∧ (rvs s).length = 67 := by
  have e := readR_ok (ws := wR) (bs := bytesOf s) wR_ok (by rw [wR_sum, bytesOf_len, h]; decide)
  unfold rvs
  rw [e]
  exact ⟨rfl, by rw [readTo_len]; rfl⟩
theorem rvs_fit {s : ByteArray} (h : s.size = 128) : ∀ k, 0 ≤ (rvs s).getD k 0 ∧ (rvs s).getD k 0 ≤ 65535 := fun k => by
  have e := readR_ok (ws := wR) (bs := bytesOf s) wR_ok (by rw [wR_sum, bytesOf_len, h]; decide)
  unfold rvs
  rw [e]
  show 0 ≤ (readTo wR (bytesOf s) wR.length).getD k 0 ∧ (readTo wR (bytesOf s) wR.length).getD k 0 ≤ 65535
  rcases Nat.lt_or_ge k wR.length with hk | hk
  · rw [readTo_get _ _ _ _ hk]
    have hd := decF_bd (bytesOf s) (bytesOf_bd s) (wR.getD k 0).toNat (sumTo wR k).toNat
    have hw : (wR.getD k 0).toNat ≤ 2 := by
      have : ∀ k, k < 67 → (wR.getD k 0).toNat ≤ 2 := by decide
      exact this k hk
    generalize (wR.getD k 0).toNat = n at *
    generalize decF (bytesOf s) (sumTo wR k).toNat n = z at *
    have : n = 0 ∨ n = 1 ∨ n = 2 := by omega
    rcases this with rfl | rfl | rfl <;> omega
  · rw [show (readTo wR (bytesOf s) wR.length).getD k 0 = 0 by simp [List.getD, List.getElem?_eq_none (show (readTo wR (bytesOf s) wR.length).length ≤ k by rw [readTo_len]; exact hk)]]
    omega
/-- numbers of two bytes each. -/
def spU (s : Sp) : Prop := (0 ≤ s.at_ ∧ s.at_ ≤ 65535) ∧ (0 ≤ s.st ∧ s.st ≤ 65535) ∧ (0 ≤ s.len ∧ s.len ≤ 65535)
theorem spU_small {s : Sp} (h : spU s) : s.small := by unfold spU at h; unfold Sp.small; omega
theorem spU_z : spU Sp.z := by unfold spU Sp.z; simp
theorem spU_in {s : Sp} (h : inB s = true) : spU s := by
  have := inB_iff.1 h
  unfold spU
  omega
theorem grp_fit {s : ByteArray} (h : s.size = 128) : ∀ x ∈ grpB s, spU x := fun x hx => by
  unfold grpB grpV at hx
  obtain ⟨j, _, rfl⟩ := List.mem_map.1 hx
  exact ⟨rvs_fit h _, rvs_fit h _, rvs_fit h _⟩
theorem fitTo_of (ws vs : List Int) : ∀ k, (∀ j, j < k → fitB (vs.getD j 0) (ws.getD j 0) = true) → fitTo ws vs k = true
  | 0, _ => rfl
  | k + 1, h => by rw [fitTo, fitTo_of ws vs k fun j hj => h j (by omega), h k (by omega)]; rfl
theorem valsB_u (g : List Sp) (nx : Int) (hg : ∀ s ∈ g, spU s) (hn : 0 ≤ nx ∧ nx ≤ 65535) (h : g.length ≤ 20) : ∀ x ∈ valsB g nx, 0 ≤ x ∧ x ≤ 65535 := fun x hx => by
  unfold valsB valsT at hx
  rw [List.take_length] at hx
  rcases List.mem_cons.1 hx with rfl | hx
  · omega
  · rcases List.mem_append.1 hx with hx | hx
    · unfold spsI at hx
      obtain ⟨s, hs, hx⟩ := List.mem_flatMap.1 hx
      have := hg s hs
      unfold spU at this
      unfold spI at hx
      simp only [List.mem_cons, List.not_mem_nil, or_false] at hx
      rcases hx with rfl | rfl | rfl <;> omega
    · rcases List.mem_append.1 hx with hx | hx
      · have := List.eq_of_mem_replicate hx; omega
      · rw [List.mem_singleton] at hx; omega
theorem valsB_mid (g : List Sp) (nx : Int) (h : g.length ≤ 20) (j : Nat) (h1 : 61 ≤ j) (h2 : j < 66) : (valsB g nx).getD j 0 = 0 := by
  obtain ⟨i, rfl⟩ : ∃ i, j = i + 1 := ⟨j - 1, by omega⟩
  unfold valsB valsT
  rw [gd_cons, List.take_length, gd_app_r _ _ _ (by rw [spsI_len]; omega), gd_app_l _ _ _ (by rw [spsI_len, List.length_replicate]; omega), spsI_len]
  generalize i - 3 * g.length = q
  generalize 65 - 3 * g.length = r
  rw [List.getD, List.getElem?_replicate]
  split <;> rfl
theorem vals_fits (g : List Sp) (nx : Int) (hg : ∀ s ∈ g, spU s) (hn : 0 ≤ nx ∧ nx ≤ 65535) (h : g.length ≤ 20) : fitTo wR (valsB g nx) wR.length = true := by
  refine fitTo_of _ _ _ fun j hj => ?_
  have hu : 0 ≤ (valsB g nx).getD j 0 ∧ (valsB g nx).getD j 0 ≤ 65535 := by
    rcases getD_or (valsB g nx) j with e | e
    · omega
    · exact valsB_u g nx hg hn h _ e
  have hw : ∀ j, j < 67 → wR.getD j 0 = (if j = 0 ∨ (61 ≤ j ∧ j < 66) then 1 else 2) := by decide
  rw [hw j hj]
  unfold fitB
  rw [decide_eq_true_eq]
  by_cases e : j = 0 ∨ (61 ≤ j ∧ j < 66)
  · rw [if_pos e]
    have : mostOf 1 = 255 := by decide
    rw [this]
    rcases e with rfl | ⟨e1, e2⟩
    · rw [valsB_0]; omega
    · rw [valsB_mid g nx h j e1 e2]; omega
  · rw [if_neg e]
    have : mostOf 2 = 65535 := by decide
    rw [this]
    exact hu
theorem write_vals (g : List Sp) (nx : Int) (hg : ∀ s ∈ g, spU s) (hn : 0 ≤ nx ∧ nx ≤ 65535) (h : g.length ≤ 20) : (writeR wR (valsB g nx)).2 = 0 := by
  rw [writeR_ok wR_ok (by rw [valsB_len g nx h]; rfl) (vals_fits g nx hg hn h)]
theorem block_size (g : List Sp) (nx : Int) (hg : ∀ s ∈ g, spU s) (hn : 0 ≤ nx ∧ nx ≤ 65535) (h : g.length ≤ 20) : (blockB g nx).size = 128 := by
  have h1 := (readR_written wR (valsB g nx) [] (write_vals g nx hg hn h)).2
  rw [sizeS_good wR wR_ok, wR_sum] at h1
  have h2 : (blockB g nx).size = (writeR wR (valsB g nx)).1.length := by
    rw [← bytesOf_len]
    unfold blockB
    rw [bytes_of_nums _ (writeR_bytes wR _)]
  omega
theorem rvs_block (g : List Sp) (nx : Int) (hg : ∀ s ∈ g, spU s) (hn : 0 ≤ nx ∧ nx ≤ 65535) (h : g.length ≤ 20) : rvs (blockB g nx) = valsB g nx := by
  have h1 := (readR_written wR (valsB g nx) [] (write_vals g nx hg hn h)).1
  rw [List.append_nil] at h1
  unfold rvs blockB
  rw [bytes_of_nums _ (writeR_bytes wR _), h1]
theorem blk_back (g : List Sp) (nx : Int) (hg : ∀ s ∈ g, spU s) (hn : 0 ≤ nx ∧ nx ≤ 65535) (h : g.length ≤ 20) (h1 : 1 ≤ g.length) (hx : g.length < 20 → nx = 0) : blkOk (blockB g nx) = true ∧ grpB (blockB g nx) = g ∧ nxB (blockB g nx) = nx := by
  have e := rvs_block g nx hg hn h
  have e1 : cntB (blockB g nx) = g.length := by unfold cntB; rw [e]; rfl
  have e2 : nxB (blockB g nx) = nx := by unfold nxB; rw [e, valsB_66 g nx h]
  have e3 : grpB (blockB g nx) = g := by unfold grpB; rw [e1, e, Int.toNat_natCast, grp_vals]
  refine ⟨?_, e3, e2⟩
  unfold blkOk
  rw [e3, e2, headOk_t.2 ⟨by omega, by omega, by omega⟩]
  simp

/-! ### what a card's runs say of a view -/
def ldGo (V : List ByteArray) (b : Int) : Nat → Int → List Int → List Sp → Option (List Sp × List Int)
  | 0, nx, bl, l => if nx = 0 then some (l, bl) else none
  | f + 1, nx, bl, l => if nx = 0 then some (l, bl) else if (51 ≤ nx ∧ nx < b) ∧ bl.contains nx = false ∧ blkOk (bA V nx) = true then ldGo V b f (nxB (bA V nx)) (bl ++ [nx]) (l ++ grpB (bA V nx)) else none
theorem ldGo_zero (V : List ByteArray) (b : Int) (f : Nat) (bl : List Int) (l : List Sp) : ldGo V b f 0 bl l = some (l, bl) := by cases f <;> rfl
theorem ldGo_bad {V : List ByteArray} {b : Int} {f : Nat} {nx : Int} {bl : List Int} {l : List Sp} (h0 : nx ≠ 0) (h : ¬ ((51 ≤ nx ∧ nx < b) ∧ bl.contains nx = false ∧ blkOk (bA V nx) = true)) : ldGo V b f nx bl l = none := by
  cases f with
  | zero => unfold ldGo; rw [if_neg h0]
  | succ f => unfold ldGo; rw [if_neg h0, if_neg h]
theorem ldGo_step {V : List ByteArray} {b : Int} {f : Nat} {nx : Int} {bl : List Int} {l : List Sp} (h0 : nx ≠ 0) (h : (51 ≤ nx ∧ nx < b) ∧ bl.contains nx = false ∧ blkOk (bA V nx) = true) : ldGo V b (f + 1) nx bl l = ldGo V b f (nxB (bA V nx)) (bl ++ [nx]) (l ++ grpB (bA V nx)) := by
  rw [ldGo, if_neg h0, if_pos h]
theorem ldGo_some {V : List ByteArray} {b : Int} : ∀ {f : Nat} {nx : Int} {bl bl' : List Int} {l l' : List Sp}, ldGo V b f nx bl l = some (l', bl') → bl.Nodup → (∀ x ∈ bl, 51 ≤ x ∧ x < b) → bl'.Nodup ∧ (∀ x ∈ bl', 51 ≤ x ∧ x < b) ∧ (∀ x ∈ bl, x ∈ bl') ∧ bl.length ≤ bl'.length := by
  intro f
  induction f with
  | zero =>
    intro nx bl bl' l l' h h1 h2
    unfold ldGo at h
    split at h
    · injection h with h; injection h with e1 e2; subst e2; exact ⟨h1, h2, fun x hx => hx, Nat.le_refl _⟩
    · cases h
  | succ f ih =>
    intro nx bl bl' l l' h h1 h2
    unfold ldGo at h
    split at h
    · injection h with h; injection h with e1 e2; subst e2; exact ⟨h1, h2, fun x hx => hx, Nat.le_refl _⟩
    · split at h
      · rename_i hc
        have hn : nx ∉ bl := fun hm => by have := hc.2.1; rw [List.contains_iff_mem.2 hm] at this; cases this
        obtain ⟨q1, q2, q3, q4⟩ := ih h (by rw [List.nodup_append]; exact ⟨h1, by simp, fun x hx y hy => by rw [List.mem_singleton] at hy; subst hy; exact fun e => hn (e ▸ hx)⟩) (fun x hx => by
          rcases List.mem_append.1 hx with hx | hx
          · exact h2 x hx
          · rw [List.mem_singleton] at hx; subst hx; exact hc.1)
        rw [List.length_append] at q4
        exact ⟨q1, q2, fun x hx => q3 x (List.mem_append_left _ hx), by omega⟩
      · cases h
theorem ldGo_same {V W : List ByteArray} {b : Int} : ∀ {f : Nat} {nx : Int} {bl bl' : List Int} {l l' : List Sp}, ldGo V b f nx bl l = some (l', bl') → (∀ x ∈ bl', bA W x = bA V x) → (bl.Nodup ∧ ∀ x ∈ bl, 51 ≤ x ∧ x < b) → ldGo W b f nx bl l = some (l', bl') := by
  intro f
  induction f with
  | zero => intro nx bl bl' l l' h _ _; exact h
  | succ f ih =>
    intro nx bl bl' l l' h hW hb
    by_cases h0 : nx = 0
    · subst h0
      rw [ldGo_zero] at h ⊢
      exact h
    · by_cases hc : (51 ≤ nx ∧ nx < b) ∧ bl.contains nx = false ∧ blkOk (bA V nx) = true
      · rw [ldGo_step h0 hc] at h
        have hn : nx ∉ bl := fun hm => by have := hc.2.1; rw [List.contains_iff_mem.2 hm] at this; cases this
        have hb2 : (bl ++ [nx]).Nodup ∧ ∀ x ∈ bl ++ [nx], 51 ≤ x ∧ x < b := ⟨by rw [List.nodup_append]; exact ⟨hb.1, by simp, fun x hx y hy => by rw [List.mem_singleton] at hy; subst hy; exact fun e => hn (e ▸ hx)⟩, fun x hx => by
          rcases List.mem_append.1 hx with hx | hx
          · exact hb.2 x hx
          · rw [List.mem_singleton] at hx; subst hx; exact hc.1⟩
        have hm : nx ∈ bl' := (ldGo_some h hb2.1 hb2.2).2.2.1 nx (by simp)
        have e := hW nx hm
        have := ih h hW hb2
        rw [ldGo_step h0 (by rw [e]; exact hc), e]
        exact this
      · rw [ldGo_bad h0 hc] at h
        cases h
def rightS (b : Int) (l : List Sp) : Bool := rightL none l && l.all fun s => decide (s.at_ + s.len ≤ 120) && (decide (51 ≤ s.st ∧ s.st < b) && decide (51 ≤ s.st + s.len - 1 ∧ s.st + s.len - 1 < b))
theorem rightS_t {b : Int} {l : List Sp} : rightS b l = true ↔ rightL none l = true ∧ ∀ s ∈ l, s.at_ + s.len ≤ 120 ∧ (51 ≤ s.st ∧ s.st < b) ∧ (51 ≤ s.st + s.len - 1 ∧ s.st + s.len - 1 < b) := by
  unfold rightS
  rw [Bool.and_eq_true, List.all_eq_true]
  simp only [Bool.and_eq_true, decide_eq_true_eq]
def ldR (V : List ByteArray) (b : Int) (rs : List Sp) (ov : Int) : Option (List Sp × List Int) :=
  match ldGo V b 400 ov [] rs with
  | none => none
  | some r => if rightS b r.1 = true then some r else none
theorem den_cases : ∀ (l : List Sp) (i : Int), den l i = 0 ∨ ∃ s, s ∈ l ∧ holdsB s i = true ∧ den l i = placeI s i
  | [], i => .inl rfl
  | a :: l, i => by
    rw [den]
    by_cases h : holdsB a i = true
    · rw [if_pos h]; exact .inr ⟨a, List.mem_cons_self .., h, rfl⟩
    · rw [if_neg h]
      rcases den_cases l i with e | ⟨s, h1, h2, h3⟩
      · exact .inl e
      · exact .inr ⟨s, List.mem_cons_of_mem _ h1, h2, h3⟩
theorem den_mem : ∀ (l : List Sp) (p : Option Sp), rightL p l = true → ∀ s ∈ l, ∀ i, s.at_ ≤ i → i < s.at_ + s.len → den l i = s.st + (i - s.at_)
  | [], _, _, s, hs, _, _, _ => by cases hs
  | a :: l, p, h, s, hs, i, h1, h2 => by
    have h' : rightL (some a) l = true := by simp only [rightL, Bool.and_eq_true] at h; exact h.2
    rcases List.mem_cons.1 hs with rfl | hs
    · exact den_in h1 h2
    · obtain ⟨c, hc⟩ := lastP_some l a
      have := (right_ends l a c h' hc).2 s hs
      rw [den_out (by omega)]
      exact den_mem l (some a) h' s hs i h1 h2
theorem right_pts {b : Int} {l : List Sp} (h : rightS b l = true) : ptsOk b (mapR l 120) = true := by
  obtain ⟨h1, h2⟩ := rightS_t.1 h
  unfold ptsOk
  rw [List.all_eq_true]
  intro x hx
  unfold mapR at hx
  obtain ⟨i, _, rfl⟩ := List.mem_map.1 hx
  rw [lastD_den l none i h1]
  refine ptOk_t.2 ?_
  rcases den_cases l i with e | ⟨s, hs, hh, e⟩
  · exact .inl e
  · right
    have := h2 s hs
    have := holdsB_iff.1 hh
    rw [e]
    unfold placeI
    omega

/-! ### the spans of a map -/
/-- how many run blocks a map has. -/
def need (zs : List Int) : Nat := ((ofR zs).length - 3 + 19) / 20
def zeroB (zs : List Int) : Bool := decide (∀ k, k < zs.length → zs.getD k 0 = 0)
theorem zeroB_t {zs : List Int} (h : ∀ k, k < zs.length → zs.getD k 0 = 0) : zeroB zs = true := by simpa [zeroB] using h
theorem zeroB_f {zs : List Int} {k : Nat} (hk : k < zs.length) (h : zs.getD k 0 ≠ 0) : zeroB zs = false := by
  unfold zeroB
  exact decide_eq_false (fun h' => h (h' k hk))
/-- nothing behind its 120 blocks. -/
def smB (zs : List Int) : Bool := zeroB (zs.drop 120)
theorem smB_at {zs : List Int} (h : smB zs = true) (k : Nat) (hk : 120 ≤ k) : zs.getD k 0 = 0 := by
  unfold smB zeroB at h
  rw [decide_eq_true_eq] at h
  rcases Nat.lt_or_ge k zs.length with hl | hl
  · have := h (k - 120) (by rw [List.length_drop]; omega)
    rw [show (zs.drop 120).getD (k - 120) 0 = zs.getD k 0 by simp only [List.getD, List.getElem?_drop]; rw [show 120 + (k - 120) = k by omega]] at this
    exact this
  · simp [List.getD, List.getElem?_eq_none hl]
def whole (zs : List Int) : List Int := (List.range 120).map fun j => zs.getD j 0
theorem whole_len (zs : List Int) : (whole zs).length = 120 := by simp [whole]
theorem whole_get (zs : List Int) (k : Nat) (hk : k < 120) : (whole zs).getD k 0 = zs.getD k 0 := by simp [whole, List.getD, hk]
theorem whole_map {b : Nat} (hb : b ≤ 400) {zs : List Int} (h : ptsOk b zs = true) (hl : zs.length ≤ 65536) : mapR (ofR zs) 120 = whole zs := by
  unfold mapR whole
  refine List.map_congr_left fun i _ => ?_
  rw [lastD_den _ none _ (inv_ofR zs hl).right, of_den hl]
  rcases getD_or zs i with e | e
  · split
    · rw [Int.toNat_natCast, e]; rfl
    · exact e.symm
  · have h2 := pts_range (by omega) h _ e
    split
    · rw [Int.toNat_natCast, norm_in h2]
    · rename_i h3
      have h4 : zs.length ≤ i := by omega
      simp [List.getD, List.getElem?_eq_none h4]
theorem of_right {b : Nat} (hb : b ≤ 400) {zs : List Int} (h : ptsOk b zs = true) (hs : smB zs = true) (hl : zs.length ≤ 65536) : rightS b (ofR zs) = true := by
  have hI := inv_ofR zs hl
  have hn : ∀ i : Nat, i < zs.length → norm (zs.getD i 0) = zs.getD i 0 := fun i hi => by
    rcases getD_or zs i with e | e
    · rw [e]; rfl
    · exact norm_in (pts_range (by omega) h _ e)
  refine rightS_t.2 ⟨hI.right, fun s hm => ?_⟩
  obtain ⟨a1, a2, a3, a4, a5⟩ := hI.all s hm
  have key : ∀ i : Int, s.at_ ≤ i → i < s.at_ + s.len → zs.getD i.toNat 0 = s.st + (i - s.at_) ∧ i < 120 ∧ (51 ≤ s.st + (i - s.at_) ∧ s.st + (i - s.at_) < b) := fun i h1 h2 => by
    have e1 := den_mem _ none hI.right s hm i h1 h2
    have e2 := hI.says i.toNat (by omega)
    rw [show ((i.toNat : Nat) : Int) = i by omega, e1, hn _ (by omega)] at e2
    refine ⟨e2.symm, ?_, ?_⟩
    · rcases Int.lt_or_le i 120 with h3 | h3
      · exact h3
      · rw [smB_at hs _ (by omega)] at e2; omega
    · rcases getD_or zs i.toNat with e | e
      · rw [e] at e2; omega
      · have := ptOk_t.1 (List.all_eq_true.1 h _ e)
        rw [← e2] at this
        omega
  have k1 := key s.at_ (by omega) (by omega)
  have k2 := key (s.at_ + s.len - 1) (by omega) (by omega)
  omega

/-! ### a file's run blocks -/
structure FileAt (V : List ByteArray) (b : Nat) (m : ByteArray) (ov : Int) (zs L : List Int) : Prop where
  ld : ldGo V b 400 ov [] ((ofR zs).take 3) = some (ofR zs, L)
  asc : L.Pairwise (· < ·)
  us : ∀ x ∈ L, 51 ≤ x ∧ x < b ∧ bitN m x.toNat = true
  ln : L.length = need zs
  ov0 : ov = L.getD 0 0
theorem FileAt.keep {V W : List ByteArray} {b : Nat} {m m' : ByteArray} {ov : Int} {zs L : List Int} (h : FileAt V b m ov zs L) (hV : ∀ x ∈ L, bA W x = bA V x) (hm : ∀ x ∈ L, bitN m' x.toNat = true) : FileAt W b m' ov zs L :=
  ⟨ldGo_same h.ld hV ⟨List.nodup_nil, by simp⟩, h.asc, fun x hx => ⟨(h.us x hx).1, (h.us x hx).2.1, hm x hx⟩, h.ln, h.ov0⟩
theorem FileAt.load {V : List ByteArray} {b : Nat} {m : ByteArray} {ov : Int} {zs L : List Int} (h : FileAt V b m ov zs L) (hr : rightS b (ofR zs) = true) : ldR V b ((ofR zs).take 3) ov = some (ofR zs, L) := by
  unfold ldR
  rw [h.ld]
  show (if rightS b (ofR zs) = true then some (ofR zs, L) else none) = _
  rw [if_pos hr]

/-! ### what is stored -/
def chk (l : List Sp) (k : Nat) : List Sp := (l.drop (20 * k)).take 20
theorem chk_len (l : List Sp) (k : Nat) : (chk l k).length = min 20 (l.length - 20 * k) := by simp [chk]
theorem chk_take (l : List Sp) (k : Nat) : l.take (20 * k) ++ chk l k = l.take (20 * (k + 1)) := by
  unfold chk
  rw [show 20 * (k + 1) = 20 * k + 20 by omega, List.take_add]
theorem chk_mem {l : List Sp} {k : Nat} {s : Sp} (h : s ∈ chk l k) : s ∈ l := List.mem_of_mem_drop (List.mem_of_mem_take h)
def tkT (V : List ByteArray) : Nat → List ByteArray × List Int
  | 0 => (V, [])
  | k + 1 => (rnV (tkT V k).1 1, (tkT V k).2 ++ [rnA (tkT V k).1 1])
theorem tkT_len (V : List ByteArray) : ∀ k, (tkT V k).2.length = k
  | 0 => rfl
  | k + 1 => by show ((tkT V k).2 ++ [_]).length = _; rw [List.length_append, tkT_len V k]; rfl
def wtT (V : List ByteArray) (bs : List Int) (l : List Sp) : Nat → List ByteArray
  | 0 => V
  | k + 1 => wrV (wtT V bs l k) (bs.getD k 0) (blockB (chk l k) (bs.getD (k + 1) 0))
theorem takes_all {b : Nat} {V : List ByteArray} {m : ByteArray} (hc : Crd V b m) : ∀ k, k ≤ fcn m b → ∃ (m' : ByteArray) (top : Nat), Tkn b V m (tkT V k).1 m' top (tkT V k).2
  | 0, _ => ⟨m, 51, Tkn.start hc⟩
  | k + 1, hk => by
    obtain ⟨m', top, t⟩ := takes_all hc k (by omega)
    have h1 := t.cnt
    rw [tkT_len] at h1
    obtain ⟨n, n1, n2, n3, n4, n5, n6, n7⟩ := t.take (by omega)
    refine ⟨setN m' n true, n + 1, ?_⟩
    show Tkn b V m (rnV (tkT V k).1 1) _ _ ((tkT V k).2 ++ [rnA (tkT V k).1 1])
    rw [n4]
    exact n6
theorem gd_mem {l : List Int} {k : Nat} (h : k < l.length) : l.getD k 0 ∈ l := by
  rw [show l.getD k 0 = l[k] by simp [List.getD, List.getElem?_eq_getElem h]]
  exact List.getElem_mem _
theorem gd_out {l : List Int} {k : Nat} (h : l.length ≤ k) : l.getD k 0 = 0 := by simp [List.getD, List.getElem?_eq_none h]
theorem asc_ne {L : List Int} (h : L.Pairwise (· < ·)) {i j : Nat} (hi : i < j) (hj : j < L.length) : L.getD i 0 < L.getD j 0 := by
  have := (List.pairwise_iff_getElem.1 h) i j (by omega) hj hi
  rw [show L.getD i 0 = L[i] by simp [List.getD, List.getElem?_eq_getElem (show i < L.length by omega)], show L.getD j 0 = L[j] by simp [List.getD, List.getElem?_eq_getElem hj]]
  exact this
/-- the bytes of the k-th block are good ones. -/
theorem chk_block {b top : Nat} {V V' : List ByteArray} {m m' : ByteArray} {T : List Int} (h : Tkn b V m V' m' top T) {l : List Sp} (hl : ∀ s ∈ l, spU s) (k : Nat) : (0 ≤ T.getD (k + 1) 0 ∧ T.getD (k + 1) 0 ≤ 65535) ∧ (∀ s ∈ chk l k, spU s) ∧ (chk l k).length ≤ 20 ∧ (blockB (chk l k) (T.getD (k + 1) 0)).size = 128 := by
  have hn : 0 ≤ T.getD (k + 1) 0 ∧ T.getD (k + 1) 0 ≤ 65535 := by
    have hb2 := h.cr.b2
    rcases getD_or T (k + 1) with e | e
    · omega
    · have := h.lt _ e; omega
  have h20 : (chk l k).length ≤ 20 := by rw [chk_len]; omega
  have hs : ∀ s ∈ chk l k, spU s := fun s hm => hl s (chk_mem hm)
  exact ⟨hn, hs, h20, block_size _ _ hs hn h20⟩
theorem writes_all {b top : Nat} {V V' : List ByteArray} {m m' : ByteArray} {T : List Int} (h : Tkn b V m V' m' top T) {l : List Sp} (hl : ∀ s ∈ l, spU s) : ∀ k, k ≤ T.length → Tkn b V m (wtT V' T l k) m' top T ∧ ∀ j, j < k → bA (wtT V' T l k) (T.getD j 0) = blockB (chk l j) (T.getD (j + 1) 0)
  | 0, _ => ⟨h, fun j hj => by omega⟩
  | k + 1, hk => by
    obtain ⟨t, hj⟩ := writes_all h hl k (by omega)
    obtain ⟨-, -, -, hsz⟩ := chk_block h hl k
    obtain ⟨x1, x2, x3, x4⟩ := t.write (x := T.getD k 0) (gd_mem (by omega)) hsz
    refine ⟨x2, fun j hj2 => ?_⟩
    show bA (wrV (wtT V' T l k) (T.getD k 0) (blockB (chk l k) (T.getD (k + 1) 0))) _ = _
    by_cases e : j = k
    · subst e; exact x3
    · have h1 := asc_ne t.asc (show j < k by omega) (show k < T.length by omega)
      have h2 := t.lt _ (gd_mem (show j < T.length by omega))
      rw [x4 _ h2.1 (by omega)]
      exact hj j (by omega)
/-- a chain of run blocks is read again. -/
theorem chain_back {b : Nat} {W : List ByteArray} {bs : List Int} {rs l : List Sp} (hb : b ≤ 400) (hl : ∀ s ∈ l, spU s) (ha : bs.Pairwise (· < ·)) (hr : ∀ x ∈ bs, 51 ≤ x ∧ x < b) (hq : bs.length = (l.length + 19) / 20)
    (hw : ∀ j, j < bs.length → bA W (bs.getD j 0) = blockB (chk l j) (bs.getD (j + 1) 0)) :
    ∀ (n k f : Nat), k + n = bs.length → n ≤ f → ldGo W b f (bs.getD k 0) (bs.take k) (rs ++ l.take (20 * k)) = some (rs ++ l, bs)
  | 0, k, f, hk, _ => by
    rw [gd_out (by omega), ldGo_zero, List.take_of_length_le (by omega), List.take_of_length_le (by omega)]
  | n + 1, k, f, hk, hf => by
    obtain ⟨f, rfl⟩ : ∃ g, f = g + 1 := ⟨f - 1, by omega⟩
    have hkl : k < bs.length := by omega
    have h1 := hr _ (gd_mem hkl)
    have hn : 0 ≤ bs.getD (k + 1) 0 ∧ bs.getD (k + 1) 0 ≤ 65535 := by
      rcases getD_or bs (k + 1) with e | e
      · omega
      · have := hr _ e; omega
    have hcl := chk_len l k
    obtain ⟨q1, q2, q3⟩ := blk_back (chk l k) (bs.getD (k + 1) 0) (fun s hm => hl s (chk_mem hm)) hn (by omega) (by omega) (fun h => gd_out (by omega))
    have e := hw k hkl
    have hc : (51 ≤ bs.getD k 0 ∧ bs.getD k 0 < b) ∧ (bs.take k).contains (bs.getD k 0) = false ∧ blkOk (bA W (bs.getD k 0)) = true := by
      refine ⟨h1, ?_, by rw [e]; exact q1⟩
      cases hcc : (bs.take k).contains (bs.getD k 0) with
      | false => rfl
      | true => exact absurd (List.contains_iff_mem.1 hcc) (asc_take ha hkl)
    rw [ldGo_step (by omega) hc, e, q2, q3, List.append_assoc, chk_take]
    have ht : bs.take k ++ [bs.getD k 0] = bs.take (k + 1) := by
      rw [List.take_add_one]
      simp [List.getD, List.getElem?_eq_getElem hkl]
    rw [ht]
    exact chain_back hb hl ha hr hq hw n (k + 1) f (by omega) (by omega)

/-! ### Save -/
def svT (V : List ByteArray) (L0 zs : List Int) : List ByteArray × List Int := tkT (dpT V L0 L0.length) (need zs)
def svV (V : List ByteArray) (L0 zs : List Int) : List ByteArray := wtT (svT V L0 zs).1 (svT V L0 zs).2 ((ofR zs).drop 3) (need zs)
def svO (V : List ByteArray) (L0 zs : List Int) : Int := (svT V L0 zs).2.getD 0 0
theorem save_is {b : Nat} {V : List ByteArray} {m : ByteArray} (hc : Crd V b m) {L0 zs : List Int} (ha : L0.Pairwise (· < ·)) (hu : ∀ x ∈ L0, 51 ≤ x ∧ x < b ∧ bitN m x.toNat = true) (hl : zs.length ≤ 65536) (hf : need zs ≤ fcn m b + L0.length) :
    ∃ (m' : ByteArray) (L : List Int), Crd (svV V L0 zs) b m' ∧ FileAt (svV V L0 zs) b m' (svO V L0 zs) zs L ∧ fcn m' b + need zs = fcn m b + L0.length ∧
      ∀ i : Int, 51 ≤ i → bitN m i.toNat = true → i ∉ L0 → bitN m' i.toNat = true ∧ i ∉ L ∧ bA (svV V L0 zs) i = bA V i := by
  obtain ⟨m1, d⟩ := dp_all hc ha hu L0.length (Nat.le_refl _)
  have hd := d.cnt
  rw [List.take_length] at hd d
  obtain ⟨m', top, t⟩ := takes_all d.cr (need zs) (by omega)
  have hT : (tkT (dpT V L0 L0.length) (need zs)).2.length = need zs := tkT_len _ _
  have hsp : ∀ s ∈ (ofR zs).drop 3, spU s := fun s hm => spU_in (right_mem _ none (inv_ofR zs hl).right s (List.mem_of_mem_drop hm))
  obtain ⟨t2, hw⟩ := writes_all t hsp (need zs) (by rw [hT]; exact Nat.le_refl _)
  unfold svV svO svT
  generalize (tkT (dpT V L0 L0.length) (need zs)).1 = V1 at *
  generalize (tkT (dpT V L0 L0.length) (need zs)).2 = L at *
  have hb2 := hc.b2
  have hdl : ((ofR zs).drop 3).length = (ofR zs).length - 3 := List.length_drop
  have hch := chain_back (b := b) (W := wtT V1 L ((ofR zs).drop 3) (need zs)) (bs := L) (rs := (ofR zs).take 3) (l := (ofR zs).drop 3) (by omega) hsp t2.asc (fun x hx => ⟨(t2.lt x hx).1, (t2.lt x hx).2.2⟩) (by rw [hT, hdl]; rfl) (by rw [hT]; exact hw) L.length 0 400 (by omega) (by
    have := t2.lt
    have hnd : L.Nodup := t2.asc.imp fun h => by omega
    have := nodup_bd (b - 51) 51 L hnd fun x hx => by have := t2.lt x hx; omega
    omega)
  refine ⟨m', L, t2.cr, ⟨?_, t2.asc, fun x hx => ?_, hT, rfl⟩, ?_, fun i i1 i2 i3 => ?_⟩
  · rw [List.take_zero, Nat.mul_zero, List.take_zero, List.append_nil, List.take_append_drop] at hch
    exact hch
  · obtain ⟨q1, q2, q3⟩ := t2.lt x hx
    refine ⟨q1, q3, ?_⟩
    rw [t2.bits, show ((x.toNat : Nat) : Int) = x by omega, decide_eq_true hx, Bool.or_true]
  · have h1 := t2.cnt
    omega
  · have hbit : bitN m1 i.toNat = true := by rw [d.bits, i2, show ((i.toNat : Nat) : Int) = i by omega]; simp [i3]
    have hL : i ∉ L := fun hm => by rw [t2.new i hm] at hbit; cases hbit
    refine ⟨by rw [t2.bits, hbit]; rfl, hL, (t2.keep i i1 hL).trans (d.keep i i1)⟩

theorem right_len : ∀ (l : List Sp) (lo : Int), rightL none l = true → lo ≤ 120 → (∀ s ∈ l, lo ≤ s.at_ ∧ s.at_ + s.len ≤ 120) → (l.length : Int) ≤ 120 - lo
  | [], lo, _, h, _ => by simp; omega
  | a :: l, lo, h, hl, hs => by
    have hin := inB_iff.1 (right_mem (a :: l) none h a (List.mem_cons_self ..))
    have h' : rightL (some a) l = true := by simp only [rightL, Bool.and_eq_true] at h; exact h.2
    have ha := hs a (List.mem_cons_self ..)
    obtain ⟨c, hc⟩ := lastP_some l a
    have he := (right_ends l a c h' hc).2
    have := right_len l (a.at_ + a.len) (right_weak l _ h') (by omega) (fun s hm => ⟨(he s hm).1, (hs s (List.mem_cons_of_mem _ hm)).2⟩)
    rw [List.length_cons]
    push_cast
    omega
theorem rightS_len {b : Int} {l : List Sp} (h : rightS b l = true) : l.length ≤ 120 := by
  obtain ⟨h1, h2⟩ := rightS_t.1 h
  have := right_len l 0 h1 (by omega) (fun s hm => ⟨by have := inB_iff.1 (right_mem l none h1 s hm); omega, (h2 s hm).1⟩)
  omega
theorem ld_right {V : List ByteArray} {b : Int} {rs l : List Sp} {ov : Int} {bl : List Int} (h : ldR V b rs ov = some (l, bl)) : rightS b l = true := by
  unfold ldR at h
  split at h
  · cases h
  · split at h
    · rename_i h1
      injection h with h
      rw [h] at h1
      exact h1
    · cases h
theorem ld_go {V : List ByteArray} {b : Int} {rs l : List Sp} {ov : Int} {bl : List Int} (h : ldR V b rs ov = some (l, bl)) : ldGo V b 400 ov [] rs = some (l, bl) := by
  unfold ldR at h
  split at h
  · cases h
  · rename_i h2
    split at h
    · injection h with h
      rw [h2, h]
    · cases h
theorem rightS_u {b : Int} {l : List Sp} (h : rightS b l = true) : ∀ s ∈ l, spU s := fun s hs => spU_in (right_mem l none (rightS_t.1 h).1 s hs)
end Go.Proofs.YtgdlfiejjnjcpaaGreat.Dl
