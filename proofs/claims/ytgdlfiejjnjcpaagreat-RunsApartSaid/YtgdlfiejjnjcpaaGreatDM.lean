/-
  PLAIN MATHEMATICS of a deal: what it has written, what it reads, which blocks are changed. No condition.
-/
import Derived.Test.YtgdlfiejjnjcpaaGreatBT
import Derived.Test.YtgdlfiejjnjcpaaGreatDA
set_option linter.unusedVariables false
set_option linter.unusedSimpArgs false
namespace Go.Proofs.YtgdlfiejjnjcpaaGreat.Dl
open Go.RowKit
open Lg (Ch setL setL_len setL_out ownB okC okL okL_t rightC rightC_big rightC_ok bks bks_len bks_get okAt okAt_t okC_t Whole)

def posW (l : List Ch) (i : Int) : Nat := (l.takeWhile (fun c => decide (c.bk < i))).length
def gC (l : List Ch) (k : Nat) : Ch := l.getD k Ch.z
def hitW (l : List Ch) (i : Int) : Bool := decide (posW l i < l.length) && decide ((gC l (posW l i)).bk = i)
def putW (l : List Ch) (i : Int) (s : ByteArray) : List Ch := if hitW l i = true then l.set (posW l i) ⟨i, s⟩ else insL l (posW l i) ⟨i, s⟩

theorem pos_le (l : List Ch) (i : Int) : posW l i ≤ l.length := by
  unfold posW
  have h := congrArg List.length (List.takeWhile_append_dropWhile (p := fun c : Ch => decide (c.bk < i)) (l := l))
  rw [List.length_append] at h
  omega
theorem pos_is {i : Int} : ∀ {l : List Ch} {k : Nat}, k ≤ l.length → (∀ t, t < k → (gC l t).bk < i) → (∀ t, k ≤ t → t < l.length → i ≤ (gC l t).bk) → posW l i = k
  | [], k, hk, _, _ => by simp at hk; subst hk; rfl
  | c :: r, 0, _, _, h2 => by
    have h := h2 0 (Nat.le_refl _) (by simp)
    have h' : i ≤ c.bk := h
    unfold posW
    rw [List.takeWhile_cons_of_neg (by simp; omega)]
    rfl
  | c :: r, k + 1, hk, h1, h2 => by
    have h := h1 0 (by omega)
    have h' : c.bk < i := h
    have ih := pos_is (i := i) (l := r) (k := k) (by simpa using hk) (fun t ht => h1 (t + 1) (by omega)) (fun t ht hl => h2 (t + 1) (by omega) (by simpa using hl))
    unfold posW at ih ⊢
    rw [List.takeWhile_cons_of_pos (by simp; omega), List.length_cons, ih]

def Asc (l : List Ch) : Prop := l.Pairwise (fun a b => a.bk < b.bk)
structure Inv (D : List ByteArray) (l : List Ch) : Prop where
  asc : Asc l
  rng : ∀ c ∈ l, 0 ≤ c.bk ∧ c.bk < D.length ∧ ¬ (1 ≤ c.bk ∧ c.bk ≤ 41) ∧ c.dt.size = 128
theorem Inv.nil (D : List ByteArray) : Inv D [] := ⟨List.Pairwise.nil, by simp⟩

theorem asc_lt {l : List Ch} (h : Asc l) {a b : Nat} (hab : a < b) (hb : b < l.length) : (gC l a).bk < (gC l b).bk := by
  have := List.pairwise_iff_getElem.1 h a b (by omega) hb hab
  unfold gC
  simpa [List.getD, hb, show a < l.length by omega] using this
theorem asc_le {l : List Ch} (h : Asc l) {a b : Nat} (hab : a ≤ b) (hb : b < l.length) : (gC l a).bk ≤ (gC l b).bk := by
  rcases Nat.eq_or_lt_of_le hab with h1 | h1
  · subst h1; exact Int.le_refl _
  · exact Int.le_of_lt (asc_lt h h1 hb)

theorem split_pos {l : List Ch} (h : Asc l) (i : Int) : ∃ a b, l = a ++ b ∧ a.length = posW l i ∧ (∀ c ∈ a, c.bk < i) ∧ (∀ c ∈ b, i ≤ c.bk) := by
  refine ⟨l.takeWhile (fun c => decide (c.bk < i)), l.dropWhile (fun c => decide (c.bk < i)), (List.takeWhile_append_dropWhile).symm, rfl, ?_, ?_⟩
  · intro c hc
    have := List.all_takeWhile (p := fun c : Ch => decide (c.bk < i)) (l := l)
    have := List.all_eq_true.1 this c hc
    simpa using this
  · intro c hc
    have hs : Asc (l.dropWhile (fun c => decide (c.bk < i))) := h.sublist (List.dropWhile_sublist _)
    cases hd : l.dropWhile (fun c => decide (c.bk < i)) with
    | nil => rw [hd] at hc; cases hc
    | cons y r =>
      have hy := List.head?_dropWhile_not (p := fun c : Ch => decide (c.bk < i)) (l := l)
      rw [hd] at hy hc hs
      simp only [List.head?_cons, decide_eq_false_iff_not] at hy
      have hy' : i ≤ y.bk := by simpa using hy
      rcases List.mem_cons.1 hc with rfl | hr
      · exact hy'
      · have := List.rel_of_pairwise_cons hs hr
        omega

theorem hit_split {l : List Ch} (h : Asc l) {i : Int} (hh : hitW l i = true) : ∃ a y b, l = a ++ y :: b ∧ a.length = posW l i ∧ y = gC l (posW l i) ∧ y.bk = i ∧ (∀ c ∈ a, c.bk < i) ∧ (∀ c ∈ b, i < c.bk) := by
  obtain ⟨a, b, e, ha, h1, h2⟩ := split_pos h i
  unfold hitW at hh
  simp only [Bool.and_eq_true, decide_eq_true_eq] at hh
  obtain ⟨hl, hy⟩ := hh
  cases b with
  | nil =>
    rw [List.append_nil] at e
    rw [e] at hl
    rw [← e] at hl
    rw [e, ← e, ← ha] at hl
    have : l.length = a.length := by rw [e]
    omega
  | cons y r =>
    have hg : gC l (posW l i) = y := by
      unfold gC
      rw [← ha, e]
      simp [List.getD]
    refine ⟨a, y, r, e, ha, hg.symm, by rw [← hg]; exact hy, h1, ?_⟩
    intro c hc
    have hp : Asc (y :: r) := h.sublist (by rw [e]; exact List.sublist_append_right _ _)
    have := List.rel_of_pairwise_cons hp hc
    rw [hg] at hy
    omega
theorem miss_split {l : List Ch} (h : Asc l) {i : Int} (hh : hitW l i = false) : ∃ a b, l = a ++ b ∧ a.length = posW l i ∧ (∀ c ∈ a, c.bk < i) ∧ (∀ c ∈ b, i < c.bk) := by
  obtain ⟨a, b, e, ha, h1, h2⟩ := split_pos h i
  refine ⟨a, b, e, ha, h1, ?_⟩
  cases b with
  | nil => intro c hc; cases hc
  | cons y r =>
    have hg : gC l (posW l i) = y := by
      unfold gC
      rw [← ha, e]
      simp [List.getD]
    have hne : y.bk ≠ i := fun e2 => by
      unfold hitW at hh
      rw [hg, e2] at hh
      have : posW l i < l.length := by rw [← ha, e]; simp
      simp [this] at hh
    have hy := h2 y (by simp)
    intro c hc
    have hp : Asc (y :: r) := h.sublist (by rw [e]; exact List.sublist_append_right _ _)
    rcases List.mem_cons.1 hc with rfl | hr
    · omega
    · have := List.rel_of_pairwise_cons hp hr
      omega

theorem setL_app (D : List ByteArray) (a b : List Ch) : setL D (a ++ b) = setL (setL D a) b := by simp [setL]
theorem setL_cons (D : List ByteArray) (c : Ch) (b : List Ch) : setL D (c :: b) = setL (D.set c.bk.toNat c.dt) b := rfl
theorem setL_comm (n : Nat) (s : ByteArray) : ∀ (b : List Ch) (D : List ByteArray), (∀ c ∈ b, c.bk.toNat ≠ n) → setL (D.set n s) b = (setL D b).set n s
  | [], D, _ => rfl
  | c :: r, D, h => by
    rw [setL_cons, setL_cons, List.set_comm _ _ (fun e => h c (by simp) e.symm), setL_comm n s r _ (fun d hd => h d (by simp [hd]))]
theorem setL_mid (D : List ByteArray) (a b : List Ch) (x : Ch) (h : ∀ c ∈ b, c.bk.toNat ≠ x.bk.toNat) : setL D (a ++ x :: b) = (setL D (a ++ b)).set x.bk.toNat x.dt := by
  rw [setL_app, setL_cons, setL_comm _ _ _ _ h, ← setL_app]
theorem set_mid {α : Type} (a b : List α) (y x : α) : (a ++ y :: b).set a.length x = a ++ x :: b := by
  simp

theorem ins_mid (a b : List Ch) (x : Ch) : insL (a ++ b) a.length x = a ++ x :: b := by simp [insL]

theorem put_split {l : List Ch} (h : Asc l) (i : Int) (s : ByteArray) : ∃ a b, putW l i s = a ++ ⟨i, s⟩ :: b ∧ (∀ c ∈ a, c ∈ l ∧ c.bk < i) ∧ (∀ c ∈ b, c ∈ l ∧ i < c.bk) ∧
    ((hitW l i = false ∧ l = a ++ b) ∨ ∃ y : Ch, hitW l i = true ∧ y.bk = i ∧ l = a ++ y :: b) := by
  cases hh : hitW l i with
  | true =>
    obtain ⟨a, y, b, e, ha, hy, hyi, h1, h2⟩ := hit_split h hh
    refine ⟨a, b, ?_, fun c hc => ⟨by rw [e]; simp [hc], h1 c hc⟩, fun c hc => ⟨by rw [e]; simp [hc], h2 c hc⟩, .inr ⟨y, rfl, hyi, e⟩⟩
    unfold putW
    rw [if_pos hh, ← ha]
    conv => lhs; rw [e]
    exact set_mid a b y _
  | false =>
    obtain ⟨a, b, e, ha, h1, h2⟩ := miss_split h hh
    refine ⟨a, b, ?_, fun c hc => ⟨by rw [e]; simp [hc], h1 c hc⟩, fun c hc => ⟨by rw [e]; simp [hc], h2 c hc⟩, .inl ⟨rfl, e⟩⟩
    unfold putW
    rw [if_neg (by rw [hh]; decide), ← ha]
    conv => lhs; rw [e]
    exact ins_mid a b _

theorem asc_app {a b : List Ch} {x : Ch} (ha : Asc a) (hb : Asc b) (h1 : ∀ c ∈ a, c.bk < x.bk) (h2 : ∀ c ∈ b, x.bk < c.bk) : Asc (a ++ x :: b) := by
  unfold Asc
  rw [List.pairwise_append]
  refine ⟨ha, List.pairwise_cons.2 ⟨h2, hb⟩, fun c hc d hd => ?_⟩
  have := h1 c hc
  rcases List.mem_cons.1 hd with rfl | hr
  · exact this
  · have := h2 d hr
    omega
theorem Inv.put {D : List ByteArray} {l : List Ch} (h : Inv D l) {i : Int} {s : ByteArray} (h0 : 0 ≤ i) (h1 : i < D.length) (h2 : ¬ (1 ≤ i ∧ i ≤ 41)) (hs : s.size = 128) : Inv D (putW l i s) := by
  obtain ⟨a, b, e, ha, hb, hl⟩ := put_split h.asc i s
  have hsa : Asc a ∧ Asc b := by
    rcases hl with ⟨_, hl⟩ | ⟨y, _, _, hl⟩
    · exact ⟨h.asc.sublist (by rw [hl]; exact List.sublist_append_left _ _), h.asc.sublist (by rw [hl]; exact List.sublist_append_right _ _)⟩
    · exact ⟨h.asc.sublist (by rw [hl]; exact List.sublist_append_left _ _), h.asc.sublist (by rw [hl]; exact (List.sublist_cons_self _ _).trans (List.sublist_append_right _ _))⟩
  refine ⟨?_, ?_⟩
  · rw [e]
    exact asc_app hsa.1 hsa.2 (fun c hc => (ha c hc).2) (fun c hc => (hb c hc).2)
  · intro c hc
    rw [e] at hc
    rcases List.mem_append.1 hc with hc | hc
    · exact h.rng c (ha c hc).1
    · rcases List.mem_cons.1 hc with rfl | hc
      · exact ⟨h0, h1, h2, hs⟩
      · exact h.rng c (hb c hc).1
theorem ne_nat {x : Ch} {i : Int} (h0 : 0 ≤ i) (h : i < x.bk) : x.bk.toNat ≠ i.toNat := by omega
/-- what a deal reads behind a write. -/
theorem put_view {D : List ByteArray} {l : List Ch} (h : Inv D l) {i : Int} {s : ByteArray} (h0 : 0 ≤ i) : setL D (putW l i s) = (setL D l).set i.toNat s := by
  obtain ⟨a, b, e, ha, hb, hl⟩ := put_split h.asc i s
  rw [e, setL_mid D a b ⟨i, s⟩ (fun c hc => ne_nat h0 (hb c hc).2)]
  rcases hl with ⟨_, hl⟩ | ⟨y, _, hy, hl⟩
  · rw [hl]
  · rw [hl, setL_mid D a b y (fun c hc => by rw [hy]; exact ne_nat h0 (hb c hc).2), hy, List.set_set]
theorem getD_set {D : List ByteArray} {n : Nat} {s : ByteArray} (h : n < D.length) : (D.set n s).getD n ⟨#[]⟩ = s := by simp [List.getD, h]
theorem hit_view {D : List ByteArray} {l : List Ch} (h : Inv D l) {i : Int} (hh : hitW l i = true) : (setL D l).getD i.toNat ⟨#[]⟩ = (gC l (posW l i)).dt := by
  obtain ⟨a, y, b, e, ha, hy, hyi, h1, h2⟩ := hit_split h.asc hh
  have hr := h.rng y (by rw [e]; simp)
  have h00 : 0 ≤ i := by rw [← hyi]; exact hr.1
  have h11 : i < (D.length : Int) := by rw [← hyi]; exact hr.2.1
  have hv : setL D l = (setL D (a ++ b)).set i.toNat y.dt := by
    rw [e, setL_mid D a b y (fun c hc => by rw [hyi]; exact ne_nat h00 (h2 c hc)), hyi]
  rw [hv, ← hy]
  exact getD_set (by rw [setL_len]; omega)
theorem miss_view {D : List ByteArray} {l : List Ch} (h : Inv D l) {i : Int} (h00 : 0 ≤ i) (hh : hitW l i = false) : (setL D l).getD i.toNat ⟨#[]⟩ = D.getD i.toNat ⟨#[]⟩ := by
  obtain ⟨a, b, e, ha, h1, h2⟩ := miss_split h.asc hh
  refine setL_out fun c hc => ?_
  have hr := (h.rng c hc).1
  rw [e] at hc
  rcases List.mem_append.1 hc with hc | hc
  · have := h1 c hc; omega
  · have := h2 c hc; omega

/-! ### the changes -/
def chgs (D : List ByteArray) (l : List Ch) : List Ch := l.filter fun c => decide (c.dt ≠ D.getD c.bk.toNat ⟨#[]⟩)
theorem chgs_inv {D : List ByteArray} {l : List Ch} (h : Inv D l) : Inv D (chgs D l) :=
  ⟨h.asc.sublist List.filter_sublist, fun c hc => h.rng c (List.mem_filter.1 hc).1⟩
theorem set_same {D : List ByteArray} {n : Nat} {s : ByteArray} (h : D.getD n ⟨#[]⟩ = s) : D.set n s = D ∨ D.length ≤ n := by
  rcases Nat.lt_or_ge n D.length with hn | hn
  · left
    apply List.ext_getElem?
    intro j
    rcases Nat.lt_or_ge j D.length with hj | hj
    · by_cases e : n = j
      · subst e
        rw [List.getElem?_set_self hn, List.getElem?_eq_getElem hn]
        rw [← h]; simp [List.getD, hn]
      · rw [List.getElem?_set_ne e]
    · rw [List.getElem?_eq_none (by simpa using hj), List.getElem?_eq_none hj]
  · exact .inr hn
theorem chgs_view : ∀ {l : List Ch} {D : List ByteArray}, Inv D l → setL D (chgs D l) = setL D l
  | [], D, _ => rfl
  | c :: r, D, h => by
    have hp : ∀ x ∈ r, c.bk < x.bk := fun x hx => List.rel_of_pairwise_cons h.asc hx
    have hc := h.rng c (by simp)
    have hr : Inv D r := ⟨(List.pairwise_cons.1 h.asc).2, fun x hx => h.rng x (by simp [hx])⟩
    have hr2 : Inv (D.set c.bk.toNat c.dt) r := ⟨hr.asc, fun x hx => by simpa using hr.rng x hx⟩
    have hf : chgs (D.set c.bk.toNat c.dt) r = chgs D r := by
      unfold chgs
      apply List.filter_congr
      intro x hx
      have h1 := hp x hx
      have h2 := (hr.rng x hx).1
      have : c.bk.toNat ≠ x.bk.toNat := by omega
      have e : (D.set c.bk.toNat c.dt).getD x.bk.toNat ⟨#[]⟩ = D.getD x.bk.toNat ⟨#[]⟩ := by simp [List.getD, this]
      show decide _ = decide _
      rw [e]
    by_cases hd : c.dt = D.getD c.bk.toNat ⟨#[]⟩
    · have e1 : chgs D (c :: r) = chgs D r := by
        unfold chgs
        rw [List.filter_cons_of_neg (by simpa using hd)]
      rw [e1, chgs_view hr, setL_cons]
      rcases set_same (D := D) (n := c.bk.toNat) hd.symm with e | e
      · rw [e]
      · omega
    · have e1 : chgs D (c :: r) = c :: chgs D r := by
        unfold chgs
        rw [List.filter_cons_of_pos (by simpa using hd)]
      rw [e1, setL_cons, setL_cons, ← hf]
      exact chgs_view hr2
theorem inv_len {D : List ByteArray} {l : List Ch} (h : Inv D l) : l.length ≤ D.length := by
  have h1 := Sl.nodup_le D.length (l.map fun c => c.bk.toNat) (by
    refine List.pairwise_map.2 (h.asc.imp_of_mem fun {a b} ha hb hab e => ?_)
    have := (h.rng a ha).1
    have := (h.rng b hb).1
    omega) (fun x hx => by
    obtain ⟨c, hc, rfl⟩ := List.mem_map.1 hx
    have := h.rng c hc
    omega)
  rwa [List.length_map] at h1
theorem inv_right {D : List ByteArray} {l : List Ch} (h : Inv D l) : okL D.length l = true := by
  refine okL_t.2 fun k hk => okC_t.2 ?_
  have hm : (l.getD k Ch.z) ∈ l := by simp [List.getD, hk]
  have hr := h.rng _ hm
  refine ⟨okAt_t.2 ?_, hr.2.2.2⟩
  rw [bks_get]
  refine ⟨hr.1, hr.2.1, hr.2.2.1, ?_⟩
  rw [Lg.take_contains (by rw [bks_len]; omega)]
  intro j hj
  rw [bks_get]
  have := asc_lt h.asc hj hk
  unfold gC at this
  omega
theorem right_is {D : List ByteArray} {l : List Ch} (h : Inv D l) : rightC l D.length = if 40 < l.length then 13 else 0 := by
  by_cases h2 : 40 < l.length
  · rw [if_pos h2, rightC_big h2]
  · rw [if_neg h2, rightC_ok h2 (inv_right h)]

/-- two ascending lists of the same members are one. -/
theorem asc_ext : ∀ {a b : List Int}, a.Pairwise (· < ·) → b.Pairwise (· < ·) → (∀ z, z ∈ a ↔ z ∈ b) → a = b
  | [], [], _, _, _ => rfl
  | [], y :: t, _, _, h => absurd ((h y).2 (by simp)) (by simp)
  | x :: s, [], _, _, h => absurd ((h x).1 (by simp)) (by simp)
  | x :: s, y :: t, ha, hb, h => by
    have e : x = y := by
      rcases List.mem_cons.1 ((h x).1 (by simp)) with h1 | h1
      · exact h1
      · rcases List.mem_cons.1 ((h y).2 (by simp)) with h2 | h2
        · exact h2.symm
        · have := List.rel_of_pairwise_cons ha h2
          have := List.rel_of_pairwise_cons hb h1
          omega
    subst e
    rw [asc_ext (a := s) (b := t) (List.pairwise_cons.1 ha).2 (List.pairwise_cons.1 hb).2 (fun z => by
      constructor
      · intro hz
        rcases List.mem_cons.1 ((h z).1 (by simp [hz])) with h1 | h1
        · have := List.rel_of_pairwise_cons ha hz; omega
        · exact h1
      · intro hz
        rcases List.mem_cons.1 ((h z).2 (by simp [hz])) with h1 | h1
        · have := List.rel_of_pairwise_cons hb hz; omega
        · exact h1)]

/-- the numbers at which two lists differ. -/
def diffL (now base : List ByteArray) : List Int := ((List.range now.length).filter fun i => decide (now.getD i ⟨#[]⟩ ≠ base.getD i ⟨#[]⟩)).map fun i : Nat => (i : Int)
theorem chgs_diff {D base now : List ByteArray} {l : List Ch} (h : Inv D l) (hn : now.length = D.length) (hb : ∀ i, i < D.length → ownB (i : Int) = false → base.getD i ⟨#[]⟩ = D.getD i ⟨#[]⟩)
    (hv : ∀ i, i < D.length → ownB (i : Int) = false → now.getD i ⟨#[]⟩ = (setL D l).getD i ⟨#[]⟩) (ho : ∀ i, i < D.length → ownB (i : Int) = true → now.getD i ⟨#[]⟩ = base.getD i ⟨#[]⟩) : bks (chgs D l) = diffL now base := by
  have hc := chgs_inv h
  refine asc_ext ?_ ?_ ?_
  · exact List.pairwise_map.2 hc.asc
  · refine List.pairwise_map.2 ((List.pairwise_lt_range.filter _).imp ?_)
    intro a b hab
    exact Int.ofNat_lt.2 hab
  · intro z
    have key : ∀ i : Nat, i < D.length → ownB (i : Int) = false → ((∃ c ∈ chgs D l, c.bk = (i : Int)) ↔ now.getD i ⟨#[]⟩ ≠ base.getD i ⟨#[]⟩) := by
      intro i hi ho
      rw [hv i hi ho, hb i hi ho]
      constructor
      · rintro ⟨c, hcm, hci⟩
        have hm := List.mem_filter.1 hcm
        have hne : c.dt ≠ D.getD i ⟨#[]⟩ := by
          have := hm.2
          rw [hci] at this
          simpa using this
        have hh : hitW l (i : Int) = true := by
          by_cases hh : hitW l (i : Int) = true
          · exact hh
          · obtain ⟨a, b, e, _, h1, h2⟩ := miss_split h.asc (by simpa using hh : hitW l (i : Int) = false)
            have hx := hm.1
            rw [e] at hx
            rcases List.mem_append.1 hx with hx | hx
            · have := h1 c hx; omega
            · have := h2 c hx; omega
        have hvw := hit_view h hh
        obtain ⟨a, y, b, e, _, hy, hyi, h1, h2⟩ := hit_split h.asc hh
        have : c = y := by
          have hx := hm.1
          rw [e] at hx
          rcases List.mem_append.1 hx with hx | hx
          · have := h1 c hx; omega
          · rcases List.mem_cons.1 hx with hx | hx
            · exact hx
            · have := h2 c hx; omega
        rw [show ((i : Int)).toNat = i by omega, ← hy, ← this] at hvw
        rw [hvw]; exact hne
      · intro hne
        by_cases hh : hitW l (i : Int) = true
        · have hvw := hit_view h hh
          obtain ⟨a, y, b, e, _, hy, hyi, h1, h2⟩ := hit_split h.asc hh
          rw [show ((i : Int)).toNat = i by omega, ← hy] at hvw
          rw [hvw] at hne
          refine ⟨y, List.mem_filter.2 ⟨by rw [e]; simp, ?_⟩, hyi⟩
          rw [hyi, show ((i : Int)).toNat = i by omega]
          simpa using hne
        · have := miss_view h (by omega) (by simpa using hh : hitW l (i : Int) = false)
          rw [show ((i : Int)).toNat = i by omega] at this
          exact absurd this hne
    constructor
    · intro hz
      obtain ⟨c, hcm, rfl⟩ := List.mem_map.1 hz
      have hr := hc.rng c hcm
      have e : c.bk = ((c.bk.toNat : Nat) : Int) := by omega
      have ho2 : ownB ((c.bk.toNat : Nat) : Int) = false := Lg.ownB_f.2 (by rw [← e]; exact hr.2.2.1)
      have := (key c.bk.toNat (by omega) ho2).1 ⟨c, hcm, e⟩
      refine List.mem_map.2 ⟨c.bk.toNat, List.mem_filter.2 ⟨List.mem_range.2 (by omega), by simpa using this⟩, e.symm⟩
    · intro hz
      obtain ⟨i, hi, rfl⟩ := List.mem_map.1 hz
      obtain ⟨hi1, hi2⟩ := List.mem_filter.1 hi
      have hi1' := List.mem_range.1 hi1
      have hi3 : now.getD i ⟨#[]⟩ ≠ base.getD i ⟨#[]⟩ := by simpa using hi2
      cases ho3 : ownB (i : Int) with
      | true => exact absurd (ho i (by omega) ho3) hi3
      | false =>
        obtain ⟨c, hcm, hci⟩ := (key i (by omega) ho3).2 hi3
        exact List.mem_map.2 ⟨c, hcm, hci⟩
end Go.Proofs.YtgdlfiejjnjcpaaGreat.Dl
