/-
  PLAIN MATHEMATICS for the proofs over layer 7: entries, rolls that may be, what Find, Live, Of, Add and Drop say. No condition.
-/
import Derived.Test.YtflijnhgonigjaaNRight
namespace Go.Proofs.Ytflijnhgonigjaa

structure En where
  nm : ByteArray
  nd : Int
deriving DecidableEq
def En.z : En := ⟨⟨#[]⟩, 0⟩

def eqB (a b : ByteArray) : Bool := a.toList == b.toList
theorem eqB_iff {a b : ByteArray} : eqB a b = true ↔ a = b := by
  unfold eqB
  rw [beq_iff_eq]
  constructor
  · intro h
    rw [ByteArray.toList_eq, ByteArray.toList_eq] at h
    exact ByteArray.ext (Array.ext' h)
  · intro h; rw [h]
theorem eqB_ne {a b : ByteArray} : eqB a b = false ↔ a ≠ b := by
  rw [← Bool.not_eq_true, eqB_iff]
def freeB (e : En) : Bool := e.nm.toList.isEmpty && e.nd == 0
theorem freeB_iff {e : En} : freeB e = true ↔ e = En.z := by
  obtain ⟨s, n⟩ := e
  unfold freeB En.z
  simp only [Bool.and_eq_true, List.isEmpty_iff, beq_iff_eq, En.mk.injEq]
  constructor
  · rintro ⟨h, rfl⟩
    rw [ByteArray.toList_eq] at h
    exact ⟨ByteArray.ext (Array.ext' (by simpa using h)), rfl⟩
  · rintro ⟨rfl, rfl⟩
    exact ⟨by rw [ByteArray.toList_eq], rfl⟩
theorem freeB_z : freeB En.z = true := freeB_iff.2 rfl
def nodeB (n : Int) : Bool := decide (1 ≤ n) && decide (n ≤ 65535)
theorem nodeB_iff {n : Int} : nodeB n = true ↔ 1 ≤ n ∧ n ≤ 65535 := by simp [nodeB]
theorem rightB_ne {s : ByteArray} (h : rightB s = true) : s ≠ ⟨#[]⟩ := by
  rintro rfl
  exact absurd h (by decide)

/-! ### the first place -/
def idx (p : En → Bool) (l : List En) : Int := match l.findIdx? p with
  | some i => (i : Int)
  | none => -1
theorem getD_lt {l : List En} {k : Nat} (h : k < l.length) : l.getD k En.z = l[k] := by simp [List.getD, h]
theorem idx_found {p : En → Bool} {l : List En} {k : Nat} (hk : k < l.length) (hb : ∀ j, j < k → p (l.getD j En.z) = false) (hp : p (l.getD k En.z) = true) : idx p l = k := by
  have : l.findIdx? p = some k := by
    rw [List.findIdx?_eq_some_iff_getElem]
    refine ⟨hk, by rw [← getD_lt hk]; exact hp, fun j hj => ?_⟩
    have := hb j hj
    rw [getD_lt (by omega)] at this
    simpa using this
  rw [idx, this]
theorem idx_none {p : En → Bool} {l : List En} (hb : ∀ j, j < l.length → p (l.getD j En.z) = false) : idx p l = -1 := by
  have : l.findIdx? p = none := by
    rw [List.findIdx?_eq_none_iff]
    intro x hx
    obtain ⟨j, hj, rfl⟩ := List.getElem_of_mem hx
    have := hb j hj
    rwa [getD_lt hj] at this
  rw [idx, this]
theorem idx_cases (p : En → Bool) (l : List En) : (idx p l = -1 ∧ ∀ e ∈ l, p e = false) ∨ ∃ k : Nat, k < l.length ∧ idx p l = k ∧ p (l.getD k En.z) = true ∧ ∀ j, j < k → p (l.getD j En.z) = false := by
  unfold idx
  cases h : l.findIdx? p with
  | none =>
    rw [List.findIdx?_eq_none_iff] at h
    exact Or.inl ⟨rfl, h⟩
  | some k =>
    rw [List.findIdx?_eq_some_iff_getElem] at h
    obtain ⟨hk, hp, hb⟩ := h
    refine Or.inr ⟨k, hk, rfl, by rw [getD_lt hk]; exact hp, fun j hj => ?_⟩
    rw [getD_lt (by omega)]
    simpa using hb j hj
theorem idx_bd (p : En → Bool) (l : List En) : -1 ≤ idx p l ∧ idx p l < l.length := by
  rcases idx_cases p l with ⟨h, -⟩ | ⟨k, hk, h, -⟩ <;> omega

def placeR (l : List En) (s : ByteArray) : Int := if rightB s = true then idx (fun e => eqB e.nm s) l else -1
def findR (l : List En) (s : ByteArray) : Int × Bool := if placeR l s < 0 then (0, false) else ((l.getD (placeR l s).toNat En.z).nd, true)
def liveR (l : List En) : List En := l.filter fun e => e.nd != 0
def ofR (l : List En) : List En := l ++ List.replicate ((8 - l.length % 8) % 8) En.z

/-! ### a roll that may be -/
def cntL (l : List En) : Nat := (l.filter fun e => !freeB e).length
/-- an entry that may stand behind acc. -/
def stepB (acc : List En) (e : En) : Bool := freeB e || (nodeB e.nd && rightB e.nm && !(acc.any fun x => eqB x.nm e.nm) && decide (cntL acc < 160))
def okE (l : List En) : Nat → Bool
  | 0 => true
  | k + 1 => okE l k && stepB (l.take k) (l.getD k En.z)
def rightR (l : List En) : Bool := decide (l.length % 8 = 0) && okE l l.length

theorem okE_mono {l : List En} {k n : Nat} (h : okE l n = true) (hk : k ≤ n) : okE l k = true := by
  induction n with
  | zero => obtain rfl : k = 0 := by omega
            exact h
  | succ n ih =>
    rcases Nat.lt_or_ge n k with h1 | h1
    · obtain rfl : k = n + 1 := by omega
      exact h
    · rw [okE, Bool.and_eq_true] at h
      exact ih h.1 h1
theorem okE_at {l : List En} {k n : Nat} (h : okE l n = true) (hk : k < n) : stepB (l.take k) (l.getD k En.z) = true := by
  have := okE_mono h (k := k + 1) hk
  rw [okE, Bool.and_eq_true] at this
  exact this.2
theorem okE_no {l : List En} {k n : Nat} (hk : k < n) (h : stepB (l.take k) (l.getD k En.z) = false) : okE l n = false := by
  cases hh : okE l n with
  | false => rfl
  | true => rw [okE_at hh hk] at h; cases h
theorem okE_all {l : List En} {n : Nat} (h : ∀ k, k < n → stepB (l.take k) (l.getD k En.z) = true) : okE l n = true := by
  induction n with
  | zero => rfl
  | succ n ih => rw [okE, ih (fun k hk => h k (by omega)), h n (by omega)]; rfl

theorem cntL_snoc (l : List En) (e : En) : cntL (l ++ [e]) = cntL l + if freeB e then 0 else 1 := by
  unfold cntL
  rw [List.filter_append, List.length_append]
  cases h : freeB e <;> simp [h]
theorem take_snoc (l : List En) {k : Nat} (h : k < l.length) : l.take (k + 1) = l.take k ++ [l.getD k En.z] := by
  rw [List.take_succ_eq_append_getElem h, getD_lt h]

/-- what a roll that may be says of its entries. -/
theorem right_mem {l : List En} (h : rightR l = true) {e : En} (he : e ∈ l) : e = En.z ∨ (nodeB e.nd = true ∧ rightB e.nm = true) := by
  unfold rightR at h
  rw [Bool.and_eq_true] at h
  obtain ⟨k, hk, rfl⟩ := List.getElem_of_mem he
  have := okE_at h.2 hk
  rw [getD_lt hk] at this
  unfold stepB at this
  rw [Bool.or_eq_true] at this
  rcases this with h1 | h1
  · exact Or.inl (freeB_iff.1 h1)
  · simp only [Bool.and_eq_true] at h1
    exact Or.inr ⟨h1.1.1.1, h1.1.1.2⟩
theorem right_free {l : List En} (h : rightR l = true) {e : En} (he : e ∈ l) : freeB e = (e.nd == 0) := by
  rcases right_mem h he with rfl | ⟨h1, h2⟩
  · rw [freeB_z]; rfl
  · rw [nodeB_iff] at h1
    have : (e.nd == 0) = false := by simp; omega
    unfold freeB
    rw [this]; simp
theorem right_len {l : List En} (h : rightR l = true) : l.length % 8 = 0 := by
  unfold rightR at h; simp at h; exact h.1
theorem right_apart {l : List En} (h : rightR l = true) {i j : Nat} (hij : i < j) (hj : j < l.length) (hn : freeB (l.getD j En.z) = false) : (l.getD i En.z).nm ≠ (l.getD j En.z).nm := by
  unfold rightR at h
  rw [Bool.and_eq_true] at h
  have := okE_at h.2 hj
  unfold stepB at this
  rw [hn, Bool.false_or] at this
  simp only [Bool.and_eq_true, Bool.not_eq_true', List.any_eq_false, eqB_iff] at this
  have hm : l.getD i En.z ∈ l.take j := by
    rw [getD_lt (by omega), List.mem_take_iff_getElem]
    exact ⟨i, by omega, rfl⟩
  exact this.1.2 _ hm
theorem cnt_live {l : List En} (h : ∀ e ∈ l, freeB e = (e.nd == 0)) : (liveR l).length = cntL l := by
  unfold liveR cntL
  congr 1
  apply List.filter_congr
  intro e he
  rw [h e he]; rfl
theorem okE_cnt {l : List En} (n : Nat) (hn : n ≤ l.length) (h : okE l n = true) : cntL (l.take n) ≤ 160 := by
  induction n with
  | zero => simp [cntL]
  | succ n ih =>
    rw [okE, Bool.and_eq_true] at h
    rw [take_snoc l hn, cntL_snoc]
    have := ih (by omega) h.1
    have h2 := h.2
    unfold stepB at h2
    cases hf : freeB (l.getD n En.z) with
    | true => simp; exact this
    | false =>
      rw [hf] at h2
      simp only [Bool.false_or, Bool.and_eq_true, decide_eq_true_eq] at h2
      simp; omega
theorem right_cnt {l : List En} (h : rightR l = true) : (liveR l).length ≤ 160 := by
  rw [cnt_live fun e he => right_free h he]
  unfold rightR at h
  rw [Bool.and_eq_true] at h
  have := okE_cnt l.length (Nat.le_refl _) h.2
  rwa [List.take_length] at this

/-! ### the reference's way to say it -/
def stepR (acc : List En) (e : En) : Bool := freeB e || (nodeB e.nd && rightB e.nm && !(acc.any fun x => eqB x.nm e.nm))
theorem cntL_mono (l : List En) (k : Nat) : cntL (l.take k) ≤ cntL l := by
  unfold cntL
  exact ((List.take_sublist k l).filter _).length_le
theorem cntL_lt {l : List En} {k : Nat} (hk : k < l.length) (hf : freeB (l.getD k En.z) = false) : cntL (l.take k) < cntL l := by
  have h1 := cntL_mono l (k + 1)
  rw [take_snoc l hk, cntL_snoc, hf] at h1
  simp at h1
  omega
theorem ref_no_len {l : List En} (h : ¬ l.length % 8 = 0) : rightR l = false := by unfold rightR; simp [h]
theorem ref_no_cnt {l : List En} (h : 160 < (liveR l).length) : rightR l = false := by
  cases hh : rightR l with
  | false => rfl
  | true => have := right_cnt hh; omega
theorem ref_no_step {l : List En} {k : Nat} (hk : k < l.length) (h : stepR (l.take k) (l.getD k En.z) = false) : rightR l = false := by
  have : stepB (l.take k) (l.getD k En.z) = false := by
    unfold stepR at h; unfold stepB
    rw [Bool.or_eq_false_iff] at h ⊢
    exact ⟨h.1, by rw [h.2]; rfl⟩
  unfold rightR
  rw [okE_no hk this, Bool.and_false]
theorem ref_yes {l : List En} (h8 : l.length % 8 = 0) (hc : (liveR l).length ≤ 160) (h : ∀ k, k < l.length → stepR (l.take k) (l.getD k En.z) = true) : rightR l = true := by
  have hfree : ∀ e ∈ l, freeB e = (e.nd == 0) := by
    intro e he
    obtain ⟨k, hk, rfl⟩ := List.getElem_of_mem he
    have h1 := h k hk
    rw [getD_lt hk] at h1
    unfold stepR at h1
    rw [Bool.or_eq_true] at h1
    rcases h1 with h1 | h1
    · rw [freeB_iff.1 h1, freeB_z]; rfl
    · simp only [Bool.and_eq_true] at h1
      have h2 := nodeB_iff.1 h1.1.1
      have : (l[k].nd == 0) = false := by simp; omega
      unfold freeB
      rw [this]; simp
  rw [cnt_live hfree] at hc
  unfold rightR
  rw [Bool.and_eq_true]
  refine ⟨by simpa using h8, okE_all fun k hk => ?_⟩
  have h1 := h k hk
  unfold stepR at h1
  unfold stepB
  cases hf : freeB (l.getD k En.z) with
  | true => rfl
  | false =>
    rw [hf, Bool.false_or] at h1
    rw [Bool.false_or, h1, Bool.true_and]
    have := cntL_lt hk hf
    simp; omega

/-! ### an entry more, an entry less -/
def addR (l : List En) (s : ByteArray) (n : Int) : List En × Int :=
  if rightR l = true ∧ nodeB n = true then
    if rightB s = true then
      if placeR l s < 0 then
        if (liveR l).length < 160 then
          if 0 ≤ idx freeB l then (l.set (idx freeB l).toNat ⟨s, n⟩, 0) else (ofR (l ++ [⟨s, n⟩]), 0)
        else ([], 12)
      else ([], 6)
    else ([], 4)
  else ([], 1)
def dropR (l : List En) (s : ByteArray) : List En × Int × Int :=
  if rightR l = true then
    if placeR l s < 0 then ([], 0, 5) else (l.set (placeR l s).toNat En.z, (l.getD (placeR l s).toNat En.z).nd, 0)
  else ([], 0, 1)

theorem idx_congr {p q : En → Bool} {l : List En} (h : ∀ e ∈ l, p e = q e) : idx p l = idx q l := by
  rcases idx_cases q l with ⟨hq, hb⟩ | ⟨k, hk, hq, hp, hb⟩
  · rw [hq]
    refine idx_none fun j hj => ?_
    rw [getD_lt hj, h _ (List.getElem_mem hj)]
    exact hb _ (List.getElem_mem hj)
  · rw [hq]
    refine idx_found hk (fun j hj => ?_) ?_
    · have := hb j hj
      rw [getD_lt (by omega)] at this ⊢
      rw [h _ (List.getElem_mem _)]; exact this
    · rw [getD_lt hk] at hp ⊢
      rw [h _ (List.getElem_mem _)]; exact hp
theorem place_pos {l : List En} {s : ByteArray} (h : ¬ placeR l s < 0) : ∃ k : Nat, k < l.length ∧ placeR l s = k ∧ rightB s = true ∧ (l.getD k En.z).nm = s ∧ ∀ j, j < k → (l.getD j En.z).nm ≠ s := by
  unfold placeR at h ⊢
  split at h
  · rename_i hr
    rw [if_pos hr]
    rcases idx_cases (fun e => eqB e.nm s) l with ⟨h1, -⟩ | ⟨k, hk, h1, h2, h3⟩
    · omega
    · exact ⟨k, hk, h1, hr, eqB_iff.1 h2, fun j hj => eqB_ne.1 (h3 j hj)⟩
  · omega
theorem place_neg {l : List En} {s : ByteArray} (h : placeR l s < 0) (hr : rightB s = true) : ∀ e ∈ l, e.nm ≠ s := by
  unfold placeR at h
  rw [if_pos hr] at h
  rcases idx_cases (fun e => eqB e.nm s) l with ⟨_, h2⟩ | ⟨k, hk, h1, _⟩
  · exact fun e he => eqB_ne.1 (h2 e he)
  · omega
theorem place_bd (l : List En) (s : ByteArray) : -1 ≤ placeR l s ∧ placeR l s < l.length := by
  unfold placeR
  split
  · exact idx_bd _ _
  · omega
end Go.Proofs.Ytflijnhgonigjaa
