/-
  PLAIN MATHEMATICS for RollsPlay: a roll and the list of the entries that it should hold, through adds and drops. No condition.
-/
import Derived.Test.YtmmjpdggneagdaaEnts
namespace Go.Proofs.Ytmmjpdggneagdaa

/-- the last place below k at which the name s stands. -/
def atN (want : List En) (s : ByteArray) : Nat → Int
  | 0 => -1
  | k + 1 => if eqB (want.getD k En.z).nm s = true then (k : Int) else atN want s k
theorem atN_cases (want : List En) (s : ByteArray) : ∀ k, (atN want s k = -1 ∧ ∀ j, j < k → (want.getD j En.z).nm ≠ s) ∨ ∃ j : Nat, j < k ∧ atN want s k = j ∧ (want.getD j En.z).nm = s
  | 0 => Or.inl ⟨rfl, fun j hj => by omega⟩
  | k + 1 => by
    unfold atN
    split
    · rename_i h
      exact Or.inr ⟨k, by omega, rfl, eqB_iff.1 h⟩
    · rename_i h
      have h : eqB (want.getD k En.z).nm s = false := by simpa using h
      rcases atN_cases want s k with ⟨h1, h2⟩ | ⟨j, hj, h1, h2⟩
      · refine Or.inl ⟨h1, fun j hj => ?_⟩
        rcases Nat.lt_or_ge j k with h' | h'
        · exact h2 j h'
        · obtain rfl : j = k := by omega
          exact eqB_ne.1 h
      · exact Or.inr ⟨j, by omega, h1, h2⟩
theorem atN_bd (want : List En) (s : ByteArray) (k : Nat) : -1 ≤ atN want s k ∧ atN want s k < k := by
  rcases atN_cases want s k with ⟨h, -⟩ | ⟨j, hj, h, -⟩ <;> omega

structure Inv (l want : List En) : Prop where
  right : rightR l = true
  perm : want.Perm (liveR l)
theorem Inv.nil : Inv [] [] := ⟨by decide, List.Perm.refl _⟩
section
variable {l want : List En}
theorem mem_live {e : En} : e ∈ liveR l ↔ e ∈ l ∧ e.nd ≠ 0 := by unfold liveR; simp [List.mem_filter]
theorem Inv.mem (h : Inv l want) {e : En} : e ∈ want ↔ e ∈ l ∧ e.nd ≠ 0 := by rw [h.perm.mem_iff, mem_live]
theorem Inv.len (h : Inv l want) : (liveR l).length = want.length := h.perm.length_eq.symm
theorem Inv.ok (h : Inv l want) {e : En} (he : e ∈ l) (hn : e.nd ≠ 0) : nodeB e.nd = true ∧ rightB e.nm = true := by
  rcases right_mem h.right he with rfl | h1
  · exact absurd rfl hn
  · exact h1
theorem right_name {l : List En} (h : rightR l = true) {e : En} (he : e ∈ l) (hn : rightB e.nm = true) : e.nd ≠ 0 := by
  rcases right_mem h he with rfl | h1
  · exact absurd rfl (rightB_ne hn)
  · have := nodeB_iff.1 h1.1; omega
/-- no two entries of one name. -/
theorem right_one (h : rightR l = true) {e f : En} (he : e ∈ l) (hf : f ∈ l) (hn : e.nd ≠ 0) (hm : f.nd ≠ 0) (hnm : e.nm = f.nm) : e = f := by
  obtain ⟨i, hi, rfl⟩ := List.getElem_of_mem he
  obtain ⟨j, hj, rfl⟩ := List.getElem_of_mem hf
  have fr : ∀ k (hk : k < l.length), (l[k]).nd ≠ 0 → freeB (l.getD k En.z) = false := fun k hk hz => by
    rw [getD_lt hk, right_free h (List.getElem_mem hk)]
    simpa using hz
  rcases Nat.lt_trichotomy i j with h1 | h1 | h1
  · have := right_apart h h1 hj (fr j hj hm)
    rw [getD_lt hi, getD_lt hj] at this
    exact absurd hnm this
  · subst h1; rfl
  · have := right_apart h h1 hi (fr i hi hn)
    rw [getD_lt hi, getD_lt hj] at this
    exact absurd hnm.symm this
theorem getD_mem {l : List En} {k : Nat} (h : k < l.length) : l.getD k En.z ∈ l := by rw [getD_lt h]; exact List.getElem_mem h

theorem Inv.pl_neg (h : Inv l want) (s : ByteArray) (ha : atN want s want.length < 0) : placeR l s < 0 := by
  rcases Int.lt_or_le (placeR l s) 0 with h1 | h1
  · exact h1
  · exfalso
    obtain ⟨k, hk, -, hr, hn, -⟩ := place_pos (show ¬ placeR l s < 0 by omega)
    have hm := getD_mem hk
    have hw := h.mem.2 ⟨hm, right_name h.right hm (by rw [hn]; exact hr)⟩
    rcases atN_cases want s want.length with ⟨-, h2⟩ | ⟨j, _, h2, -⟩
    · obtain ⟨j, hj, e⟩ := List.getElem_of_mem hw
      refine h2 j hj ?_
      rw [getD_lt hj, e, hn]
    · omega
/-- where the wanted name stands in the roll. -/
theorem Inv.pl_pos (h : Inv l want) (s : ByteArray) {j : Nat} (hj : j < want.length) (hs : (want.getD j En.z).nm = s) :
    ∃ k : Nat, k < l.length ∧ placeR l s = k ∧ l.getD k En.z = want.getD j En.z := by
  have hw := h.mem.1 (getD_mem hj)
  have hok := h.ok hw.1 hw.2
  rw [hs] at hok
  have hp : ¬ placeR l s < 0 := fun hp => place_neg hp hok.2 _ hw.1 hs
  obtain ⟨k, hk, hpk, -, hn, -⟩ := place_pos hp
  refine ⟨k, hk, hpk, ?_⟩
  have hm := getD_mem hk
  exact right_one h.right hm hw.1 (right_name h.right hm (by rw [hn]; exact hok.2)) hw.2 (hn.trans hs.symm)
theorem Inv.at_pos (_h : Inv l want) (s : ByteArray) (ha : ¬ atN want s want.length < 0) : ∃ j : Nat, j < want.length ∧ atN want s want.length = j ∧ (want.getD j En.z).nm = s := by
  rcases atN_cases want s want.length with ⟨h1, -⟩ | h1
  · omega
  · exact h1

/-! ### a roll that may be, put together -/
theorem right_intro (h8 : l.length % 8 = 0) (hc : (liveR l).length ≤ 160) (h : ∀ k, k < l.length → freeB (l.getD k En.z) = true ∨ (nodeB (l.getD k En.z).nd = true ∧ rightB (l.getD k En.z).nm = true ∧ ∀ j, j < k → (l.getD j En.z).nm ≠ (l.getD k En.z).nm)) : rightR l = true := by
  refine ref_yes h8 hc fun k hk => ?_
  unfold stepR
  rcases h k hk with h1 | ⟨h1, h2, h3⟩
  · rw [h1]; rfl
  · rw [h1, h2]
    have : (l.take k).any (fun x => eqB x.nm (l.getD k En.z).nm) = false := by
      rw [List.any_eq_false]
      intro e he
      obtain ⟨j, hj, rfl⟩ := List.mem_take_iff_getElem.1 he
      have := h3 j (by omega)
      rw [getD_lt (by omega)] at this
      rw [eqB_ne.2 this]; decide
    rw [this]
    simp
theorem right_elim (h : rightR l = true) {k : Nat} (hk : k < l.length) : freeB (l.getD k En.z) = true ∨ (nodeB (l.getD k En.z).nd = true ∧ rightB (l.getD k En.z).nm = true ∧ ∀ j, j < k → (l.getD j En.z).nm ≠ (l.getD k En.z).nm) := by
  cases hf : freeB (l.getD k En.z) with
  | true => exact Or.inl rfl
  | false =>
    rcases right_mem h (getD_mem hk) with h1 | h1
    · rw [h1, freeB_z] at hf; cases hf
    · exact Or.inr ⟨h1.1, h1.2, fun j hj => right_apart h hj hk hf⟩
end

theorem set_get (l : List En) (k i : Nat) (x : En) (hi : i < l.length) : (l.set k x).getD i En.z = if k = i then x else l.getD i En.z := by
  simp only [List.getD, List.getElem?_set]
  split
  · rename_i h; subst h; simp [hi]
  · rfl
def one (x : En) : List En := if x.nd = 0 then [] else [x]
theorem live_app (a b : List En) : liveR (a ++ b) = liveR a ++ liveR b := by unfold liveR; exact List.filter_append _ _
theorem live_cons (x : En) (b : List En) : liveR (x :: b) = one x ++ liveR b := by
  unfold liveR one
  by_cases h : x.nd = 0 <;> simp [h]
theorem live_cut (l : List En) {k : Nat} (hk : k < l.length) : liveR l = liveR (l.take k) ++ (one (l.getD k En.z) ++ liveR (l.drop (k + 1))) := by
  have e : l = l.take k ++ (l.getD k En.z :: l.drop (k + 1)) := by
    rw [getD_lt hk, ← List.drop_eq_getElem_cons hk, List.take_append_drop]
  conv => lhs; rw [e]
  rw [live_app, live_cons]
theorem live_put (l : List En) {k : Nat} (x : En) (hk : k < l.length) : liveR (l.set k x) = liveR (l.take k) ++ (one x ++ liveR (l.drop (k + 1))) := by
  rw [List.set_eq_take_append_cons_drop, if_pos hk, live_app, live_cons]
theorem live_zeros (n : Nat) : liveR (List.replicate n En.z) = [] := by
  unfold liveR; rw [List.filter_eq_nil_iff]
  intro a ha
  rw [List.eq_of_mem_replicate ha]; decide
theorem one_live {x : En} (h : x.nd ≠ 0) : one x = [x] := by unfold one; rw [if_neg h]
theorem one_free {x : En} (h : x.nd = 0) : one x = [] := by unfold one; rw [if_pos h]

/-- a drop. -/
theorem Inv.drop {l want : List En} (h : Inv l want) {j k : Nat} (hj : j < want.length) (hk : k < l.length) (hkj : l.getD k En.z = want.getD j En.z) :
    Inv (l.set k En.z) (want.take j ++ want.drop (j + 1)) := by
  have hw := h.mem.1 (getD_mem hj)
  have p1 : want.Perm (want.getD j En.z :: (want.take j ++ want.drop (j + 1))) := by
    have e : want = want.take j ++ (want.getD j En.z :: want.drop (j + 1)) := by
      rw [getD_lt hj, ← List.drop_eq_getElem_cons hj, List.take_append_drop]
    conv => lhs; rw [e]
    exact List.perm_middle
  have p2 : (liveR l).Perm (want.getD j En.z :: liveR (l.set k En.z)) := by
    rw [live_cut l hk, live_put l En.z hk, hkj, one_live hw.2, one_free (show En.z.nd = 0 from rfl), List.nil_append]
    exact List.perm_middle
  have p3 : (want.take j ++ want.drop (j + 1)).Perm (liveR (l.set k En.z)) := (List.perm_cons _).1 ((p1.symm.trans h.perm).trans p2)
  refine ⟨right_intro (by rw [List.length_set]; exact right_len h.right) ?_ fun i hi => ?_, p3⟩
  · have := right_cnt h.right
    have e := p2.length_eq
    simp at e
    omega
  · rw [List.length_set] at hi
    rw [set_get _ _ _ _ hi]
    split
    · exact Or.inl freeB_z
    · rcases right_elim h.right hi with h1 | ⟨h1, h2, h3⟩
      · exact Or.inl h1
      · refine Or.inr ⟨h1, h2, fun q hq => ?_⟩
        rw [set_get _ _ _ _ (by omega)]
        split
        · exact fun e => rightB_ne h2 e.symm
        · exact h3 q hq
/-- an add at a free place. -/
theorem Inv.add_set {l want : List En} (h : Inv l want) {s : ByteArray} {z : Int} {k : Nat} (hk : k < l.length) (hf : freeB (l.getD k En.z) = true) (hz : nodeB z = true) (hs : rightB s = true) (hp : placeR l s < 0) (hc : want.length < 160) :
    Inv (l.set k ⟨s, z⟩) (want ++ [⟨s, z⟩]) := by
  have hz1 := nodeB_iff.1 hz
  have p2 : (liveR (l.set k ⟨s, z⟩)).Perm ((⟨s, z⟩ : En) :: liveR l) := by
    rw [live_cut l hk, live_put l _ hk, one_live (show (⟨s, z⟩ : En).nd ≠ 0 by show z ≠ 0; omega), freeB_iff.1 hf, one_free (show En.z.nd = 0 from rfl), List.nil_append]
    exact List.perm_middle
  have p1 : (want ++ [(⟨s, z⟩ : En)]).Perm ((⟨s, z⟩ : En) :: want) := List.perm_append_singleton _ _
  refine ⟨right_intro (by rw [List.length_set]; exact right_len h.right) ?_ fun i hi => ?_, p1.trans ((List.Perm.cons _ h.perm).trans p2.symm)⟩
  · rw [p2.length_eq, List.length_cons, h.len]; omega
  · rw [List.length_set] at hi
    rw [set_get _ _ _ _ hi]
    split
    · rename_i hki
      refine Or.inr ⟨hz, hs, fun q hq => ?_⟩
      rw [set_get _ _ _ _ (by omega), if_neg (by omega)]
      exact place_neg hp hs _ (getD_mem (by omega))
    · rcases right_elim h.right hi with h1 | ⟨h1, h2, h3⟩
      · exact Or.inl h1
      · refine Or.inr ⟨h1, h2, fun q hq => ?_⟩
        rw [set_get _ _ _ _ (by omega)]
        split
        · exact fun e => place_neg hp hs _ (getD_mem hi) e.symm
        · exact h3 q hq
/-- an add behind all. -/
theorem Inv.add_of {l want : List En} (h : Inv l want) {s : ByteArray} {z : Int} (hz : nodeB z = true) (hs : rightB s = true) (hp : placeR l s < 0) (hc : want.length < 160) :
    Inv (ofR (l ++ [⟨s, z⟩])) (want ++ [⟨s, z⟩]) := by
  have hz1 := nodeB_iff.1 hz
  have hlv : liveR (ofR (l ++ [⟨s, z⟩])) = liveR l ++ [⟨s, z⟩] := by
    unfold ofR
    rw [live_app, live_zeros, List.append_nil, live_app, live_cons, one_live (show (⟨s, z⟩ : En).nd ≠ 0 by show z ≠ 0; omega)]
    rfl
  have h8 := right_len h.right
  have hlen : (ofR (l ++ [(⟨s, z⟩ : En)])).length = l.length + 8 := by unfold ofR; simp; omega
  refine ⟨right_intro (by rw [hlen]; omega) ?_ fun i hi => ?_, by rw [hlv]; exact h.perm.append_right _⟩
  · rw [hlv, List.length_append, h.len]; simp; omega
  · rw [hlen] at hi
    have gl : ∀ q, q < l.length → (ofR (l ++ [(⟨s, z⟩ : En)])).getD q En.z = l.getD q En.z := fun q hq => by
      unfold ofR
      simp only [List.getD]
      rw [List.append_assoc, List.getElem?_append_left hq]
    rcases Nat.lt_trichotomy i l.length with h1 | h1 | h1
    · rw [gl i h1]
      rcases right_elim h.right h1 with h2 | ⟨h2, h3, h4⟩
      · exact Or.inl h2
      · refine Or.inr ⟨h2, h3, fun q hq => ?_⟩
        rw [gl q (by omega)]
        exact h4 q hq
    · have e : (ofR (l ++ [(⟨s, z⟩ : En)])).getD i En.z = ⟨s, z⟩ := by
        subst h1
        unfold ofR
        simp only [List.getD]
        rw [List.append_assoc, List.getElem?_append_right (Nat.le_refl _), Nat.sub_self]
        rfl
      rw [e]
      refine Or.inr ⟨hz, hs, fun q hq => ?_⟩
      rw [gl q (by omega)]
      exact place_neg hp hs _ (getD_mem (by omega))
    · have e : (ofR (l ++ [(⟨s, z⟩ : En)])).getD i En.z = En.z := by
        unfold ofR
        simp only [List.getD]
        rw [List.getElem?_append_right (by simp; omega)]
        rw [List.getElem?_replicate]
        split <;> rfl
      rw [e]
      exact Or.inl freeB_z

/-- what an add answers, beside what is wanted. -/
theorem Inv.add {l want : List En} (h : Inv l want) (s : ByteArray) (z : Int) (hz : 1 ≤ z) :
    (atN want s want.length < 0 ∧ rightB s = true ∧ z ≤ 65535 ∧ want.length < 160 ∧ (addR l s z).2 = 0 ∧ Inv (addR l s z).1 (want ++ [⟨s, z⟩])) ∨
    (¬ (atN want s want.length < 0 ∧ rightB s = true ∧ z ≤ 65535 ∧ want.length < 160) ∧ (addR l s z).2 ≠ 0) := by
  unfold addR
  by_cases h1 : z ≤ 65535
  · have hn : nodeB z = true := nodeB_iff.2 ⟨hz, h1⟩
    rw [if_pos ⟨h.right, hn⟩]
    by_cases h2 : rightB s = true
    · rw [if_pos h2]
      by_cases h3 : atN want s want.length < 0
      · have hp := h.pl_neg s h3
        rw [if_pos hp, h.len]
        by_cases h4 : want.length < 160
        · rw [if_pos h4]
          left
          refine ⟨h3, h2, h1, h4, ?_⟩
          by_cases h5 : 0 ≤ idx freeB l
          · rw [if_pos h5]
            refine ⟨rfl, ?_⟩
            rcases idx_cases freeB l with ⟨h6, -⟩ | ⟨k, hk, h6, h7, -⟩
            · omega
            · rw [h6]
              exact h.add_set hk h7 hn h2 hp h4
          · rw [if_neg h5]
            exact ⟨rfl, h.add_of hn h2 hp h4⟩
        · rw [if_neg h4]
          exact Or.inr ⟨fun hh => h4 hh.2.2.2, by decide⟩
      · obtain ⟨j, hj, -, hs⟩ := h.at_pos s h3
        obtain ⟨k, _, hpk, -⟩ := h.pl_pos s hj hs
        rw [if_neg (by omega)]
        exact Or.inr ⟨fun hh => h3 hh.1, by decide⟩
    · rw [if_neg h2]
      exact Or.inr ⟨fun hh => h2 hh.2.1, by decide⟩
  · rw [if_neg (by rw [nodeB_iff]; omega)]
    exact Or.inr ⟨fun hh => h1 hh.2.2.1, by decide⟩
/-- what a drop answers, beside what is wanted. -/
theorem Inv.dropped {l want : List En} (h : Inv l want) (s : ByteArray) :
    (atN want s want.length = -1 ∧ dropR l s = ([], 0, 5)) ∨
    ∃ j : Nat, j < want.length ∧ atN want s want.length = j ∧ (dropR l s).2.2 = 0 ∧ (dropR l s).2.1 = (want.getD j En.z).nd ∧ Inv (dropR l s).1 (want.take j ++ want.drop (j + 1)) := by
  by_cases h3 : atN want s want.length < 0
  · have hp := h.pl_neg s h3
    have := atN_bd want s want.length
    refine Or.inl ⟨by omega, ?_⟩
    unfold dropR
    rw [if_pos h.right, if_pos hp]
  · obtain ⟨j, hj, hat, hs⟩ := h.at_pos s h3
    obtain ⟨k, hk, hpk, hkj⟩ := h.pl_pos s hj hs
    refine Or.inr ⟨j, hj, hat, ?_⟩
    unfold dropR
    rw [if_pos h.right, if_neg (by omega), hpk]
    exact ⟨rfl, by show (l.getD k En.z).nd = _; rw [hkj], h.drop hj hk hkj⟩
/-- what is wanted is found. -/
theorem Inv.found {l want : List En} (h : Inv l want) {j : Nat} (hj : j < want.length) : findR l (want.getD j En.z).nm = ((want.getD j En.z).nd, true) := by
  obtain ⟨k, hk, hpk, hkj⟩ := h.pl_pos (want.getD j En.z).nm hj rfl
  unfold findR
  rw [if_neg (by omega), hpk]
  show ((l.getD k En.z).nd, true) = _
  rw [hkj]
end Go.Proofs.Ytmmjpdggneagdaa
