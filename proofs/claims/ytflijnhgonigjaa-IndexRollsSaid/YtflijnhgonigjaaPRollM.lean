/-
  PLAIN MATHEMATICS for IndexRolls: pages of nine, a row of places, and the pages say the same. No condition.
-/
import Derived.Test.YtflijnhgonigjaaPOf
namespace Go.Proofs.Ytflijnhgonigjaa

theorem cuts_flat (l : List En) : ∀ k, ((List.range k).map (cutAt l)).flatten = l.take (9 * k)
  | 0 => by simp
  | k + 1 => by
    rw [List.range_succ, List.map_append, List.flatten_append, cuts_flat l k]
    simp only [List.map_cons, List.map_nil, List.flatten_cons, List.flatten_nil, List.append_nil]
    unfold cutAt
    rw [show 9 * (k + 1) = 9 * k + 9 by omega, List.take_add]
theorem chunksL_flat (l : List En) : (chunksL l).flatten = l := by
  unfold chunksL
  rw [cuts_flat, List.take_of_length_le (by unfold qOf; omega)]
theorem chunksL_right {l : List En} (h1 : ascL l = true) (h2 : l.length ≤ 160) : rightP (chunksL l) = true := by
  rw [rightP_iff, chunksL_flat]
  refine ⟨fun x hx => ?_, h1, h2⟩
  obtain ⟨k, hk, rfl⟩ := List.mem_map.1 hx
  rw [List.mem_range, qOf_lt] at hk
  rw [cutAt_len]; unfold lenC; omega
theorem findP_chunks {p : Pg} (h : rightP p = true) (s : ByteArray) : findP (chunksL p.flatten) s = findP p s := by
  have hr := rightP_iff.1 h
  unfold findP
  rw [chunksL_flat, chunksL_right hr.2.1 hr.2.2, h]
theorem findP_roll {p : Pg} (h : rightP p = true) (s : ByteArray) : findR (ofR p.flatten) s = findP p s := by
  have hg := right_good h
  have ha := right_asc h
  generalize hl : p.flatten = l at *
  have hf : findP p s = if hasL l s = true then (nodeOf l s, true) else (0, false) := by
    unfold findP; rw [h, hl]; simp
  rw [hf]
  have hgood : ∀ e ∈ l, rightB e.nm = true := fun e he => by
    have := hg e he
    unfold goodB at this
    rw [Bool.and_eq_true] at this
    exact this.2
  unfold findR placeR
  cases hs : rightB s with
  | false =>
    have hno : hasL l s = false := by
      cases hh : hasL l s with
      | false => rfl
      | true =>
        obtain ⟨e, he, rfl⟩ := hasL_iff.1 hh
        rw [hgood e he] at hs; cases hs
    rw [hno]; rfl
  | true =>
    rw [if_pos rfl]
    have hz : eqB En.z.nm s = false := by
      rw [eqB_ne]
      intro e
      exact rightB_ne hs e.symm
    have hget : ∀ j, j < l.length → (ofR l).getD j En.z = l.getD j En.z := fun j hj => by
      unfold ofR
      simp [List.getD, List.getElem?_append_left hj]
    have hget2 : ∀ j, l.length ≤ j → (ofR l).getD j En.z = En.z := fun j hj => by
      unfold ofR
      simp only [List.getD, List.getElem?_append_right hj, List.getElem?_replicate]
      split <;> rfl
    cases hh : hasL l s with
    | true =>
      obtain ⟨e, he, hes⟩ := hasL_iff.1 hh
      obtain ⟨j, hj, rfl⟩ := List.getElem_of_mem he
      have hes' : (l.getD j En.z).nm = s := by rw [getD_lt hj]; exact hes
      obtain ⟨-, hn, hk⟩ := first_named ha hj hes'
      have hi : idx (fun e => eqB e.nm s) (ofR l) = j := by
        refine idx_found (by unfold ofR; rw [List.length_append]; omega) (fun i hij => ?_) ?_
        · rw [hget i (by omega)]
          show eqB (l.getD i En.z).nm s = false
          rw [eqB_ne, getD_lt (by omega)]
          intro e
          have := asc_at ha (show i < l.length by omega) hj hij
          rw [e, hes] at this
          rw [ltB_irrefl] at this; cases this
        · rw [hget j hj]
          exact eqB_iff.2 hes'
      rw [hi, if_neg (by omega), if_pos rfl, hn, Int.toNat_natCast, hget j hj]
    | false =>
      have hi : idx (fun e => eqB e.nm s) (ofR l) = -1 := by
        refine idx_none fun j _ => ?_
        show eqB ((ofR l).getD j En.z).nm s = false
        rcases Nat.lt_or_ge j l.length with h1 | h1
        · rw [hget j h1, eqB_ne, getD_lt h1]
          exact no_has hh _ (List.getElem_mem _)
        · rw [hget2 j h1]; exact hz
      rw [hi]; rfl
end Go.Proofs.Ytflijnhgonigjaa
