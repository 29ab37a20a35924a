/-
  PLAIN MATHEMATICS for RollsBlocks: the blocks of a roll, the roll of blocks, there and back. No condition.
-/
import Derived.Test.YtmmjpdggneagdaaEBlk
namespace Go.Proofs.Ytmmjpdggneagdaa

def bytesE (l : List En) : List UInt8 := l.flatMap slotL
def cutE (l : List En) (i : Nat) : List En := (l.drop (8 * i)).take 8
def blk (l : List En) (i : Nat) : ByteArray := bs (bytesE (cutE l i))
def blocksTo (l : List En) (q : Nat) : List ByteArray := (List.range q).map (blk l)
def blocksR (l : List En) : List ByteArray := blocksTo l (l.length / 8)
def writeB (l : List En) : List ByteArray × Int := if rightR l = true then (blocksR l, 0) else ([], 1)

def entAt (b : ByteArray) (k : Nat) : Option En := unslotR (cutL b.data.toList (16 * k) (16 * k + 16))
def blkTo (b : ByteArray) : Nat → Bool
  | 0 => true
  | k + 1 => blkTo b k && (entAt b k).isSome
def blkB (b : ByteArray) : Bool := decide (b.size = 128) && blkTo b 8
def entsTo (b : ByteArray) (k : Nat) : List En := (List.range k).map fun j => (entAt b j).getD En.z
def entsAll (bl : List ByteArray) : List En := bl.flatMap fun b => entsTo b 8
def readB (bl : List ByteArray) : List En × Int := if bl.all blkB = true ∧ rightR (entsAll bl) = true then (entsAll bl, 0) else ([], 15)

theorem entsTo_succ (b : ByteArray) (k : Nat) {e : En} (h : entAt b k = some e) : entsTo b (k + 1) = entsTo b k ++ [e] := by
  unfold entsTo; rw [List.range_succ, List.map_append]; simp [h]
theorem entsTo_len (b : ByteArray) (k : Nat) : (entsTo b k).length = k := by simp [entsTo]
theorem entsAll_len (bl : List ByteArray) : (entsAll bl).length = 8 * bl.length := by
  unfold entsAll
  induction bl with
  | nil => rfl
  | cons b bl ih => rw [List.flatMap_cons, List.length_append, entsTo_len, ih]; simp; omega
theorem entsAll_snoc (bl : List ByteArray) (b : ByteArray) : entsAll (bl ++ [b]) = entsAll bl ++ entsTo b 8 := by unfold entsAll; simp
theorem take_snocB (l : List ByteArray) {k : Nat} (h : k < l.length) : l.take (k + 1) = l.take k ++ [l.getD k ⟨#[]⟩] := by
  rw [List.take_succ_eq_append_getElem h]
  simp [List.getD, h]
theorem blkTo_mono {b : ByteArray} {k n : Nat} (h : blkTo b n = true) (hk : k ≤ n) : blkTo b k = true := by
  induction n with
  | zero => obtain rfl : k = 0 := by omega
            exact h
  | succ n ih =>
    rcases Nat.lt_or_ge n k with h1 | h1
    · obtain rfl : k = n + 1 := by omega
      exact h
    · rw [blkTo, Bool.and_eq_true] at h
      exact ih h.1 h1
theorem blkTo_at {b : ByteArray} {k n : Nat} (h : blkTo b n = true) (hk : k < n) : ∃ e, entAt b k = some e := by
  have := blkTo_mono h (k := k + 1) hk
  rw [blkTo, Bool.and_eq_true] at this
  exact Option.isSome_iff_exists.1 this.2
theorem read_no {bl : List ByteArray} {k : Nat} (hk : k < bl.length) (h : blkB (bl.getD k ⟨#[]⟩) = false) : readB bl = ([], 15) := by
  unfold readB
  rw [if_neg]
  rintro ⟨h1, -⟩
  have := List.all_eq_true.1 h1 bl[k] (List.getElem_mem hk)
  simp [List.getD, hk] at h
  rw [h] at this; cases this
theorem blk_size_no {b : ByteArray} (h : ¬ b.size = 128) : blkB b = false := by unfold blkB; simp [h]
theorem blk_ent_no {b : ByteArray} {k : Nat} (hk : k < 8) (h : entAt b k = none) : blkB b = false := by
  unfold blkB
  cases hh : blkTo b 8 with
  | false => simp
  | true => obtain ⟨e, he⟩ := blkTo_at hh hk; rw [h] at he; cases he
theorem blk_yes {b : ByteArray} (h1 : b.size = 128) (h2 : blkTo b 8 = true) : blkB b = true := by unfold blkB; simp [h1, h2]
theorem read_yes {bl : List ByteArray} (h : ∀ k, k < bl.length → blkB (bl.getD k ⟨#[]⟩) = true) (hr : rightR (entsAll bl) = true) : readB bl = (entsAll bl, 0) := by
  have ha : bl.all blkB = true := by
    rw [List.all_eq_true]
    intro b hb
    obtain ⟨k, hk, rfl⟩ := List.getElem_of_mem hb
    have := h k hk
    simpa [List.getD, hk] using this
  unfold readB
  rw [if_pos ⟨ha, hr⟩]
theorem read_odd {bl : List ByteArray} (hr : rightR (entsAll bl) = false) : readB bl = ([], 15) := by
  unfold readB; rw [if_neg]; rintro ⟨-, h⟩; rw [hr] at h; cases h

/-! ### there -/
theorem cutE_len {l : List En} {i : Nat} (h : 8 * i + 8 ≤ l.length) : (cutE l i).length = 8 := by unfold cutE; simp; omega
theorem cutE_at {l : List En} {i j : Nat} (hj : j < 8) : (cutE l i).getD j En.z = l.getD (8 * i + j) En.z := by
  unfold cutE
  simp only [List.getD]
  rw [List.getElem?_take_of_lt hj, List.getElem?_drop]
theorem bytesE_len {l : List En} (h : ∀ e ∈ l, e.nm.size ≤ 11) : (bytesE l).length = 16 * l.length := by
  induction l with
  | nil => rfl
  | cons e l ih =>
    have := ih (fun x hx => h x (by simp [hx]))
    unfold bytesE at this ⊢
    rw [List.flatMap_cons, List.length_append, slot_len (h e (by simp)), this]; simp; omega
theorem bytesE_cut : ∀ {l : List En} (_ : ∀ e ∈ l, e.nm.size ≤ 11) {k : Nat} (_ : k < l.length), cutL (bytesE l) (16 * k) (16 * k + 16) = slotL (l.getD k En.z)
  | e :: l, h, 0, _ => by
    have hs := slot_len (h e (by simp))
    unfold cutL bytesE
    rw [List.flatMap_cons, Nat.mul_zero, List.drop_zero]
    exact List.take_left' hs
  | e :: l, h, k + 1, hk => by
    have hs := slot_len (h e (by simp))
    have ih := bytesE_cut (l := l) (fun x hx => h x (by simp [hx])) (k := k) (by simpa using hk)
    unfold cutL at ih ⊢
    have e1 : (bytesE (e :: l)).drop (16 * (k + 1)) = (bytesE l).drop (16 * k) := by
      unfold bytesE
      rw [List.flatMap_cons, show 16 * (k + 1) = 16 + 16 * k by omega, ← List.drop_drop, List.drop_left' hs]
    rw [e1, show 16 * (k + 1) + 16 - 16 * (k + 1) = 16 * k + 16 - 16 * k by omega, ih]
    rfl
theorem cutE_mem {l : List En} {i : Nat} {e : En} (h : e ∈ cutE l i) : e ∈ l := List.mem_of_mem_drop (List.mem_of_mem_take h)
theorem blk_ent {l : List En} (hr : rightR l = true) {i k : Nat} (hi : 8 * i + 8 ≤ l.length) (hk : k < 8) : entAt (blk l i) k = some (l.getD (8 * i + k) En.z) := by
  unfold entAt blk
  have hm : ∀ e ∈ cutE l i, e.nm.size ≤ 11 := fun e he => (right_okS hr (cutE_mem he)).len
  rw [bs_data, bytesE_cut hm (by rw [cutE_len hi]; exact hk), cutE_at hk]
  exact unslot_slot (right_okS hr (by rw [getD_lt (by omega)]; exact List.getElem_mem _))
theorem blk_good {l : List En} (hr : rightR l = true) {i : Nat} (hi : 8 * i + 8 ≤ l.length) : blkB (blk l i) = true := by
  have hm : ∀ e ∈ cutE l i, e.nm.size ≤ 11 := fun e he => (right_okS hr (cutE_mem he)).len
  refine blk_yes (by unfold blk; rw [bs_size, bytesE_len hm, cutE_len hi]) ?_
  have : ∀ k, k ≤ 8 → blkTo (blk l i) k = true := by
    intro k
    induction k with
    | zero => intro _; rfl
    | succ k ih => intro hk; rw [blkTo, ih (by omega), blk_ent hr hi hk]; rfl
  exact this 8 (Nat.le_refl _)
theorem ents_blk {l : List En} (hr : rightR l = true) {i : Nat} (hi : 8 * i + 8 ≤ l.length) : entsTo (blk l i) 8 = cutE l i := by
  apply List.ext_getElem?
  intro j
  rcases Nat.lt_or_ge j 8 with hj | hj
  · have h1 : (entsTo (blk l i) 8)[j]? = some (l.getD (8 * i + j) En.z) := by
      unfold entsTo
      rw [List.getElem?_map, List.getElem?_range hj]
      simp [blk_ent hr hi hj]
    rw [h1]
    have h2 := cutE_at hj (l := l) (i := i)
    simp only [List.getD] at h2 ⊢
    rw [← h2, List.getElem?_eq_getElem (show j < (cutE l i).length by rw [cutE_len hi]; exact hj)]
    rfl
  · rw [List.getElem?_eq_none (by rw [entsTo_len]; exact hj), List.getElem?_eq_none (by rw [cutE_len hi]; exact hj)]
theorem blocksTo_succ (l : List En) (q : Nat) : blocksTo l (q + 1) = blocksTo l q ++ [blk l q] := by unfold blocksTo; rw [List.range_succ, List.map_append]; rfl
theorem blocksTo_len (l : List En) (q : Nat) : (blocksTo l q).length = q := by simp [blocksTo]
theorem ents_blocksTo {l : List En} (hr : rightR l = true) : ∀ q, 8 * q ≤ l.length → entsAll (blocksTo l q) = l.take (8 * q)
  | 0, _ => rfl
  | q + 1, h => by
    rw [blocksTo_succ, entsAll_snoc, ents_blocksTo hr q (by omega), ents_blk hr (by omega)]
    unfold cutE
    rw [show 8 * (q + 1) = 8 * q + 8 by omega, List.take_add]
/-- what is written is read again. -/
theorem read_write {l : List En} (hr : rightR l = true) : readB (blocksR l) = (l, 0) := by
  have h8 := right_len hr
  have e : entsAll (blocksR l) = l := by
    unfold blocksR
    rw [ents_blocksTo hr _ (by omega), List.take_of_length_le (by omega)]
  have := read_yes (bl := blocksR l) (fun k hk => by
    have hk' : k < l.length / 8 := by unfold blocksR at hk; rwa [blocksTo_len] at hk
    have : (blocksR l).getD k ⟨#[]⟩ = blk l k := by unfold blocksR blocksTo; simp [List.getD, hk']
    rw [this]
    exact blk_good hr (by omega)) (by rw [e]; exact hr)
  rw [this, e]

/-! ### and back -/
theorem cut_join (p : List UInt8) : ∀ k, 16 * k ≤ p.length → ((List.range k).flatMap fun j => cutL p (16 * j) (16 * j + 16)) = p.take (16 * k)
  | 0, _ => by simp
  | k + 1, h => by
    rw [List.range_succ, List.flatMap_append, cut_join p k (by omega)]
    simp only [List.flatMap_cons, List.flatMap_nil, List.append_nil]
    unfold cutL
    rw [show 16 * (k + 1) = 16 * k + 16 by omega, show 16 * k + 16 - 16 * k = 16 by omega, List.take_add]
theorem bytes_ents {b : ByteArray} (h : blkB b = true) : bs (bytesE (entsTo b 8)) = b := by
  unfold blkB at h
  simp only [Bool.and_eq_true, decide_eq_true_eq] at h
  obtain ⟨h1, h2⟩ := h
  have hl : b.data.toList.length = 128 := by rw [data_len, h1]
  have e : bytesE (entsTo b 8) = (List.range 8).flatMap fun j => cutL b.data.toList (16 * j) (16 * j + 16) := by
    unfold bytesE entsTo
    rw [List.flatMap_map]
    unfold List.flatMap
    congr 1
    apply List.map_congr_left
    intro j hj
    have hj8 : j < 8 := List.mem_range.1 hj
    obtain ⟨en, he⟩ := blkTo_at h2 hj8
    rw [he]
    have hc : (cutL b.data.toList (16 * j) (16 * j + 16)).length = 16 := by unfold cutL; simp [hl]; omega
    exact (slot_unslot hc he).1
  rw [e, cut_join _ 8 (by rw [hl]; omega), List.take_of_length_le (by rw [hl]; omega), bs_eq]
theorem cut_ents : ∀ (bl : List ByteArray) (i : Nat), i < bl.length → cutE (entsAll bl) i = entsTo (bl.getD i ⟨#[]⟩) 8
  | b :: bl, 0, _ => by
    unfold cutE entsAll
    rw [List.flatMap_cons, Nat.mul_zero, List.drop_zero]
    exact List.take_left' (entsTo_len b 8)
  | b :: bl, i + 1, h => by
    have ih := cut_ents bl i (by simpa using h)
    unfold cutE at ih ⊢
    have e : (entsAll (b :: bl)).drop (8 * (i + 1)) = (entsAll bl).drop (8 * i) := by
      unfold entsAll
      rw [List.flatMap_cons, show 8 * (i + 1) = 8 + 8 * i by omega, ← List.drop_drop, List.drop_left' (entsTo_len b 8)]
    rw [e, ih]
    rfl
/-- what is read is written as the blocks that were read. -/
theorem write_read_B {bl : List ByteArray} (h : (readB bl).2 = 0) : writeB (readB bl).1 = (bl, 0) := by
  unfold readB at h ⊢
  split at h
  · rename_i hc
    rw [if_pos hc]
    simp only
    unfold writeB
    rw [if_pos hc.2]
    congr 1
    have hl := entsAll_len bl
    unfold blocksR blocksTo
    rw [hl, show 8 * bl.length / 8 = bl.length by omega]
    apply List.ext_getElem
    · simp
    · intro i h1 h2
      simp only [List.getElem_map, List.getElem_range]
      unfold blk
      rw [cut_ents bl i h2]
      have e : bl.getD i ⟨#[]⟩ = bl[i] := by simp [List.getD, h2]
      rw [e]
      exact bytes_ents (List.all_eq_true.1 hc.1 _ (List.getElem_mem h2))
  · simp at h
end Go.Proofs.Ytmmjpdggneagdaa
