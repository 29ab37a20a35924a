/-
  PLAIN MATHEMATICS: what strings.Split answers at a slash are the pieces between the slashes; a text without its first slash. No condition.
-/
import Derived.Test.YtcijpefddicmiaaDoorPlain
namespace Go.Proofs.YtcijpefddicmiaaDoor
open Go.Lib

theorem splitK_pieces : ∀ s : List UInt8, splitK [47] 0 (s.count 47) s = pieces s
  | [] => rfl
  | c :: l => by
    have ih := splitK_pieces l
    by_cases hc : c = 47
    · subst hc
      have hi : index (47 :: l) [47] = 0 := by simp [index]
      rw [List.count_cons_self, splitK, hi, if_neg (by decide), pieces_slash]
      simp only [Int.toNat_zero, Nat.add_zero, List.take_zero, List.length_singleton, Nat.zero_add, List.drop_one, List.tail_cons]
      rw [ih]
    · have hn : (c :: l).count 47 = l.count 47 := List.count_cons_of_ne hc
      have hi : index (c :: l) [47] = if index l [47] == -1 then -1 else index l [47] + 1 := by
        have : ([47] : List UInt8).isPrefixOf (c :: l) = false := by
          have : ((47 : UInt8) == c) = false := by simpa using fun e => hc e.symm
          simp [List.isPrefixOf, this]
        rw [index, this]; simp
      rw [hn, pieces, if_neg hc, ← ih]
      cases hk : l.count 47 with
      | zero => rfl
      | succ k =>
        rw [splitK, splitK, hi]
        by_cases hm : index l [47] = -1
        · rw [hm]; rfl
        · have hge := index_ge l [47]
          have h1 : (index l [47] == -1) = false := by simpa using hm
          obtain ⟨i, hI⟩ : ∃ i : Nat, index l [47] = i := ⟨(index l [47]).toNat, by omega⟩
          rw [h1, hI]
          have h2 : (((i : Int) + 1) == -1) = false := by
            rw [beq_eq_false_iff_ne]; omega
          have h3 : ((i : Int) + 1).toNat = i + 1 := by omega
          simp only [h2, Bool.false_eq_true, if_false, h3, Int.toNat_natCast, Nat.add_zero, List.length_singleton, List.take_succ_cons, List.drop_succ_cons]

def bs (l : List UInt8) : ByteArray := ⟨l.toArray⟩
theorem bs_data (l : List UInt8) : (bs l).data.toList = l := rfl
theorem bs_size (l : List UInt8) : (bs l).size = l.length := rfl
theorem bs_eq (s : ByteArray) : bs s.data.toList = s := by
  obtain ⟨d⟩ := s; rfl
theorem bs_inj {a b : List UInt8} (h : bs a = bs b) : a = b := by
  have := congrArg (fun s : ByteArray => s.data.toList) h
  simpa [bs] using this

/-- the cells that strings.Split lays. -/
theorem split_cells (r : List UInt8) : (splitB ⟨#[47]⟩ 0 (countB (bs r) ⟨#[47]⟩) (bs r)).map Value.string = (pieces r).map (fun p => Value.string (bs p)) := by
  have h := splitB_data ⟨#[47]⟩ 0 (countB (bs r) ⟨#[47]⟩) (bs r)
  have hc : countB (bs r) ⟨#[47]⟩ = r.count 47 := by
    show Lib.count (bs r).data.toList [47] = _
    rw [count_one]; rfl
  rw [hc] at h ⊢
  have h' : (splitB ⟨#[47]⟩ 0 (r.count 47) (bs r)).map (fun s => s.data.toList) = pieces r := h.trans (splitK_pieces r)
  rw [← h', List.map_map]
  apply List.map_congr_left
  intro s _
  simp [bs_eq]
theorem split_len (r : List UInt8) : countB (bs r) ⟨#[47]⟩ + 1 = (pieces r).length := by
  have h := congrArg List.length (split_cells r)
  rw [List.length_map, List.length_map, splitB_all ⟨#[47]⟩ (by decide) 0 _ _ rfl] at h
  exact h

theorem cut_slash (r : List UInt8) : trimPrefix (47 :: r) [47] = r ∧ hasPrefix (47 :: r) [47] = true := by
  constructor
  · simp [trimPrefix, hasPrefix]
  · simp [hasPrefix]
theorem cut_none {l : List UInt8} (h : ∀ r, l ≠ 47 :: r) : hasPrefix l [47] = false := by
  cases l with
  | nil => rfl
  | cons c r =>
    have : ((47 : UInt8) == c) = false := by simpa using fun e => h r (by rw [e])
    simp [hasPrefix, List.isPrefixOf, this]
end Go.Proofs.YtcijpefddicmiaaDoor
