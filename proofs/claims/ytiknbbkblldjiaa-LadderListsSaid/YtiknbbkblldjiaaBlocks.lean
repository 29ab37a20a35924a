/-
  WALKS: Blocks; Of's answer as slices to be read. Conditions: at most 1000 lists.
-/
import Derived.Test.YtiknbbkblldjiaaOf
namespace Go.Proofs.Ytiknbbkblldjiaa
open Go.RowKit Go.Shelf

def lenAt (ls : List (Option (List Int))) (k : Nat) : Nat := ((ls.getD k none).getD []).length
def cntTo (ls : List (Option (List Int))) : Nat → Nat
  | 0 => 0
  | k + 1 => cntTo ls k + if 0 < lenAt ls k then 1 else 0
theorem cntTo_le (ls : List (Option (List Int))) : ∀ k, cntTo ls k ≤ k
  | 0 => Nat.le_refl _
  | k + 1 => by
    have := cntTo_le ls k
    simp only [cntTo]
    split <;> omega
def blocksN (n2 n3 : Nat) (ls : List (Option (List Int))) : Nat := (if 0 < n2 then 1 else 0) + (if 0 < n3 then 1 else 0) + cntTo ls n3

set_option maxHeartbeats 2000000 in
theorem blocks_base (z : Nat) (A1 A2 A3 : Option Addr) (n1 n2 n3 c1 c2 c3 B : Nat) (ls : List (Option (List Int))) (w : World) (h3 : ListsAt w B A3 n3 ls) (hB : B ≤ w.heap.size) (hn : n3 ≤ 1000) (hz : z = (if 0 < n2 then 1 else 0) + (if 0 < n3 then 1 else 0)) :
    Calls Try.prog 17 #[.agg #[.slice A1 n1 c1, .slice A2 n2 c2, .slice A3 n3 c3]] w fun e w' => e = .returned (.int .i64 ((z + cntTo ls n3 : Nat) : Int)) ∧ Below w.heap.size w w' := by
  have c1' : (w.alloc (.cells #[.slice A1 n1 c1, .slice A2 n2 c2, .slice A3 n3 c3] 26)).cell? ⟨w.heap.size, 0, none⟩ = some (.slice A1 n1 c1) := cell_new w _ 26 0 rfl
  have c2' : (w.alloc (.cells #[.slice A1 n1 c1, .slice A2 n2 c2, .slice A3 n3 c3] 26)).cell? ⟨w.heap.size, 1, none⟩ = some (.slice A2 n2 c2) := cell_new w _ 26 1 rfl
  have c3' : (w.alloc (.cells #[.slice A1 n1 c1, .slice A2 n2 c2, .slice A3 n3 c3] 26)).cell? ⟨w.heap.size, 2, none⟩ = some (.slice A3 n3 c3) := cell_new w _ 26 2 rfl
  have HL := Lib.hid h3
  have HZ := Lib.hid hz
  have hz2 : z ≤ 2 := by rw [hz]; split <;> split <;> omega
  clear h3 hz
  have hb1 : Below w.heap.size w (w.alloc (.cells #[.slice A1 n1 c1, .slice A2 n2 c2, .slice A3 n3 c3] 26)) := (Below.refl _ w).alloc (Nat.le_refl _) _
  have HB1 := Lib.hid hb1
  clear hb1
  rcases Nat.eq_zero_or_pos n2 with rfl | p2 <;> rcases Nat.eq_zero_or_pos n3 with rfl | p3
  · obtain rfl : z = 0 := by have := HZ.out; simp [] at this; omega
    go_enter Try.func17, Try.ntmps17
    go_wp2
    go_loop [3, 21] (fun s i => s = .int .i64 0 ∧ i = .int .i64 0) (fun _ _ => 0)
    case atStart => exact ⟨rfl, rfl⟩
    case round =>
      obtain ⟨rfl, rfl⟩ := hrel
      go_wp2
      go_ret
      exact ⟨rfl, HB1.out⟩
  · obtain rfl : z = 1 := by have := HZ.out; simp [p3] at this; omega
    go_enter Try.func17, Try.ntmps17
    go_wp2
    go_loop [3, 21] (fun s i => ∃ k : Nat, k ≤ n3 ∧ s = .int .i64 ((1 + cntTo ls k : Nat) : Int) ∧ i = .int .i64 (k : Int)) (fun _ i => n3 - (intOf i).toNat)
    case atStart => exact ⟨0, by omega, rfl, rfl⟩
    case round =>
      obtain ⟨k, hk, rfl, rfl⟩ := hrel
      have hcl := cntTo_le ls k
      by_cases hlt : k < n3
      · obtain ⟨b, o, u, rfl, hbB, hu, hl⟩ := HL.out.2 k hlt
        obtain ⟨A, c, rfl, hc, hi, _⟩ := hl.read
        have hu' : (w.alloc (.cells #[.slice A1 n1 c1, .slice A2 0 c2, .slice (some ⟨b, o, none⟩) n3 c3] 26)).cell? ⟨b, o + k, none⟩ = some (.slice A ((ls.getD k none).getD []).length c) := (World.cell?_alloc_lt w _ ⟨b, o + k, none⟩ (by show b < _; omega)).trans hu
        have HCN : Hid (cntTo ls (k + 1) = cntTo ls k + if 0 < ((ls.getD k none).getD []).length then 1 else 0) := by show _ = _; rfl
        clear hu hl hi hc
        generalize ((ls.getD k none).getD []).length = m at *
        have hk1 : (k : Int) < (n3 : Int) := by omega
        rcases Nat.eq_zero_or_pos m with rfl | pm
        · have HCN2 : Hid (cntTo ls (k + 1) = cntTo ls k) := by show _ = _; rw [HCN.out]; rfl
          go_wp2
          go_round
          case rel => exact ⟨k + 1, by omega, by rw [HCN2.out], by go_num⟩
          case measure => simp [intOf]; omega
        · have HCN2 : Hid (cntTo ls (k + 1) = cntTo ls k + 1) := by show _ = _; rw [HCN.out, if_pos pm]
          go_wp2
          go_round
          case rel => exact ⟨k + 1, by omega, by rw [HCN2.out]; go_num, by go_num⟩
          case measure => simp [intOf]; omega
      · obtain rfl : k = n3 := by omega
        go_wp2
        go_ret
        exact ⟨rfl, HB1.out⟩
  · obtain rfl : z = 1 := by have := HZ.out; simp [p2] at this; omega
    go_enter Try.func17, Try.ntmps17
    go_wp2
    go_loop [3, 21] (fun s i => s = .int .i64 1 ∧ i = .int .i64 0) (fun _ _ => 0)
    case atStart => exact ⟨rfl, rfl⟩
    case round =>
      obtain ⟨rfl, rfl⟩ := hrel
      go_wp2
      go_ret
      exact ⟨rfl, HB1.out⟩
  · obtain rfl : z = 2 := by have := HZ.out; simp [p2, p3] at this; omega
    go_enter Try.func17, Try.ntmps17
    go_wp2
    go_loop [3, 21] (fun s i => ∃ k : Nat, k ≤ n3 ∧ s = .int .i64 ((2 + cntTo ls k : Nat) : Int) ∧ i = .int .i64 (k : Int)) (fun _ i => n3 - (intOf i).toNat)
    case atStart => exact ⟨0, by omega, rfl, rfl⟩
    case round =>
      obtain ⟨k, hk, rfl, rfl⟩ := hrel
      have hcl := cntTo_le ls k
      by_cases hlt : k < n3
      · obtain ⟨b, o, u, rfl, hbB, hu, hl⟩ := HL.out.2 k hlt
        obtain ⟨A, c, rfl, hc, hi, _⟩ := hl.read
        have hu' : (w.alloc (.cells #[.slice A1 n1 c1, .slice A2 n2 c2, .slice (some ⟨b, o, none⟩) n3 c3] 26)).cell? ⟨b, o + k, none⟩ = some (.slice A ((ls.getD k none).getD []).length c) := (World.cell?_alloc_lt w _ ⟨b, o + k, none⟩ (by show b < _; omega)).trans hu
        have HCN : Hid (cntTo ls (k + 1) = cntTo ls k + if 0 < ((ls.getD k none).getD []).length then 1 else 0) := by show _ = _; rfl
        clear hu hl hi hc
        generalize ((ls.getD k none).getD []).length = m at *
        have hk1 : (k : Int) < (n3 : Int) := by omega
        rcases Nat.eq_zero_or_pos m with rfl | pm
        · have HCN2 : Hid (cntTo ls (k + 1) = cntTo ls k) := by show _ = _; rw [HCN.out]; rfl
          go_wp2
          go_round
          case rel => exact ⟨k + 1, by omega, by rw [HCN2.out], by go_num⟩
          case measure => simp [intOf]; omega
        · have HCN2 : Hid (cntTo ls (k + 1) = cntTo ls k + 1) := by show _ = _; rw [HCN.out, if_pos pm]
          go_wp2
          go_round
          case rel => exact ⟨k + 1, by omega, by rw [HCN2.out]; go_num, by go_num⟩
          case measure => simp [intOf]; omega
      · obtain rfl : k = n3 := by omega
        go_wp2
        go_ret
        exact ⟨rfl, HB1.out⟩

theorem NewLst.lst {base : Nat} {w : World} {v : Value} {o : Option (List Int)} (h : NewLst base w v o) (hf : ∀ l, o = some l → ∀ z ∈ l, Fit z) : LstAt w w.heap.size v o := by
  cases o with
  | none => exact h
  | some l =>
    obtain ⟨b, _, e, hr⟩ := h
    exact ⟨⟨b, 0, none⟩, _, e, Nat.le_refl _, hr.ints (hf l rfl) hr.lt⟩
/-- the eight lists as Of answers them: none, or eight. -/
def anyB (st : Nat → Option (List Int)) : Bool := (List.range 8).any fun j => (st j).isSome
theorem anyB_iff (st : Nat → Option (List Int)) : anyB st = true ↔ ∃ j, j < 8 ∧ st j ≠ none := by
  unfold anyB
  rw [List.any_eq_true]
  constructor
  · rintro ⟨j, hj, h⟩
    exact ⟨j, List.mem_range.1 hj, by intro e; rw [e] at h; cases h⟩
  · rintro ⟨j, hj, h⟩
    exact ⟨j, List.mem_range.2 hj, by cases e : st j with
      | none => exact absurd e h
      | some _ => rfl⟩
def dblL (st : Nat → Option (List Int)) : List (Option (List Int)) := if anyB st = true then (List.range 8).map st else []
theorem dblL_get (st : Nat → Option (List Int)) (j : Nat) (hj : j < 8) : (dblL st).getD j none = st j := by
  unfold dblL
  split
  · simp [List.getD, List.getElem?_range hj]
  · rename_i h
    have : st j = none := by
      cases e : st j with
      | none => rfl
      | some l => exact absurd ((anyB_iff st).2 ⟨j, hj, by rw [e]; simp⟩) h
    rw [this]
    rfl
theorem dblL_len (st : Nat → Option (List Int)) : (dblL st).length = if anyB st = true then 8 else 0 := by
  unfold dblL
  split <;> simp
theorem DblSt.lists {base : Nat} {w : World} {v : Value} {st : Nat → Option (List Int)} (h : DblSt base w v st) (hf : ∀ j l, j < 8 → st j = some l → ∀ z ∈ l, Fit z) :
    ∃ A c, v = .slice A (dblL st).length c ∧ (dblL st).length ≤ c ∧ ListsAt w w.heap.size A (dblL st).length (dblL st) ∧ ((dblL st).length = 0 → A = none ∧ c = 0) ∧ ((dblL st).length ≠ 0 → ∃ a, A = some a) := by
  rcases h with ⟨rfl, hn⟩ | ⟨D, us, _, rfl, hl, hd, hu, hs⟩
  · have e : dblL st = [] := by unfold dblL; rw [if_neg]; intro h'; obtain ⟨j, hj, h⟩ := (anyB_iff st).1 h'; exact h (hn j hj)
    rw [e]
    exact ⟨none, 0, rfl, Nat.le_refl _, ListsAt.nil _ _ _, fun _ => ⟨rfl, rfl⟩, fun h => absurd rfl h⟩
  · have e8 : (dblL st).length = 8 := by rw [dblL_len, if_pos ((anyB_iff st).2 hs)]
    rw [e8]
    refine ⟨some ⟨D, 0, none⟩, 8, rfl, Nat.le_refl _, ⟨e8, fun k hk => ⟨D, 0, us.getD k nilS, rfl, (Array.getElem?_eq_some_iff.1 hd).1, ?_, ?_⟩⟩, fun h => (by cases h), fun _ => ⟨_, rfl⟩⟩
    · rw [Nat.zero_add, cell_of_row w _ k _ 22 _ hd, List.getElem?_toArray]
      simp [List.getD, List.getElem?_eq_getElem (show k < us.length by omega)]
    · rw [dblL_get st k hk]
      exact (hu k hk).lst (hf k · hk)

/-- Of's answer, to be read. -/
def RetOfR (w : World) (zs : List Int) (e : Ending) (w' : World) : Prop :=
  ∃ A1 A2 A3 c1 c2 c3, e = .returned (.tuple #[.agg #[.slice A1 4 c1, .slice A2 ((optP zs 1).getD []).length c2, .slice A3 (dblL (fun j => optP zs (j + 2))).length c3], .int .i64 0]) ∧
    IntsAt w' w'.heap.size A1 4 (pieceOf zs 0) ∧ LstAt w' w'.heap.size (.slice A2 ((optP zs 1).getD []).length c2) (optP zs 1) ∧ ListsAt w' w'.heap.size A3 (dblL (fun j => optP zs (j + 2))).length (dblL (fun j => optP zs (j + 2))) ∧
    ((dblL (fun j => optP zs (j + 2))).length = 0 → A3 = none ∧ c3 = 0) ∧ ((dblL (fun j => optP zs (j + 2))).length ≠ 0 → ∃ a, A3 = some a) ∧ Below w.heap.size w w'
theorem pieceOf_fit (zs : List Int) (h : ∀ z ∈ zs, Fit z) (k : Nat) : ∀ z ∈ pieceOf zs k, Fit z := fun z hz => wholeOf_fit zs h z (List.mem_of_mem_drop (List.mem_of_mem_take hz))
theorem optP_fit (zs : List Int) (h : ∀ z ∈ zs, Fit z) (k : Nat) (l : List Int) (e : optP zs k = some l) : ∀ z ∈ l, Fit z := by
  unfold optP at e
  split at e
  · cases e
  · cases e; exact pieceOf_fit zs h k
theorem of_any (A : Option Addr) (n c B : Nat) (zs : List Int) (w : World) (hr : IntsAt w B A n zs) (hB : B ≤ w.heap.size) (hn : n ≤ 1000) (hc : n ≤ c) (hE : fitsE zs = 0) :
    Calls Try.prog 9 #[.slice A n c] w (RetOfR w zs) := by
  refine (of_ok A n c B zs w hr hB hn hc hE).mono ?_
  rintro e w' ⟨v1, v2, v3, rfl, h1, h2, h3, hb⟩
  obtain ⟨b, _, rfl, hr1⟩ := h1
  have l2 := h2.lst (optP_fit zs hr.fit 1)
  obtain ⟨A2, c2, rfl, -⟩ := l2.read
  obtain ⟨A3, c3, rfl, _, l3, l4, l5⟩ := h3.lists (fun j l _ => optP_fit zs hr.fit (j + 2) l)
  have e4 : (pieceOf zs 0).length = 4 := pieceOf_len zs 0 (by omega)
  rw [e4]
  refine ⟨some ⟨b, 0, none⟩, A2, A3, 4, c2, c3, rfl, ?_, l2, l3, l4, l5, hb⟩
  have := hr1.ints (pieceOf_fit zs hr.fit 0) hr1.lt
  rwa [e4] at this
end Go.Proofs.Ytiknbbkblldjiaa
