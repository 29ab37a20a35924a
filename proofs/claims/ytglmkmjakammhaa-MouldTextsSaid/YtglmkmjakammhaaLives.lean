/-
  WALKS: the reference Same compares two lists; lives returns true. Both write nothing that was there. Conditions (Same): each slice has at most 20000000000000 elements.
-/
import Derived.Test.YtglmkmjakammhaaRefRead
namespace Go.Proofs.Ytglmkmjakammhaa
open Go.RowKit

theorem same_no {zs ys : List Int} {k : Nat} (hne : zs.getD k 0 ≠ ys.getD k 0) : decide (zs = ys) = false := by
  simp only [decide_eq_false_iff_not]; rintro rfl; exact hne rfl
theorem take_eq_succ {zs ys : List Int} {k : Nat} (h : k < zs.length) (h' : k < ys.length) (ht : zs.take k = ys.take k) (he : zs.getD k 0 = ys.getD k 0) : zs.take (k + 1) = ys.take (k + 1) := by
  rw [List.take_add_one, List.take_add_one, ht, List.getElem?_eq_getElem h, List.getElem?_eq_getElem h']
  simp only [List.getD, List.getElem?_eq_getElem h, List.getElem?_eq_getElem h', Option.getD_some] at he
  rw [he]

set_option maxHeartbeats 1000000 in
theorem same_any (A A' : Option Addr) (n c m c' B : Nat) (zs ys : List Int) (w : World) (hr : IntsAt w B A n zs) (hr' : IntsAt w B A' m ys) (hB : B ≤ w.heap.size) (hn : n ≤ 20000000000000) (hm : m ≤ 20000000000000) :
    Calls Try.prog 15 #[.slice A n c, .slice A' m c'] w fun e w' => e = .returned (.bool (decide (zs = ys))) ∧ Below w.heap.size w w' := by
  by_cases hl : n = m
  · subst hl
    have HL := Lib.hid hr.len
    have HL' := Lib.hid hr'.len
    have hne : ((n : Int) != (n : Int)) = false := by simp
    go_enter Try.func15, Try.ntmps15
    go_wp2
    clear hne
    go_loopw [5] (fun i wr => ∃ k : Nat, k ≤ n ∧ i = .int .i64 k ∧ zs.take k = ys.take k ∧ Below w.heap.size w wr) (fun i _ => n - (intOf i).toNat)
    case atStart => exact ⟨0, Nat.zero_le _, rfl, rfl, Below.refl _ _⟩
    case round =>
      obtain ⟨k, hk, rfl, ht, hbel⟩ := hrel
      have HT := Lib.hid ht
      clear ht
      by_cases hlt : k < n
      · obtain ⟨b, o, rfl, hb, hc⟩ := (hr.below hbel hB).at_ hlt
        obtain ⟨b', o', rfl, hb', hc'⟩ := (hr'.below hbel hB).at_ hlt
        by_cases he : zs.getD k 0 = ys.getD k 0
        · have HE := Lib.hid (take_eq_succ (by rw [HL.out]; exact hlt) (by rw [HL'.out]; exact hlt) HT.out he)
          rw [← he] at hc'
          clear he
          generalize zs.getD k 0 = z at *
          have hzz : (z != z) = false := by simp
          go_wp2
          go_quiet (fail)
          go_wp2
          go_roundw
          case rel => exact ⟨k + 1, by omega, by go_num, HE.out, bel_drewN hbel _⟩
          case measure => simp [intOf]; omega
        · have HN := Lib.hid (same_no he)
          have hd : (zs.getD k 0 != ys.getD k 0) = true := bne_iff_ne.2 he
          clear he
          generalize zs.getD k 0 = z at *
          generalize ys.getD k 0 = y at *
          go_wp2
          go_quiet (fail)
          go_wp2
          go_ret
          exact ⟨ret_bool HN.out.symm, bel_drewN hbel _⟩
      · have hkn : k = n := by omega
        subst hkn
        have HE : Hid (decide (zs = ys) = true) := by
          show _ = _
          have := HT.out
          rw [List.take_of_length_le (by rw [HL.out]; exact Nat.le_refl _), List.take_of_length_le (by rw [HL'.out]; exact Nat.le_refl _)] at this
          simpa using this
        go_wp2
        go_ret
        exact ⟨ret_bool HE.out.symm, hbel⟩
  · have hne : ((n : Int) != (m : Int)) = true := bne_iff_ne.2 (by omega)
    have HN : Hid (decide (zs = ys) = false) := by
      show _ = _
      simp only [decide_eq_false_iff_not]; rintro rfl; exact hl (hr.len.symm.trans hr'.len)
    go_enter Try.func15, Try.ntmps15
    go_wp2
    go_ret
    exact ⟨ret_bool HN.out.symm, Below.refl _ _⟩

theorem ints_new2 (w : World) (x y : Int) (hx : -9223372036854775808 ≤ x ∧ x ≤ 9223372036854775807) (hy : -9223372036854775808 ≤ y ∧ y ≤ 9223372036854775807) : IntsAt (w.alloc (.cells #[.int .i64 x, .int .i64 y] 3)) (w.heap.size + 1) (some ⟨w.heap.size, 0, none⟩) 2 [x, y] := by
  refine ⟨rfl, ?_, ?_⟩
  · intro z hz; simp at hz; rcases hz with rfl | rfl
    · exact hx
    · exact hy
  · intro k hk
    refine ⟨_, _, rfl, by omega, ?_⟩
    have : k = 0 ∨ k = 1 := by omega
    rcases this with rfl | rfl <;> simp

theorem lives_write : writeR [1, 2] [5, 258] = ([5, 2, 1], 0) := by decide
theorem lives_str : strOfNums [5, 2, 1] = ⟨#[5, 2, 1]⟩ := rfl
theorem lives_read : readR [1, 2] (bytesOf ⟨#[5, 2, 1]⟩) = ([5, 258], 0) := by decide
theorem lives_size : sizeS [4, 1] = 5 := by decide

set_option maxHeartbeats 1000000 in
theorem lives_any (w : World) : Calls Try.prog 8 #[] w fun e w' => e = .returned (.bool true) ∧ Below w.heap.size w w' := by
  go_enter Try.func8, Try.ntmps8
  go_wp2_with fail
  refine (write_any _ _ 2 2 2 2 (w.heap.size + 2) [1, 2] [5, 258] _ (((ints_new2 w 1 2 (by decide) (by decide)).alloc (by simp) _).more (by omega)) (by have := ints_new2 (w.alloc (.cells #[.int .i64 1, .int .i64 2] 3)) 5 258 (by decide) (by decide); simpa using this) (by simp) (by omega) (by omega)).mono ?_
  rintro e w1 ⟨rfl, hb1⟩
  rw [lives_write, lives_str]
  have hb1' : Below w.heap.size w w1 := (((Below.refl _ _).alloc (Nat.le_refl _) _).alloc (by simp) _).trans (hb1.mono (by simp; omega))
  clear hb1
  go_wp2_with fail
  refine (read_any _ 2 2 (w1.heap.size + 1) [1, 2] ⟨#[5, 2, 1]⟩ _ (ints_new2 w1 1 2 (by decide) (by decide)) (by simp) (by omega) (by decide)).mono ?_
  rintro e w2 ⟨A', n', c', rfl, hin, hb2⟩
  rw [lives_read] at hin ⊢
  have hb2' : Below w.heap.size w w2 := (hb1'.alloc hb1'.size _).trans (hb2.mono (by have := hb1'.size; simp; omega))
  clear hb2 hb1'
  obtain rfl : 2 = n' := hin.len
  obtain ⟨b, o, rfl, hb, hc⟩ := hin.at_ (k := 1) (by omega)
  simp only [List.getD_cons_succ, List.getD_cons_zero] at hc
  go_wp2_with fail
  refine (size_any _ 2 2 (w2.heap.size + 1) [4, 1] _ (ints_new2 w2 4 1 (by decide) (by decide)) (by omega)).mono ?_
  rintro e w3 ⟨rfl, rfl⟩
  rw [lives_size]
  go_wp2
  go_ret
  exact ⟨rfl, hb2'.alloc hb2'.size _⟩
end Go.Proofs.Ytglmkmjakammhaa
