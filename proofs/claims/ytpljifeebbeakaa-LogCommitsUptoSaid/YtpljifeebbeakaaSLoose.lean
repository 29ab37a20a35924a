/-
  WALK: Loose, where no block is loose: a slice of no numbers. Condition: no block is loose.
-/
import Derived.Test.YtpljifeebbeakaaSNew
namespace Go.Proofs.Ytpljifeebbeakaa.Sl
open Go.RowKit Go.Maps Go.Sort

theorem sameKey_int (x y : Int) : (Lit.int .i64 y).sameKey (.int .i64 x) = decide (y = x) := by
  by_cases h : y = x
  · subst h; simp [WideAt.sameKey_self (isKey_int y)]
  · rw [Maps.sameKey_ne (fun e => h (by cases e; rfl))]; simp [h]
theorem info3 : (Try.prog.info? 3).map (fun i => (i.zero, i.size, i.bytes)) = some (some (.int .i64 0), 1, 8) := by kernel_rfl

theorem invK3 (key : Value) (kl : Lit) (hk : keyOf Try.prog 3 key = some kl) : ∃ x, key = Value.int .i64 x := by
  obtain ⟨x, rfl, _⟩ := Maps.keyOf_int_inv Try.underlying3 hk; exact ⟨x, rfl⟩
theorem invVp (v : Value) (y : DataW Unit × List MemPlace) (hv : pendElem v = some y) : ∃ s : ByteArray, v = Value.agg #[.string s] := by
  obtain ⟨s, rfl, _⟩ := pendElem_inv hv; exact ⟨s, rfl⟩


set_option maxRecDepth 100000 in
theorem len64_zero (w : World) : Calls Try.prog 76 #[.int .u64 0] w fun e w' => (∃ z, e = .returned (.int .i64 z)) ∧ w = w' := by
  go_enter Try.func76, Try.ntmps76
  go_wp2
  go_ret
  exact ⟨⟨_, rfl⟩, rfl⟩
theorem len_zero (w : World) : Calls Try.prog 55 #[.int .u64 0] w fun e w' => (∃ z, e = .returned (.int .i64 z)) ∧ w = w' := by
  go_enter Try.func55, Try.ntmps55
  go_wp2_with (go_at_call 76; refine (len64_zero _).mono ?_; rintro e w3 ⟨⟨z, rfl⟩, rfl⟩)
  go_ret
  exact ⟨⟨_, rfl⟩, rfl⟩
theorem insertion_none (v : Value) (w : World) : Calls Try.prog 66 #[v, .int .i64 0, .int .i64 0] w fun e w' => e = .returned (.tuple #[]) ∧ w = w' := by
  go_enter Try.func66, Try.ntmps66
  go_wp2
  go_loopw [6] (fun j wr => j = .int .i64 1 ∧ wr = w) (fun _ _ => 0)
  case atStart => exact ⟨rfl, rfl⟩
  case round =>
    obtain ⟨rfl, rfl⟩ := hrel
    go_wp2
    go_end0
    exact ⟨rfl, rfl⟩
theorem pdq_none (v : Value) (z : Int) (w : World) : Calls Try.prog 54 #[v, .int .i64 0, .int .i64 0, .int .i64 z] w fun e w' => e = .returned (.tuple #[]) ∧ w = w' := by
  go_enter Try.func54, Try.ntmps54
  go_wp2
  go_loopw [1, 2, 3, 8, 9] (fun a b l x y wr => a = .int .i64 0 ∧ b = .int .i64 0 ∧ l = .int .i64 z ∧ x = .bool true ∧ y = .bool true ∧ wr = w) (fun _ _ _ _ _ _ => 0)
  case atStart => exact ⟨rfl, rfl, rfl, rfl, rfl, rfl⟩
  case round =>
    obtain ⟨rfl, rfl, rfl, rfl, rfl, rfl⟩ := hrel
    go_wp2_with (go_at_call 66; refine (insertion_none _ _).mono ?_; rintro e w3 ⟨rfl, rfl⟩)
    refine bodyPost_ret (results_none rfl _ _ _) rfl ?_
    exact ⟨rfl, rfl⟩
theorem sort_none (A : Option Addr) (c : Nat) (w : World) : Calls Try.prog 33 #[.slice A 0 c] w fun e w' => e = .returned (.tuple #[]) ∧ w = w' := by
  go_enter Try.func33, Try.ntmps33
  go_wp2_with (first
    | (go_at_call 55; refine (len_zero _).mono ?_; rintro e w3 ⟨⟨z, rfl⟩, rfl⟩)
    | (go_at_call 54; refine (pdq_none _ _ _).mono ?_; rintro e w3 ⟨rfl, rfl⟩))
  go_end0
  exact ⟨rfl, rfl⟩

theorem own_slice0 {w : World} {base : Nat} {v : Value} {xs : List Value} {e : TypeId} {sz : Nat} (h : w.ownsRow base e sz v 0 xs) : ∃ A c, v = .slice A 0 c := by
  rcases h.2 with ⟨rfl, _⟩ | ⟨g, cap, cur, rfl, _⟩
  · exact ⟨_, _, rfl⟩
  · exact ⟨_, _, rfl⟩
set_option maxRecDepth 100000 in
set_option maxHeartbeats 1000000 in
theorem loose_calm (p pd pm : Nat) (σ : St) (w : World) (h : SlabAt w p pd pm σ) (hn : σ.loose = fun _ => none) :
    Calls Try.prog 18 #[.pointer (some ⟨p, 0, none⟩)] w fun e w' => ∃ (A : Option Addr) (cap : Nat), e = .returned (.slice A 0 cap) ∧ Below w.heap.size w w' := by
  obtain ⟨i0, hi, hz0, hz1, hz2⟩ := info_parts info3
  have c1 := h.c1
  obtain ⟨D, hown, hL⟩ := h.hm
  have hbl := hown.lt
  have hsz := hown.size_le
  have hps := h.lt_p
  rw [hn] at hL
  have HL := Lib.hid hL
  have c1a : ∀ w1 : World, w.grownBy w1 none → w1.cell? ⟨p, 1, none⟩ = some (.map (some pm)) := fun w1 hg => hg.cell c1 (by simp)
  have HC := Lib.hid c1a
  clear h hL c1a hn
  go_enter Try.func18, Try.ntmps18
  go_wp2_with (first
    | (at_len; refine wpList_len_own _ rfl _ 62 rfl 3 76 Try.underlying62 _ pm 1000 D rfl hown ?_)
    | (at_make; refine wpList_make_own _ rfl _ _ 35 rfl w.heap.size 3 i0 (.int .i64 0) 1 Try.underlying35 hi hz0 hz1 _ _ _ (Maps.size D) rfl rfl rfl (by rw [hz2]; omega) (by unfold maxLen; omega) (Nat.le_refl _) ?_; intro w1 hrow1 hg1; have c11 := HC.out w1 hg1)
    | (at_range; refine wpList_range_own _ rfl _ 62 rfl 3 76 law3 Try.underlying62 _ pm 1000 D rfl (hown.kept hg1 (by simp)) ?_; intro w0 hrg0 hg0 hs0)
    | go_in)
  go_loopw [3] (fun v wr => ∃ (left : Lit → Bool) (cnt : Nat), wr.ranges Try.prog 3 pendElem pm w1.heap.size 1000 D left cnt ∧
      wr.ownsRow w.heap.size 3 1 v 0 [] ∧ Below w.heap.size w wr)
    (fun _ wr => wr.rangeLeft pm w1.heap.size)
  case atStart =>
    exact ⟨_, _, hrg0, hrow1.kept hg0 (Or.inr (by simp [Value.ownBlock])),
      ((Below.refl _ _).grown hg1 (Nat.le_refl _) (fun j hj => by cases hj)).grown hg0 hg1.size (fun j hj => by cases hj)⟩
  case round =>
    obtain ⟨left, cnt, hrg, hrow, hnx⟩ := hrel
    obtain ⟨A, cap, rfl⟩ := own_slice0 hrow
    go_wp2_with (first
      | (at_next; refine wpList_next_ranges _ rfl _ rfl 3 law3 pendElem (Value.int .i64) (fun s : ByteArray => Value.agg #[.string s]) invK3 invVp pm w1.heap.size 1000 _ _ _ rfl hrg ?_ ?_)
      | go_in)
    · intro hc0 hl0
      go_wp2_with (go_at_call 33; refine (sort_none _ _ _).mono ?_; rintro e w' ⟨rfl, rfl⟩)
      go_ret
      exact ⟨_, _, rfl, hnx⟩
    · intro x c kl yd yp w2 cnt2 hkey hlk hv hat hrg2 hlt hg2 hs2 hen
      obtain ⟨x', ex, rfl, _⟩ := Maps.keyOf_int_inv Try.underlying3 hkey
      obtain rfl : x = x' := by cases ex; rfl
      obtain ⟨s', es', ey⟩ := pendElem_inv hv
      obtain rfl : c = s' := by cases es'; rfl
      have ey1 : yd = .lit (.string c.data.toList) := congrArg Prod.fst ey
      have hlx : (none : Option ByteArray) = some c := by rw [← HL.out x]; exact lk_at (fun zd => (hat zd).trans ey1)
      cases hlx

set_option maxHeartbeats 1000000 in
theorem loose_nil (w : World) : Calls Try.prog 18 #[.pointer none] w fun e w' => e = .returned (.slice none 0 0) ∧ w = w' := by
  go_enter Try.func18, Try.ntmps18
  go_wp2
  go_ret
  exact ⟨rfl, rfl⟩
end Go.Proofs.Ytpljifeebbeakaa.Sl
