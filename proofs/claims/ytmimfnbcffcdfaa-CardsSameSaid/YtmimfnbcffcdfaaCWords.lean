/-
  WORDS OF MEMORY for layer 9 (a card as a value, a card in a block of its own), and the small functions: within, isKind, isBlock, isPlace, the reference's small, widths, numbers. Conditions: the numbers are of an int64.
-/
import Derived.Test.YtmimfnbcffcdfaaCEq
namespace Go.Proofs.Ytmimfnbcffcdfaa
open Go.RowKit

/-- a card's value: its lists are the slices at A and A'. -/
abbrev cdv (c : Cd) (A : Option Addr) (n k : Nat) (A' : Option Addr) (n' k' : Nat) : Value :=
  .agg #[.int .i64 c.fm, .int .i64 c.kd, .int .i64 c.ln, .int .i64 c.sz, .slice A n k, .int .i64 c.sg, .int .i64 c.db, .slice A' n' k', .int .i64 c.ov]
/-- the numbers of a card are of an int64. -/
def Cd.fit (c : Cd) : Prop := Fit c.fm ∧ Fit c.kd ∧ Fit c.ln ∧ Fit c.sz ∧ Fit c.sg ∧ Fit c.db ∧ Fit c.ov
/-- The value v reads as the card c, whose lists lie below block B. -/
def CdAt (w : World) (B : Nat) (v : Value) (c : Cd) : Prop :=
  ∃ A n k A' n' k', v = cdv c A n k A' n' k' ∧ IntsAt w B A n c.ps ∧ SpsAt w B A' n' c.rs ∧ n ≤ 9223372036854775807 ∧ n' ≤ 9223372036854775807 ∧ c.fit
section
variable {w w' : World} {B B' : Nat} {v : Value} {c : Cd}
theorem CdAt.more (h : CdAt w B v c) (hB : B ≤ B') : CdAt w B' v c := by
  obtain ⟨A, n, k, A', n', k', e, h1, h2, h3⟩ := h
  exact ⟨A, n, k, A', n', k', e, h1.more hB, h2.more hB, h3⟩
theorem CdAt.below {C : Nat} (h : CdAt w B v c) (hb : Below C w w') (hBC : B ≤ C) : CdAt w' B v c := by
  obtain ⟨A, n, k, A', n', k', e, h1, h2, h3⟩ := h
  exact ⟨A, n, k, A', n', k', e, h1.below hb hBC, h2.below hb hBC, h3⟩
end
abbrev cells9 (c : Cd) (A : Option Addr) (n k : Nat) (A' : Option Addr) (n' k' : Nat) : Array Value :=
  #[.int .i64 c.fm, .int .i64 c.kd, .int .i64 c.ln, .int .i64 c.sz, .slice A n k, .int .i64 c.sg, .int .i64 c.db, .slice A' n' k', .int .i64 c.ov]
/-- The card c, its lists the slices at A and A', in block g, known whole. -/
def CdRow (W : World) (g : Nat) (c : Cd) (A : Option Addr) (n k : Nat) (A' : Option Addr) (n' k' : Nat) : Prop := W.heap[g]? = some (.cells (cells9 c A n k A' n' k') 25 (0, 0))
section
variable {W : World} {g : Nat} {c : Cd} {A : Option Addr} {n k : Nat} {A' : Option Addr} {n' k' : Nat}
theorem CdRow.lt (h : CdRow W g c A n k A' n' k') : g < W.heap.size := (Array.getElem?_eq_some_iff.1 h).1
theorem CdRow.cells (h : CdRow W g c A n k A' n' k') :
    W.cell? ⟨g, 0, none⟩ = some (.int .i64 c.fm) ∧ W.cell? ⟨g, 1, none⟩ = some (.int .i64 c.kd) ∧ W.cell? ⟨g, 2, none⟩ = some (.int .i64 c.ln) ∧ W.cell? ⟨g, 3, none⟩ = some (.int .i64 c.sz) ∧ W.cell? ⟨g, 4, none⟩ = some (.slice A n k) ∧ W.cell? ⟨g, 5, none⟩ = some (.int .i64 c.sg) ∧ W.cell? ⟨g, 6, none⟩ = some (.int .i64 c.db) ∧ W.cell? ⟨g, 7, none⟩ = some (.slice A' n' k') ∧ W.cell? ⟨g, 8, none⟩ = some (.int .i64 c.ov) := by
  refine ⟨?_, ?_, ?_, ?_, ?_, ?_, ?_, ?_, ?_⟩ <;> (rw [cell_of_row W _ _ _ 25 _ h]; rfl)
theorem CdRow.fz (h : CdRow W g c A n k A' n' k') (k : Nat) : W.frozen? ⟨g, k, none⟩ = false := by unfold World.frozen?; rw [h]; simp
theorem CdRow.below {C : Nat} {w' : World} (h : CdRow W g c A n k A' n' k') (hb : Below C W w') (hq : g < C) : CdRow w' g c A n k A' n' k' := (hb.block g hq).trans h
theorem CdRow.drew {w' : World} (h : CdRow W g c A n k A' n' k') (hd : Drew W w') : CdRow w' g c A n k A' n' k' := by
  obtain ⟨m, rfl⟩ := hd
  exact h
theorem CdRow.new (w : World) (c : Cd) (A : Option Addr) (n k : Nat) (A' : Option Addr) (n' k' : Nat) : CdRow (w.alloc (.cells (cells9 c A n k A' n' k') 25)) w.heap.size c A n k A' n' k' := by
  show (w.heap.push _)[w.heap.size]? = _
  simp
end

/-! ### the small functions -/
theorem within_any (z lo hi : Int) (R : Bool) (w : World) (hR : (decide (lo ≤ z) && decide (z ≤ hi)) = R) :
    Calls Try.prog 28 #[.int .i64 z, .int .i64 lo, .int .i64 hi] w fun e w' => e = .returned (.bool R) ∧ w = w' := by
  subst hR
  by_cases h1 : lo ≤ z
  · have d1 : decide (lo ≤ z) = true := by simpa using h1
    rw [d1, Bool.true_and]
    go_enter Try.func28, Try.ntmps28
    go_wp2
    go_ret
    exact ⟨rfl, rfl⟩
  · have d1 : decide (lo ≤ z) = false := by simpa using h1
    rw [d1, Bool.false_and]
    go_enter Try.func28, Try.ntmps28
    go_wp2
    go_ret
    exact ⟨rfl, rfl⟩
theorem isKind_any (z : Int) (R : Bool) (w : World) (hR : (decide (z = 1) || decide (z = 2)) = R) :
    Calls Try.prog 27 #[.int .i64 z] w fun e w' => e = .returned (.bool R) ∧ w = w' := by
  subst hR
  by_cases h1 : z = 1
  · subst h1
    go_enter Try.func27, Try.ntmps27
    go_wp2
    go_ret
    exact ⟨rfl, rfl⟩
  · have d1 : (z == 1) = false := by simpa using h1
    have HE : Hid ((z == 2) = (decide (z = 1) || decide (z = 2))) := by show _ = _; rw [Bool.eq_iff_iff]; simp; omega
    generalize (decide (z = 1) || decide (z = 2)) = R at *
    go_enter Try.func27, Try.ntmps27
    go_wp2
    go_ret
    exact ⟨ret_bool HE.out, rfl⟩
theorem isBlock_any (z : Int) (R : Bool) (w : World) (hR : blkB z = R) :
    Calls Try.prog 47 #[.int .i64 z] w fun e w' => e = .returned (.bool R) ∧ w = w' := by
  have HW := Lib.hid (within_any z 0 65535 R w (by rw [← hR]; rfl))
  clear hR
  go_enter Try.func47, Try.ntmps47
  go_wp2_with fail
  refine HW.out.mono ?_
  rintro e w1 ⟨rfl, rfl⟩
  go_wp2
  go_ret
  exact ⟨rfl, rfl⟩
theorem small_any (z : Int) (R : Bool) (w : World) (hR : blkB z = R) :
    Calls Try.prog 31 #[.int .i64 z] w fun e w' => e = .returned (.bool R) ∧ w = w' := by
  have HR : Hid (blkB z = R) := hR
  unfold blkB at hR
  by_cases h1 : 0 ≤ z
  · have d1 : decide (0 ≤ z) = true := by simpa using h1
    rw [d1, Bool.true_and] at hR
    have H2 := Lib.hid hR
    clear hR
    go_enter Try.func31, Try.ntmps31
    go_wp2
    go_ret
    exact ⟨ret_bool H2.out, rfl⟩
  · have d1 : decide (0 ≤ z) = false := by simpa using h1
    rw [d1, Bool.false_and] at hR
    subst hR
    go_enter Try.func31, Try.ntmps31
    go_wp2
    go_ret
    exact ⟨rfl, rfl⟩
theorem isPlace_any (s : ByteArray) (z : Int) (R : Bool) (w : World) (hR : (decide (s.size = 128) && (decide (0 ≤ z) && decide (z ≤ 3))) = R) :
    Calls Try.prog 40 #[.string s, .int .i64 z] w fun e w' => e = .returned (.bool R) ∧ w = w' := by
  by_cases h1 : s.size = 128
  · have d1 : ((s.size : Int) == 128) = true := by simp [h1]
    rw [decide_eq_true h1, Bool.true_and] at hR
    have HW := Lib.hid (within_any z 0 3 R w hR)
    clear hR h1
    go_enter Try.func40, Try.ntmps40
    go_wp2_with fail
    refine HW.out.mono ?_
    rintro e w1 ⟨rfl, rfl⟩
    go_wp2
    go_ret
    exact ⟨rfl, rfl⟩
  · have d1 : ((s.size : Int) == 128) = false := by simp; omega
    rw [decide_eq_false h1, Bool.false_and] at hR
    subst hR
    clear h1
    go_enter Try.func40, Try.ntmps40
    go_wp2
    go_ret
    exact ⟨rfl, rfl⟩

theorem ints_new {w : World} (zs : List Int) (hz : ∀ z ∈ zs, Fit z) : IntsAt (w.alloc (.cells (zs.map (Value.int .i64)).toArray 3)) (w.heap.size + 1) (some ⟨w.heap.size, 0, none⟩) zs.length zs := by
  refine ⟨rfl, hz, fun k hk => ⟨_, _, rfl, by omega, ?_⟩⟩
  rw [Nat.zero_add]
  refine cell_new w _ 3 k ?_
  simp [List.getD, hk]

/-- an answer that is a new slice of ints. -/
def RetI (w : World) (zs : List Int) (e : Ending) (w' : World) : Prop := ∃ A c, e = .returned (.slice A zs.length c) ∧ IntsAt w' w'.heap.size A zs.length zs ∧ Below w.heap.size w w'

theorem widths_any (f : Int) (w : World) : Calls Try.prog 23 #[.int .i64 f] w fun e w' => RetI w (widthsC f) e w' := by
  by_cases h1 : f = 1
  · subst h1
    have HI := Lib.hid (ints_new (w := w) (widthsC 1) (by decide))
    go_enter Try.func23, Try.ntmps23
    go_wp2
    go_ret
    exact ⟨_, _, rfl, HI.out.more (by simp), (Below.refl _ _).alloc (Nat.le_refl _) _⟩
  · by_cases h2 : f = 2
    · subst h2
      have HI := Lib.hid (ints_new (w := w) (widthsC 2) (by decide))
      go_enter Try.func23, Try.ntmps23
      go_wp2
      go_ret
      exact ⟨_, _, rfl, HI.out.more (by simp), (Below.refl _ _).alloc (Nat.le_refl _) _⟩
    · have d1 : (f == 1) = false := by simpa using h1
      have d2 : (f == 2) = false := by simpa using h2
      rw [widthsC0 h1 h2]
      clear h1 h2
      go_enter Try.func23, Try.ntmps23
      go_wp2
      go_ret
      exact ⟨_, _, rfl, ⟨rfl, by simp, fun k hk => absurd hk (by simp)⟩, Below.refl _ _⟩

set_option maxHeartbeats 1000000 in
theorem numbers_any (c : Cd) (A : Option Addr) (n k : Nat) (A' : Option Addr) (n' k' : Nat) (w : World) :
    Calls Try.prog 37 #[cdv c A n k A' n' k'] w fun e w' => e = .returned (.agg #[.int .i64 c.fm, .int .i64 c.kd, .int .i64 c.ln, .int .i64 c.sz, .int .i64 c.sg, .int .i64 c.db, .int .i64 c.ov]) ∧ Below w.heap.size w w' := by
  obtain ⟨fm, kd, ln, sz, ps, sg, db, rs, ov⟩ := c
  simp only
  have HB : Hid (∀ o o' : Obj, Below w.heap.size w ((w.alloc o).alloc o')) := fun o o' => ((Below.refl _ _).alloc (Nat.le_refl _) _).alloc (by simp) _
  go_enter Try.func37, Try.ntmps37
  go_wp2
  refine bodyPost_ret (v := .agg #[.int .i64 fm, .int .i64 kd, .int .i64 ln, .int .i64 sz, .int .i64 sg, .int .i64 db, .int .i64 ov]) (by simp [results, Try.results37, go_sem]) rfl ?_
  exact ⟨rfl, HB.out _ _⟩
end Go.Proofs.Ytmimfnbcffcdfaa
