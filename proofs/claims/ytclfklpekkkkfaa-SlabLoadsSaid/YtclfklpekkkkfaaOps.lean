/-
  WALKS: kind and does of a step, over a slab (Write and Flush) and over none. Conditions: fewer than 1000000 calls so far.
-/
import Derived.Test.YtclfklpekkkkfaaLives
namespace Go.Proofs.Ytclfklpekkkkfaa
open Go.RowKit Go.Maps Go.Sort

theorem u64_wrap (x : Int) : IntKind.u64.wrap x = x % 18446744073709551616 := by
  simp [IntKind.wrap, IntKind.signed, IntKind.bits]
theorem mod_num (kd : Int) (m : Int) (hm : 0 < m ∧ m ≤ 9223372036854775807) : wrap64 ((IntKind.u64.wrap kd).tmod m) = (kd % 18446744073709551616) % m := by
  rw [u64_wrap]
  have h0 : 0 ≤ kd % 18446744073709551616 := Int.emod_nonneg _ (by decide)
  rw [Int.tmod_eq_emod_of_nonneg h0]
  have h1 := Int.emod_nonneg (kd % 18446744073709551616) (show m ≠ 0 by omega)
  have h2 := Int.emod_lt_of_pos (kd % 18446744073709551616) hm.1
  generalize kd % 18446744073709551616 % m = z at *
  unfold wrap64
  omega

theorem cell_new (w : World) (cs : Array Value) (t : TypeId) (k : Nat) {v : Value} (h : cs[k]? = some v) : (w.alloc (.cells cs t)).cell? ⟨w.heap.size, k, none⟩ = some v := by
  unfold World.cell?
  rw [heap_alloc_new]
  simpa using h

set_option maxHeartbeats 1000000 in
theorem kind_any (kd i : Int) (s : ByteArray) (A : Option Addr) (n c : Nat) (w : World) :
    Calls Try.prog 20 #[.agg #[.int .i64 kd, .int .i64 i, .string s, .slice A n c]] w fun e w' => e = .returned (.int .i64 (kd % 4)) ∧ Below w.heap.size w w' := by
  have HM : Hid (wrap64 ((IntKind.u64.wrap kd).tmod 4) = kd % 4) := by show _ = _; rw [mod_num _ _ (by decide)]; omega
  go_enter Try.func20, Try.ntmps20
  go_wp2
  go_ret
  exact ⟨by rw [← HM.out]; rfl, (Below.refl _ _).alloc (Nat.le_refl _) _⟩

/-- a step of a slab: Write, or else Flush. -/
def St.step (σ : St) (kd i : Int) (s : ByteArray) : St := if kd % 4 = 0 then σ.write i s else σ.flush
def St.stepE (σ : St) (kd i : Int) (s : ByteArray) : Int := if kd % 4 = 0 then σ.writeE i s else σ.flushE

set_option maxHeartbeats 1000000 in
theorem does_any (p pd pm : Nat) (σ : St) (kd i : Int) (s : ByteArray) (A : Option Addr) (n c : Nat) (w : World) (h : SlabAt w p pd pm σ) (hc : σ.calls < 1000000) (hi : -9223372036854775808 ≤ i ∧ i ≤ 9223372036854775807) (hs : s.size ≤ 9223372036854775807) (hk : kd % 4 < 2) :
    Calls Try.prog 22 #[.pointer (some ⟨p, 0, none⟩), .agg #[.int .i64 kd, .int .i64 i, .string s, .slice A n c]] w fun e w' => e = .returned (.int .i64 (σ.stepE kd i s)) ∧ SlabAt w' p pd pm (σ.step kd i s) ∧ Turns [p, pd, pm] w w' := by
  have t0 : Turns [] w (w.alloc (.cells #[.int .i64 kd, .int .i64 i, .string s, .slice A n c] 46)) := Turns.alloc _ _ _
  have H0 := Lib.hid (h.keptB t0)
  have T0 := Lib.hid t0
  clear h t0
  have hk0 : kd % 4 = 0 ∨ kd % 4 = 1 := by omega
  rcases hk0 with hk0 | hk0
  · have HE : Hid (σ.stepE kd i s = σ.writeE i s) := by show _ = _; unfold St.stepE; rw [if_pos hk0]
    have HS : Hid (σ.step kd i s = σ.write i s) := by show _ = _; unfold St.step; rw [if_pos hk0]
    have HK := Lib.hid hk0
    clear hk0 hk
    go_enter Try.func22, Try.ntmps22
    go_wp2_with fail
    refine (kind_any kd i s A n c _).mono ?_
    rintro e w1 ⟨rfl, b1⟩
    rw [HK.out]
    have t1 : Turns [] (w.alloc (.cells #[.int .i64 kd, .int .i64 i, .string s, .slice A n c] 46)) w1 := Turns.of_below _ b1
    have c1 := t1.cell (a := ⟨w.heap.size, 1, none⟩) (v := .int .i64 i) (cell_new w _ 46 _ rfl) (by simp)
    have c2 := t1.cell (a := ⟨w.heap.size, 2, none⟩) (v := .string s) (cell_new w _ 46 _ rfl) (by simp)
    have H1 := Lib.hid (H0.out.keptB t1)
    have T1 := Lib.hid t1
    clear t1 b1
    go_wp2_with fail
    refine (write_any p pd pm σ i s w1 H1.out hc hi hs).mono ?_
    rintro e w2 ⟨rfl, h2, t2⟩
    generalize σ.writeE i s = E at *
    go_wp2
    go_ret
    exact ⟨by rw [HE.out]; rfl, by rw [HS.out]; exact h2, ((T0.out.mono (by simp)).trans (T1.out.mono (by simp))).trans t2⟩
  · have HE : Hid (σ.stepE kd i s = σ.flushE) := by show _ = _; unfold St.stepE; rw [if_neg (by omega)]
    have HS : Hid (σ.step kd i s = σ.flush) := by show _ = _; unfold St.step; rw [if_neg (by omega)]
    have HK := Lib.hid hk0
    clear hk0 hk
    go_enter Try.func22, Try.ntmps22
    go_wp2_with fail
    refine (kind_any kd i s A n c _).mono ?_
    rintro e w1 ⟨rfl, b1⟩
    rw [HK.out]
    have t1 : Turns [] (w.alloc (.cells #[.int .i64 kd, .int .i64 i, .string s, .slice A n c] 46)) w1 := Turns.of_below _ b1
    have H1 := Lib.hid (H0.out.keptB t1)
    have T1 := Lib.hid t1
    clear t1 b1
    go_wp2_with fail
    refine (flush_any p pd pm σ w1 H1.out hc).mono ?_
    rintro e w2 ⟨rfl, h2, t2⟩
    generalize σ.flushE = E at *
    go_wp2
    go_ret
    exact ⟨by rw [HE.out]; rfl, by rw [HS.out]; exact h2, ((T0.out.mono (by simp)).trans (T1.out.mono (by simp))).trans t2⟩

/-- what a step of no slab answers. -/
def nilE (kd : Int) : Int := if kd % 4 < 2 then 1 else 0

set_option maxHeartbeats 1000000 in
theorem does_nil (kd i : Int) (s : ByteArray) (A : Option Addr) (n c : Nat) (w : World) :
    Calls Try.prog 22 #[.pointer none, .agg #[.int .i64 kd, .int .i64 i, .string s, .slice A n c]] w fun e w' => e = .returned (.int .i64 (nilE kd)) ∧ Below w.heap.size w w' := by
  have hk0 : kd % 4 = 0 ∨ kd % 4 = 1 ∨ kd % 4 = 2 ∨ kd % 4 = 3 := by omega
  have T0 : Hid (Turns [] w (w.alloc (.cells #[.int .i64 kd, .int .i64 i, .string s, .slice A n c] 46))) := Turns.alloc _ _ _
  rcases hk0 with hk0 | hk0 | hk0 | hk0
  all_goals
    have HE := Lib.hid (show nilE kd = if kd % 4 < 2 then 1 else 0 from rfl)
    rw [hk0] at HE
    have HK := Lib.hid hk0
    clear hk0
    go_enter Try.func22, Try.ntmps22
    go_wp2_with fail
    refine (kind_any kd i s A n c _).mono ?_
    rintro e w1 ⟨rfl, b1⟩
    rw [HK.out]
    have t1 : Turns [] (w.alloc (.cells #[.int .i64 kd, .int .i64 i, .string s, .slice A n c] 46)) w1 := Turns.of_below _ b1
    have c1 := t1.cell (a := ⟨w.heap.size, 1, none⟩) (v := .int .i64 i) (cell_new w _ 46 _ rfl) (by simp)
    have c2 := t1.cell (a := ⟨w.heap.size, 2, none⟩) (v := .string s) (cell_new w _ 46 _ rfl) (by simp)
    have c3 := t1.cell (a := ⟨w.heap.size, 3, none⟩) (v := .slice A n c) (cell_new w _ 46 _ rfl) (by simp)
    have HB : Hid (Below w.heap.size w w1) := (T0.out.trans t1).below (Nat.le_refl _) (by simp)
    clear t1 b1
    go_wp2_with (first
      | (go_at_call 23; refine (write_nil i s w1).mono ?_; rintro e w2 ⟨rfl, rfl⟩)
      | (go_at_call 24; refine (flush_nil w1).mono ?_; rintro e w2 ⟨rfl, rfl⟩)
      | (go_at_call 19; refine (stop_none i w1).mono ?_; rintro e w2 ⟨rfl, rfl⟩)
      | (go_at_call 10; refine (crash_none A n c w1).mono ?_; rintro e w2 ⟨rfl, rfl⟩))
    go_ret
    exact ⟨by rw [HE.out]; rfl, HB.out⟩
end Go.Proofs.Ytclfklpekkkkfaa
