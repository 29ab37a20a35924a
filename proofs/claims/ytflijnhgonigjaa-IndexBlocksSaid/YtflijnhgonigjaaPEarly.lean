/-
  WALK: early. Conditions: none beside the slice's form.
-/
import Derived.Test.YtflijnhgonigjaaPRefOf
namespace Go.Proofs.Ytflijnhgonigjaa
open Go.RowKit

def earlyP (p : Pg) : Pg := (p.take 20).map fun l => l.take 20
theorem earlyP_len (p : Pg) : (earlyP p).length = min 20 p.length := by simp [earlyP]
theorem earlyP_mem (p : Pg) : ∀ l ∈ earlyP p, l.length ≤ 20 := by
  intro l hl
  obtain ⟨x, -, rfl⟩ := List.mem_map.1 hl
  simp; omega
def earlyTo (p : Pg) (k : Nat) : Pg := (p.take k).map fun l => l.take 20
theorem earlyTo_succ {p : Pg} {k : Nat} (h : k < p.length) : earlyTo p (k + 1) = earlyTo p k ++ [(p.getD k []).take 20] := by
  unfold earlyTo; rw [pg_take h, List.map_append]; rfl
theorem earlyTo_len {p : Pg} {k : Nat} (h : k ≤ p.length) : (earlyTo p k).length = k := by simp [earlyTo, h]
theorem earlyTo_end (p : Pg) : earlyTo p (min 20 p.length) = earlyP p := by
  unfold earlyTo earlyP
  rcases Nat.le_total 20 p.length with h | h
  · rw [Nat.min_eq_left h]
  · rw [Nat.min_eq_right h, List.take_length, List.take_of_length_le h]
theorem sum_le : ∀ (p : Pg) (m : Nat), (∀ l ∈ p, l.length ≤ m) → p.flatten.length ≤ p.length * m
  | [], _, _ => by simp
  | l :: p, m, h => by
    have ih := sum_le p m (fun x hx => h x (List.mem_cons_of_mem _ hx))
    have h1 := h l (by simp)
    rw [List.flatten_cons, List.length_append, List.length_cons, Nat.succ_mul]; omega
theorem earlyP_flat (p : Pg) : (earlyP p).flatten.length ≤ 400 := by
  have := sum_le (earlyP p) 20 (earlyP_mem p)
  have := earlyP_len p
  have : (earlyP p).length * 20 ≤ 20 * 20 := Nat.mul_le_mul_right _ (by omega)
  omega

theorem undrew' {B : Nat} {w w' : World} (b : Below B w.drew w') : Below B w w' := ⟨b.os, b.tape, b.output, b.size, b.block⟩
set_option maxHeartbeats 4000000 in
theorem early_any (A : Option Addr) (n c B : Nat) (p : Pg) (w : World) (hA : PgsAt w B A n p) (hB : B ≤ w.heap.size) (hn : n ≤ maxLen) :
    Calls Try.prog 9 #[.slice A n c] w (RetPgs w (earlyP p)) := by
  unfold maxLen at hn
  have HL := Lib.hid hA.len
  have HA := Lib.hid hA
  clear hA
  have HEND : Hid (earlyTo p (min 20 n) = earlyP p) := by show _ = _; rw [← HL.out]; exact earlyTo_end p
  go_enter Try.func9, Try.ntmps9
  go_wp2
  go_loopw [3, 4] (fun v i wr => ∃ k : Nat, k ≤ min 20 n ∧ i = .int .i64 (k : Int) ∧ OwnPg wr w.heap.size v (earlyTo p k) ∧ Below w.heap.size w wr) (fun _ i _ => 20 - (intOf i).toNat)
  case atStart => exact ⟨0, by omega, rfl, OwnPg.nil _ _, Below.refl _ _⟩
  case round =>
    obtain ⟨k, hk, rfl, hown, hb⟩ := hrel
    obtain ⟨A5, c5, e5⟩ := hown.slice
    rw [earlyTo_len (by rw [HL.out]; omega)] at e5
    subst e5
    by_cases hkq : k < min 20 n
    · have hkn : k < n := by omega
      obtain ⟨b, o, A', c', rfl, hbB, hcell, hlc, hE⟩ := HA.out.at_ hkn
      have hc1 := bcell hb hcell (show b < _ by omega)
      have hE2 := hE.below hb hB
      have HSU := Lib.hid (earlyTo_succ (p := p) (k := k) (by rw [HL.out]; exact hkn))
      have HTL := Lib.hid (earlyTo_len (p := p) (k := k) (by rw [HL.out]; omega))
      generalize hll : (p.getD k []).length = len at *
      have HSL : Hid (SlE wr wr.heap.size (.slice A5 k c5) (.slice A' (min len 20) c') ((p.getD k []).take 20)) := by
        show SlE _ _ _ _ _
        have hE3 := hE2.take (min len 20) (by omega)
        have e : (p.getD k []).take (min len 20) = (p.getD k []).take 20 := by
          rcases Nat.le_total len 20 with h | h
          · rw [Nat.min_eq_left h, List.take_of_length_le (by omega), List.take_of_length_le (by omega)]
          · rw [Nat.min_eq_right h]
        rw [e] at hE3
        have e2 : min len 20 = ((p.getD k []).take 20).length := by rw [List.length_take]; omega
        rw [e2] at hE3 ⊢
        exact ⟨_, _, rfl, by omega, hE3.more (Nat.le_trans hB hb.size), hown.off hE3 hB⟩
      have HOWN := Lib.hid hown
      have HB := Lib.hid hb
      have hsz := hb.size
      have HLL := Lib.hid hll
      clear hE hE2 hown hb hll hcell
      generalize hmm : min len 20 = m at *
      have hmin : min (len : Int) 20 = (m : Int) := by omega
      have HMM := Lib.hid hmm
      have hml : m ≤ len ∧ m ≤ 20 := by omega
      clear hmm
      generalize earlyTo p k = acc at *
      have x1 : (k : Int) < (n : Int) := by omega
      have x2 : (k : Int) < 20 := by omega
      have x3 : (m : Int) ≤ (c' : Int) := by omega
      have x4 : (0 : Int) ≤ (m : Int) := by omega
      have hal := HTL.out
      have d1 : wr.drew.cell? ⟨b, o + k, none⟩ = some (.slice A' len c') := hc1
      have HSLd : Hid (SlE wr.drew wr.drew.heap.size (.slice A5 k c5) (.slice A' m c') ((p.getD k []).take 20)) := by
        obtain ⟨Ax, cx, e, h1, h2, h3⟩ := HSL.out
        exact ⟨Ax, cx, e, h1, h2.keep (fun _ _ => rfl), h3⟩
      have HOWNd : Hid (OwnPg wr.drew w.heap.size (.slice A5 k c5) acc) := by
        obtain ⟨vs, h1, h2, h3⟩ := HOWN.out
        refine ⟨vs, h1.drew, h2, fun j hj => ?_⟩
        obtain ⟨x, e, Ax, cx, e2, h4, h5, h6⟩ := h3 j hj
        exact ⟨x, e, Ax, cx, e2, h4, h5.keep (fun _ _ => rfl), h6⟩
      go_wp2
      go_region_law (refine step_pushP rfl (.tmp 15) (.tmp 27) rfl w.heap.size wr.drew (.slice A5 k c5) acc [.slice A' m c'] [(p.getD k []).take 20] (by simp [Act.eval]) 1 1 (by simp [Act.eval]) HOWNd.out (PgV.single HSLd.out) rfl (by omega) (by omega) hsz ?_; intro v' w6 ho6 b6 hkp; clear hkp)
      all_goals
        rw [← HSU.out] at ho6
        obtain ⟨A6, c6, rfl⟩ := ho6.slice
        have HO6 := Lib.hid ho6
        have HB6 : Hid (Below w.heap.size w w6) := HB.out.trans ((undrew' b6).mono (Nat.le_refl _))
        clear ho6 b6 hmin
        go_wp2
        go_roundw
        case rel => exact ⟨k + 1, by omega, by go_num, HO6.out, HB6.out⟩
        case measure => simp [intOf]; omega
    · obtain rfl : k = min 20 n := by omega
      have hR := hown.ret hb
      have HR : Hid (RetPgs w (earlyP p) (.returned (.slice A5 (min 20 n) c5)) wr) := by rw [← HEND.out]; exact hR
      clear hR hown
      rcases Nat.le_total 20 n with h | h
      · rw [Nat.min_eq_left h] at *
        by_cases h2 : 20 < n
        · have x1 : (20 : Int) < (n : Int) := by omega
          go_wp2
          go_ret
          exact HR.out
        · have x1 : ¬ (20 : Int) < (n : Int) := by omega
          go_wp2
          go_ret
          exact HR.out
      · rw [Nat.min_eq_right h] at *
        have x1 : ¬ (n : Int) < (n : Int) := by omega
        go_wp2
        go_ret
        exact HR.out
end Go.Proofs.Ytflijnhgonigjaa
