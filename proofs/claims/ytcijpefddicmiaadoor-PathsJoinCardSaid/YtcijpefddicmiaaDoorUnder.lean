/-
  WALKS: Under, Compare. Conditions: internal/bytealg.MaxLen holds an int.
-/
import Derived.Test.YtcijpefddicmiaaDoorParent
namespace Go.Proofs.YtcijpefddicmiaaDoor
open Go.RowKit

theorem below_drewN {B : Nat} {a b : World} (h : Below B a b) (q : Nat) : Below B a (b.drewN q) := ⟨h.os, h.tape, h.output, h.size, h.block⟩

def underO (a b : Option (List (List UInt8))) : Bool :=
  match a, b with
  | some x, some y => decide (y.take x.length = x)
  | _, _ => false
theorem under_none (a : Option (List (List UInt8))) : underO a none = false := by cases a <;> rfl
theorem under_long {x y : List (List UInt8)} (h : y.length < x.length) : underO (some x) (some y) = false := by
  show decide _ = false
  rw [decide_eq_false_iff_not]
  intro e
  have := congrArg List.length e
  rw [List.length_take] at this
  omega
theorem map_bs_inj {a b : List (List UInt8)} (h : a.map bs = b.map bs) : a = b := by
  have := congrArg (List.map (fun s : ByteArray => s.data.toList)) h
  rw [List.map_map, List.map_map] at this
  simpa [Function.comp_def, bs_data] using this

theorem equal_any (x y : List (List UInt8)) (A A' : Option Addr) (n c c' : Nat) (w : World) (hA : StrsAt w w.heap.size A n x) (hA' : StrsAt w w.heap.size A' n y) (hn : n ≤ 1000000) :
    Calls Tryd.prog 27 #[.slice A n c, .slice A' n c'] w fun e w' => e = .returned (.bool (decide (y = x))) ∧ Below w.heap.size w w' := by
  by_cases h0 : n = 0
  · subst h0
    refine (slices_Equal_string_empty A A' c 0 c' w (by decide)).mono ?_
    rintro e w' ⟨rfl, rfl⟩
    have hx : x = [] := List.eq_nil_of_length_eq_zero hA.len
    have hy : y = [] := List.eq_nil_of_length_eq_zero hA'.len
    subst hx hy
    exact ⟨rfl, Below.refl _ _⟩
  · obtain ⟨b1, o1, rfl, -, -⟩ := hA.at_ (k := 0) (by omega)
    obtain ⟨b2, o2, rfl, -, -⟩ := hA'.at_ (k := 0) (by omega)
    have hx := hA.len
    have hy := hA'.len
    refine (slices_Equal_string b1 o1 n c b2 o2 n c' (x.map bs) (y.map bs) w (by simp [hx]) (by simp [hy]) (by omega) (by omega) (fun j hj => ?_) (fun j hj => ?_)).mono ?_
    · rw [List.length_map] at hj
      obtain ⟨b, o, e, _, hc⟩ := hA.at_ (k := j) (by omega)
      cases e
      rw [hc]; simp [List.getD, hj]
    · rw [List.length_map] at hj
      obtain ⟨b, o, e, _, hc⟩ := hA'.at_ (k := j) (by omega)
      cases e
      rw [hc]; simp [List.getD, hj]
    · rintro e w' ⟨rfl, q, rfl⟩
      refine ⟨ret_bool ?_, below_drewN (Below.refl _ _) q⟩
      rw [decide_eq_decide, List.take_of_length_le (by simp [hx]), List.take_of_length_le (by simp [hy])]
      exact ⟨fun h => (map_bs_inj h).symm, fun h => by rw [h]⟩

set_option maxHeartbeats 4000000 in
theorem under_any (p q : List UInt8) (w : World) (hp : p.length ≤ 140737488355328) (hq : q.length ≤ 140737488355328) (hm : MaxAt w) :
    Calls Tryd.prog 16 #[.string (bs p), .string (bs q)] w fun e w' => e = .returned (.bool (underO (namesL p) (namesL q))) ∧ Below w.heap.size w w' := by
  have HS := Lib.hid (split_any p w hp hm)
  have HQ : Hid (∀ W, MaxAt W → Calls Tryd.prog 9 #[.string (bs q)] W (RetNames W (namesL q))) := fun W h => split_any q W hq h
  have HM := Lib.hid hm
  have HLP : Hid (∀ l, namesL p = some l → l.length ≤ 256) := fun l h => names_len h
  generalize bs p = P at *
  generalize bs q = Q at *
  generalize namesL p = a at *
  generalize namesL q = b at *
  cases a with
  | none =>
    go_enter Tryd.func16, Tryd.ntmps16
    go_wp2_with fail
    refine HS.out.mono ?_
    rintro e w1 ⟨A, n, c, rfl, hb, hA, hnc⟩
    rw [show errI (none : Option (List (List UInt8))) = 4 from rfl]
    go_wp2
    go_ret
    exact ⟨rfl, hb⟩
  | some x =>
    have hx := HLP.out x rfl
    cases b with
    | none =>
      go_enter Tryd.func16, Tryd.ntmps16
      go_wp2_with fail
      refine HS.out.mono ?_
      rintro e w1 ⟨A, n, c, rfl, hb, hA, hnc⟩
      rw [show errI (some x) = 0 from rfl]
      go_wp2_with fail
      refine (HQ.out w1 (HM.out.to hb)).mono ?_
      rintro e w2 ⟨A', n', c', rfl, hb2, hA', hnc'⟩
      rw [show errI (none : Option (List (List UInt8))) = 4 from rfl]
      go_wp2
      go_ret
      exact ⟨rfl, hb.trans (hb2.mono hb.size)⟩
    | some y =>
      go_enter Tryd.func16, Tryd.ntmps16
      go_wp2_with fail
      refine HS.out.mono ?_
      rintro e w1 ⟨A, n, c, rfl, hb, hA, hnc⟩
      rw [show errI (some x) = 0 from rfl]
      go_wp2_with fail
      refine (HQ.out w1 (HM.out.to hb)).mono ?_
      rintro e w2 ⟨A', n', c', rfl, hb2, hA', hnc'⟩
      rw [show errI (some y) = 0 from rfl]
      have hA2 : StrsAt w2 w2.heap.size A n x := hA.to hb2
      have hY : StrsAt w2 w2.heap.size A' n' y := hA'
      have hB : Below w.heap.size w w2 := hb.trans (hb2.mono hb.size)
      have hxl := hA2.len
      have hyl := hY.len
      clear hA hA' HS HQ HM HLP hb hb2
      by_cases hle : n ≤ n'
      · have hle' : (n : Int) ≤ (n' : Int) := by omega
        have hnc2 : (n : Int) ≤ (c' : Int) := by omega
        have HE := Lib.hid (equal_any x (y.take n) A A' n c c' w2 hA2 (hY.take n hle) (by omega))
        have HU : Hid (underO (some x) (some y) = decide (y.take n = x)) := by show _ = _; rw [← hxl]; rfl
        generalize decide (y.take n = x) = v at *
        go_wp2_with fail
        refine HE.out.mono ?_
        rintro e w3 ⟨rfl, hb3⟩
        go_wp2
        go_ret
        exact ⟨ret_bool HU.out.symm, hB.trans (hb3.mono hB.size)⟩
      · have hle' : ¬ (n : Int) ≤ (n' : Int) := by omega
        have HU := Lib.hid (under_long (x := x) (y := y) (by omega))
        go_wp2
        go_ret
        exact ⟨ret_bool HU.out.symm, hB⟩

theorem compare_any (a b : ByteArray) (w : World) : Calls Tryd.prog 20 #[.string a, .string b] w fun e w' => e = .returned (.int .i64 (Lib.compareBytes a.data.toList b.data.toList)) ∧ w' = w := by
  go_enter Tryd.func20, Tryd.ntmps20
  go_wp2_with fail
  refine (strings_Compare a b w).mono ?_
  rintro e w' ⟨rfl, rfl⟩
  go_wp2
  go_ret
  exact ⟨rfl, rfl⟩
end Go.Proofs.YtcijpefddicmiaaDoor
