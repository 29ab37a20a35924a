/-
  WALK: list: the list of the rungs that tells the k-th piece. Conditions: as many lists as an int64 counts.
-/
import Derived.Test.YtiknbbkblldjiaaIter
import Derived.Laws.OwnMore
import Derived.Laws.MakeOwn
namespace Go.Proofs.Ytiknbbkblldjiaa
open Go.RowKit Go.Shelf

theorem cell_new (w : World) (cs : Array Value) (t : TypeId) (k : Nat) {v : Value} (h : cs[k]? = some v) : (w.alloc (.cells cs t)).cell? ⟨w.heap.size, k, none⟩ = some v := by
  unfold World.cell?
  rw [heap_alloc_new]
  simpa using h
theorem placeK_0 : placeK (offP 0 : Nat) = (0, 0, 0) := by decide
theorem placeK_1 : placeK (offP 1 : Nat) = (1, 0, 0) := by decide
theorem placeK_2 (j : Nat) (h : j < 8) : placeK (offP (j + 2) : Nat) = (2, (j : Int), 0) := by
  have : ∀ j : Fin 8, placeK (offP (j.1 + 2) : Nat) = (2, (j.1 : Int), 0) := by decide
  exact this ⟨j, h⟩
def listOf (d s : List Int) (ls : List (Option (List Int))) (k : Nat) : List Int := if k = 0 then d else if k = 1 then s else (ls.getD (k - 2) none).getD []

/-- the rungs d, s, ls lie in these three slices. -/
structure Rungs3 (w : World) (B : Nat) (A1 A2 A3 : Option Addr) (n1 n2 n3 : Nat) (d s : List Int) (ls : List (Option (List Int))) : Prop where
  h1 : IntsAt w B A1 n1 d
  h2 : IntsAt w B A2 n2 s
  h3 : ListsAt w B A3 n3 ls
theorem Rungs3.below {w w' : World} {B C : Nat} {A1 A2 A3 : Option Addr} {n1 n2 n3 : Nat} {d s : List Int} {ls : List (Option (List Int))} (h : Rungs3 w B A1 A2 A3 n1 n2 n3 d s ls) (hb : Below C w w') (hB : B ≤ C) : Rungs3 w' B A1 A2 A3 n1 n2 n3 d s ls :=
  ⟨h.h1.below hb hB, h.h2.below hb hB, h.h3.below hb hB⟩
theorem Rungs3.keep {w w' : World} {B : Nat} {A1 A2 A3 : Option Addr} {n1 n2 n3 : Nat} {d s : List Int} {ls : List (Option (List Int))} (h : Rungs3 w B A1 A2 A3 n1 n2 n3 d s ls) (hk : ∀ p : Addr, p.block < B → w'.cell? p = w.cell? p) : Rungs3 w' B A1 A2 A3 n1 n2 n3 d s ls :=
  ⟨h.h1.keep hk, h.h2.keep hk, h.h3.keep hk⟩

def RetList (w w0 : World) (B : Nat) (zs : List Int) (e : Ending) (w' : World) : Prop := ∃ A n c, e = .returned (.slice A n c) ∧ IntsAt w B A n zs ∧ w' = w0

set_option maxHeartbeats 1000000 in
theorem list_any (k : Nat) (hk : k < 10) (A1 A2 A3 : Option Addr) (n1 n2 n3 c1 c2 c3 B : Nat) (d s : List Int) (ls : List (Option (List Int))) (w : World) (hr : Rungs3 w B A1 A2 A3 n1 n2 n3 d s ls) (hB : B ≤ w.heap.size) :
    Calls Try.prog 28 #[.agg #[.slice A1 n1 c1, .slice A2 n2 c2, .slice A3 n3 c3], .int .i64 (offP k : Int)] w (RetList w (w.alloc (.cells #[.slice A1 n1 c1, .slice A2 n2 c2, .slice A3 n3 c3] 26)) B (listOf d s ls k)) := by
  have c1' : (w.alloc (.cells #[.slice A1 n1 c1, .slice A2 n2 c2, .slice A3 n3 c3] 26)).cell? ⟨w.heap.size, 0, none⟩ = some (.slice A1 n1 c1) := cell_new w _ 26 0 rfl
  have c2' : (w.alloc (.cells #[.slice A1 n1 c1, .slice A2 n2 c2, .slice A3 n3 c3] 26)).cell? ⟨w.heap.size, 1, none⟩ = some (.slice A2 n2 c2) := cell_new w _ 26 1 rfl
  have c3' : (w.alloc (.cells #[.slice A1 n1 c1, .slice A2 n2 c2, .slice A3 n3 c3] 26)).cell? ⟨w.heap.size, 2, none⟩ = some (.slice A3 n3 c3) := cell_new w _ 26 2 rfl
  have HP := Lib.hid (fun w => place_any (offP k : Int) w (by have := offP_lt k hk; unfold Fit; omega))
  have HR := Lib.hid hr
  clear hr
  rcases k with _ | _ | j
  · have HQ : Hid (∀ w, Calls Try.prog 18 #[.int .i64 0] w fun e w' => e = .returned (.tuple #[.int .i64 0, .int .i64 0, .int .i64 0]) ∧ w = w') := fun w => by
      have := HP.out w
      rwa [placeK_0] at this
    clear HP
    rw [show ((offP 0 : Nat) : Int) = 0 from rfl, show listOf d s ls 0 = d from rfl]
    go_enter Try.func28, Try.ntmps28
    go_wp2_with (go_at_call 18; refine (HQ.out _).mono ?_; rintro e w' ⟨rfl, rfl⟩)
    go_ret
    exact ⟨_, _, _, rfl, HR.out.h1, rfl⟩
  · have HQ : Hid (∀ w, Calls Try.prog 18 #[.int .i64 4] w fun e w' => e = .returned (.tuple #[.int .i64 1, .int .i64 0, .int .i64 0]) ∧ w = w') := fun w => by
      have := HP.out w
      rwa [placeK_1] at this
    clear HP
    rw [show ((offP (0 + 1) : Nat) : Int) = 4 from rfl, show listOf d s ls (0 + 1) = s from rfl]
    go_enter Try.func28, Try.ntmps28
    go_wp2_with (go_at_call 18; refine (HQ.out _).mono ?_; rintro e w' ⟨rfl, rfl⟩)
    go_ret
    exact ⟨_, _, _, rfl, HR.out.h2, rfl⟩
  · have hj : j < 8 := by omega
    have HQ : Hid (∀ w, Calls Try.prog 18 #[.int .i64 (offP (j + 2) : Int)] w fun e w' => e = .returned (.tuple #[.int .i64 2, .int .i64 (j : Int), .int .i64 0]) ∧ w = w') := fun w => by
      have := HP.out w
      rwa [placeK_2 j hj] at this
    have HLO : Hid (listOf d s ls (j + 1 + 1) = (ls.getD j none).getD []) := by show _ = _; simp [listOf]
    clear HP
    rw [HLO.out]
    have e2 : ((offP (j + 1 + 1) : Nat) : Int) = (offP (j + 2) : Int) := rfl
    rw [e2]
    generalize (offP (j + 2) : Int) = f at *
    clear e2 HLO
    by_cases hlt : j < n3
    · obtain ⟨b, o, u, rfl, hbB, hu, hl⟩ := HR.out.h3.2 j hlt
      obtain ⟨A, c, rfl, hc, hi, _⟩ := hl.read
      have hu' : (w.alloc (.cells #[.slice A1 n1 c1, .slice A2 n2 c2, .slice (some ⟨b, o, none⟩) n3 c3] 26)).cell? ⟨b, o + j, none⟩ = some (.slice A ((ls.getD j none).getD []).length c) := (World.cell?_alloc_lt w _ ⟨b, o + j, none⟩ (by show b < _; omega)).trans hu
      have HI := Lib.hid hi
      clear hu hl hi hc
      generalize (ls.getD j none).getD [] = zs at *
      have hj1 : (j : Int) < (n3 : Int) := by omega
      go_enter Try.func28, Try.ntmps28
      go_wp2_with (go_at_call 18; refine (HQ.out _).mono ?_; rintro e w' ⟨rfl, rfl⟩)
      go_ret
      exact ⟨_, _, _, rfl, HI.out, rfl⟩
    · have e : (ls.getD j none).getD [] = [] := by
        have := HR.out.h3.1
        simp [List.getD, List.getElem?_eq_none (show ls.length ≤ j by omega)]
      rw [e]
      have hj1 : ¬ (j : Int) < (n3 : Int) := by omega
      clear e
      go_enter Try.func28, Try.ntmps28
      go_wp2_with (go_at_call 18; refine (HQ.out _).mono ?_; rintro e w' ⟨rfl, rfl⟩)
      go_ret
      exact ⟨_, _, _, rfl, IntsAt.nil _ _ _, rfl⟩
end Go.Proofs.Ytiknbbkblldjiaa
