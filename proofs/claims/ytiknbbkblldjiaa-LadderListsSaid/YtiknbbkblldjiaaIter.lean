/-
  THE ITERATOR: the ten pieces of a map of 76 blocks, in order, for every loop body that keeps the iterator's own variable. No condition.
-/
import Derived.Test.YtiknbbkblldjiaaPieces
namespace Go.Proofs.Ytiknbbkblldjiaa
open Go.RowKit Go.Shelf
attribute [local go_sem] Oper.semAt_some

def offP (k : Nat) : Nat := if k = 0 then 0 else 8 * k - 4
def lenP (k : Nat) : Nat := if k = 0 then 4 else 8
theorem offP_lt (k : Nat) (h : k < 10) : offP k + lenP k ≤ 76 ∧ offP k < 76 ∧ (lenP k = 4 ∨ lenP k = 8) := by
  unfold offP lenP
  by_cases e : k = 0
  · simp [e]
  · simp only [if_neg e]; exact ⟨by omega, by omega, Or.inr trivial⟩
theorem offP_succ (k : Nat) : offP (k + 1) = offP k + lenP k := by
  unfold offP lenP
  by_cases e : k = 0
  · simp [e]
  · simp only [if_neg e, if_neg (Nat.succ_ne_zero k)]; omega
theorem lenP_succ (k : Nat) : lenP (k + 1) = 8 := by simp [lenP]
/-- what the k-th round is handed. -/
def pieceV (g : Nat) (x : Fin 10) : Array Value := #[.int .i64 (offP x.1 : Int), .slice (some ⟨g, offP x.1, none⟩) (lenP x.1) (76 - offP x.1)]
def KpB (Bs : Nat) (W W' : World) : Prop := W'.heap[Bs]? = W.heap[Bs]?
def firsts (k : Nat) : List (Fin 10) := (List.finRange 10).take k
theorem firsts_succ (k : Nat) (h : k < 10) : firsts (k + 1) = firsts k ++ [⟨k, h⟩] := by
  unfold firsts
  rw [List.take_succ_eq_append_getElem (by simpa using h)]
  simp
theorem firsts_len (k : Nat) (h : k ≤ 10) : (firsts k).length = k := by simp [firsts, h]

set_option maxRecDepth 100000 in
set_option maxHeartbeats 2000000 in
theorem iter_any (F : Fence) (n : Nat) (h36 : F.fn 36) (hro : F.round = none) (hn : 1 ≤ n) (l Bs g : Nat) (J Jx : List (Fin 10) → World → Prop)
    (hY : ∀ pre x W1, J pre W1 → pre.length < 10 → YieldAt F (n - 1) Try.prog l (pieceV g x) W1 fun e W' =>
      (e = .returned (.bool true) ∧ J (pre ++ [x]) W' ∧ KpB Bs W1 W') ∨ (e = .returned (.bool false) ∧ Jx (pre ++ [x]) W'))
    (W : World) (hBs : Boxed W Bs 22 (.slice (some ⟨g, 0, none⟩) 76 76)) (h0 : J [] W) :
    CallsIn F n Try.prog 36 #[.func (.yield l) #[] #[], .pointer (some ⟨Bs, 0, none⟩)] W fun e W' => (∃ v, e = .returned v) ∧
      ((∃ xs, xs = firsts 10 ∧ J xs W') ∨ (∃ pre, True ∧ Jx pre W')) := by
  refine callsIn_of_wp Try.func36 rfl h36 ?_ hro
  simp only [Try.ntmps36, List.size_toArray, List.length_cons, List.length_nil, Nat.reduceAdd, Nat.reduceSub, Array.replicate_succ, Array.replicate_zero, List.push_toArray, List.append_toArray, List.nil_append, List.cons_append]
  gi_wp2
  gi_loopw [3, 4] (fun i s wr => ∃ k : Nat, k ≤ 10 ∧ i = .int .i64 (offP k : Int) ∧ s = .int .i64 (lenP k : Int) ∧ J (firsts k) wr ∧ Boxed wr Bs 22 (.slice (some ⟨g, 0, none⟩) 76 76))
    (fun i _ _ => 100 - (intOf i).toNat)
  case atStart => exact ⟨0, by omega, rfl, rfl, h0, hBs⟩
  case round =>
    obtain ⟨k, hk, rfl, rfl, hJ, hbx⟩ := hrel
    have hc := hbx.cell
    by_cases hlt : k < 10
    · obtain ⟨fn, tmps, assign, body, hy, hR⟩ := hY (firsts k) ⟨k, hlt⟩ wr hJ (by rw [firsts_len k (by omega)]; exact hlt)
      have HS := Lib.hid (offP_succ k)
      have HS2 := Lib.hid (lenP_succ k)
      have HF := Lib.hid (firsts_succ k hlt)
      have HBX := Lib.hid hbx
      obtain ⟨hf1, hf2, hf3⟩ := offP_lt k hlt
      simp only [pieceV] at hy
      generalize offP k = f at *
      generalize lenP k = z at *
      have hf4 : (f : Int) < 76 := by omega
      have hf5 : f < 76 := by omega
      have hf6 : ¬ 76 = f := by omega
      gi_wp2
      refine hR.mono ?_
      rintro e W3 (⟨rfl, hJ3, hk3⟩ | ⟨rfl, hJx3⟩)
      · have hb3 : Boxed W3 Bs 22 (.slice (some ⟨g, 0, none⟩) 76 76) := hk3.trans HBX.out
        gi_wp2
        go_roundw
        case rel => exact ⟨k + 1, by omega, by rw [HS.out]; simp, by rw [HS2.out]; rfl, by rw [HF.out]; exact hJ3, hb3⟩
        case measure => simp [intOf]; omega
      · gi_wp2
        refine bodyPost_ret (results_none rfl _ _ _) rfl ?_
        exact ⟨⟨_, rfl⟩, .inr ⟨_, trivial, hJx3⟩⟩
    · obtain rfl : k = 10 := by omega
      rw [show offP 10 = 76 from rfl, show lenP 10 = 8 from rfl]
      gi_wp2
      go_end0
      exact ⟨⟨_, rfl⟩, .inl ⟨_, rfl, hJ⟩⟩

theorem iter_stops (F : Fence) (n : Nat) (h36 : F.fn 36) (hro : F.round = none) (hn : 1 ≤ n) (Bs g : Nat) (w : World) (hBs : Boxed w Bs 22 (.slice (some ⟨g, 0, none⟩) 76 76)) :
    SeqStopsK F n Try.prog 36 #[.pointer (some ⟨Bs, 0, none⟩)] (pieceV g) (KpB Bs) (fun xs => xs = firsts 10) (fun _ => True) 10 w :=
  fun l J Jx W hW _ _ hY h0 => iter_any F n h36 hro hn l Bs g J Jx hY W ((hW.block Bs hBs.lt).trans hBs) h0
theorem KpB.t {Bs : Nat} {A B C : World} (h : KpB Bs A B) (k : KpB Bs B C) : KpB Bs A C := k.trans h
theorem KpB.b {Bs : Nat} {w : World} (hB : Bs < w.heap.size) (W : World) (l : Nat) (o o' : Obj) (hl : w.heap.size ≤ l) (_ : W.heap[l]? = some o) (_ : o.isCells = false) (_ : o.isWalk = false) : KpB Bs W (W.putObj l o') :=
  World.putObj_heap_other (by omega)
end Go.Proofs.Ytiknbbkblldjiaa
