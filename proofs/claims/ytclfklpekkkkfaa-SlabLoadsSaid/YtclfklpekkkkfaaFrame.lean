/-
  THE FRAME of the rows: a step that came in, as its four cells; a slice of steps; a slice of strings. No condition.
-/
import Derived.Test.YtclfklpekkkkfaaOps
import Derived.ProofKit
import Derived.OpenShut
import Derived.ShutString
import Derived.ChangeOld
import Derived.SizedLaws
import Derived.Deep.Strs
namespace Go.Proofs.Ytclfklpekkkkfaa
open Go.ChangeShapes Go.WideShapes Go.ChangeAt Go.RowKit
open Go.ChangeMaps (open_string shut_string)

theorem own : ownKnob Try.prog.godebug = none := by kernel_rfl
theorem laidOut : laidOutB Try.prog = true := by kernel_rfl
theorem cells3 : Try.prog.cellsOf 3 = 1 := by kernel_rfl
theorem cells9 : Try.prog.cellsOf 9 = 1 := by kernel_rfl
theorem cells33 : Try.prog.cellsOf 33 = 1 := by kernel_rfl
theorem cells46 : Try.prog.cellsOf 46 = 4 := by kernel_rfl

theorem i64_of_wf {n : Int} (h : (Lit.int .i64 n).wf = true) : -9223372036854775808 ≤ n ∧ n ≤ 9223372036854775807 := by
  simpa [Lit.wf, IntKind.min, IntKind.max, IntKind.signed, IntKind.bits] using h

section
variable {H : Type} {enc : TypeId × Value → H} {w : World} {base : Nat} {spare : Nat → Bool} {held : Bool}

/-- THE FOUR CELLS of a step. -/
theorem op_cells {fuel : Nat} {cs : List Value} {x : DataW H × List MemPlace} (h : DataW.trod enc Try.prog w base spare held fuel 46 cs = some x) :
    ∃ (kd i : Int) (s : ByteArray) (A : Option Addr) (n c : Nat), cs = [.int .i64 kd, .int .i64 i, .string s, .slice A n c] ∧ (-9223372036854775808 ≤ kd ∧ kd ≤ 9223372036854775807) ∧ (-9223372036854775808 ≤ i ∧ i ≤ 9223372036854775807) ∧ s.size ≤ 9223372036854775807 := by
  obtain ⟨xs, n, _, _, hl, hlen, hf⟩ := DataW.trod_struct Try.underlying46 h
  rw [cells46] at hl
  have hlen' : xs.length = 4 := hlen
  match cs, hl, xs, hlen' with
  | [a, b, c, d], _, [y0, y1, y2, y3], _ =>
    have t0 : List.take (Try.prog.cellsOf 3) (List.drop 0 [a, b, c, d]) = [a] := by rw [cells3]; rfl
    have t1 : List.take (Try.prog.cellsOf 3) (List.drop 1 [a, b, c, d]) = [b] := by rw [cells3]; rfl
    have t2 : List.take (Try.prog.cellsOf 9) (List.drop 2 [a, b, c, d]) = [c] := by rw [cells9]; rfl
    have t3 : List.take (Try.prog.cellsOf 33) (List.drop 3 [a, b, c, d]) = [d] := by rw [cells33]; rfl
    have h0 : DataW.trod enc Try.prog w base spare held n 3 [a] = some y0 := by rw [← t0]; exact hf 0 _ rfl
    have h1 : DataW.trod enc Try.prog w base spare held n 3 [b] = some y1 := by rw [← t1]; exact hf 1 _ rfl
    have h2 : DataW.trod enc Try.prog w base spare held n 9 [c] = some y2 := by rw [← t2]; exact hf 2 _ rfl
    have h3 : DataW.trod enc Try.prog w base spare held n 33 [d] = some y3 := by rw [← t3]; exact hf 3 _ rfl
    clear t0 t1 t2 t3 hf
    obtain ⟨kd, e0, _, w0⟩ := DataW.trod_int Try.underlying3 h0
    obtain ⟨i, e1, _, w1⟩ := DataW.trod_int Try.underlying3 h1
    obtain ⟨s, e2, _, w2⟩ := DataW.trod_string Try.underlying9 h2
    have e3 : ∃ (A : Option Addr) (n c : Nat), d = .slice A n c := by
      rcases DataW.trod_slice Try.underlying33 h3 with ⟨e, _⟩ | ⟨a, len, cap, _, _, _, _, e, _⟩
      · exact ⟨none, 0, 0, by simpa using e⟩
      · exact ⟨some a, len, cap, by simpa using e⟩
    obtain ⟨A, n, c', rfl⟩ := e3
    refine ⟨kd, i, s, A, n, c', ?_, i64_of_wf w0, i64_of_wf w1, w2⟩
    simp at e0 e1 e2
    rw [e0, e1, e2]
end

theorem op_open {H : Type} {enc : TypeId × Value → H} {W : World} {base : Nat} {v : Value} {d : DataW H} {p : List MemPlace} (hv : Value.okWide Try.prog W .any base 46 v) (h : DataW.Trod enc Try.prog W 0 (fun _ => true) true 46 v d p) :
    ∃ (kd i : Int) (s : ByteArray) (A : Option Addr) (n c : Nat), v = .agg #[.int .i64 kd, .int .i64 i, .string s, .slice A n c] ∧ (-9223372036854775808 ≤ kd ∧ kd ≤ 9223372036854775807) ∧ (-9223372036854775808 ≤ i ∧ i ≤ 9223372036854775807) ∧ s.size ≤ 9223372036854775807 := by
  unfold Value.okWide at hv
  rw [Try.underlying46] at hv
  obtain ⟨cs, rfl, _, _⟩ := hv
  obtain ⟨fuel, hf⟩ := h
  obtain ⟨kd, i, s, A, n, c, e, h1, h2, h3⟩ := op_cells hf
  refine ⟨kd, i, s, A, n, c, ?_, h1, h2, h3⟩
  simp [Value.cells] at e
  congr 1
  apply Array.ext'
  rw [e]
end Go.Proofs.Ytclfklpekkkkfaa
