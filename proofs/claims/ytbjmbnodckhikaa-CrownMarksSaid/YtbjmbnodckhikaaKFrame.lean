/-
  THE FRAME of the rows: a crown that came in. No condition.
-/
import Derived.Test.YtbjmbnodckhikaaKLives
import Derived.ShutString
import Derived.ProofKit
import Derived.OpenShut
import Derived.ChangeOld
import Derived.SizedLaws
import Derived.Deep.Slices
namespace Go.Proofs.Ytbjmbnodckhikaa
open Go.ChangeShapes Go.WideShapes Go.ChangeAt Go.RowKit
open Go.ChangeMaps (open_string shut_string)

theorem own : ownKnob Try.prog.godebug = none := by kernel_rfl
theorem laidOut : laidOutB Try.prog = true := by kernel_rfl
theorem cells_3 : Try.prog.cellsOf 3 = 1 := by kernel_rfl
theorem cells_23 : Try.prog.cellsOf 23 = 3 := by kernel_rfl

theorem i64_of_wf {n : Int} (h : (Lit.int .i64 n).wf = true) : -9223372036854775808 ≤ n ∧ n ≤ 9223372036854775807 := by
  simpa [Lit.wf, IntKind.min, IntKind.max, IntKind.signed, IntKind.bits] using h

/-- THE THREE CELLS of a crown. -/
theorem cr_cells {H : Type} {enc : TypeId × Value → H} {W : World} {fuel : Nat} {cs : List Value} {x : DataW H × List MemPlace} {base : Nat} {spare : Nat → Bool} {held : Bool} (h : DataW.trod enc Try.prog W base spare held fuel 23 cs = some x) :
    ∃ f b c : Int, cs = [.int .i64 f, .int .i64 b, .int .i64 c] ∧ I64 f ∧ I64 b ∧ I64 c := by
  obtain ⟨xs, n, _, _, hl, hlen, hf⟩ := DataW.trod_struct Try.underlying23 h
  rw [cells_23] at hl
  have hlen' : xs.length = 3 := hlen
  match cs, hl, xs, hlen' with
  | [u, v, t], _, [y0, y1, y2], _ =>
    have t0 : List.take (Try.prog.cellsOf 3) (List.drop 0 [u, v, t]) = [u] := by rw [cells_3]; rfl
    have t1 : List.take (Try.prog.cellsOf 3) (List.drop 1 [u, v, t]) = [v] := by rw [cells_3]; rfl
    have t2 : List.take (Try.prog.cellsOf 3) (List.drop 2 [u, v, t]) = [t] := by rw [cells_3]; rfl
    have h0 : DataW.trod enc Try.prog W base spare held n 3 [u] = some y0 := by rw [← t0]; exact hf 0 _ rfl
    have h1 : DataW.trod enc Try.prog W base spare held n 3 [v] = some y1 := by rw [← t1]; exact hf 1 _ rfl
    have h2 : DataW.trod enc Try.prog W base spare held n 3 [t] = some y2 := by rw [← t2]; exact hf 2 _ rfl
    clear t0 t1 t2 hf
    obtain ⟨n0, e0, _, w0⟩ := DataW.trod_int Try.underlying3 h0
    obtain ⟨n1, e1, _, w1⟩ := DataW.trod_int Try.underlying3 h1
    obtain ⟨n2, e2, _, w2⟩ := DataW.trod_int Try.underlying3 h2
    refine ⟨n0, n1, n2, ?_, i64_of_wf w0, i64_of_wf w1, i64_of_wf w2⟩
    simp at e0 e1 e2
    rw [e0, e1, e2]
theorem cr_open {H : Type} {enc : TypeId × Value → H} {W : World} {base : Nat} {v : Value} {d : DataW H} {p : List MemPlace} (hv : Value.okWide Try.prog W .any base 23 v) (h : DataW.Trod enc Try.prog W 0 (fun _ => true) true 23 v d p) :
    ∃ f b c : Int, v = crv f b c ∧ (I64 f ∧ I64 b ∧ I64 c) := by
  unfold Value.okWide at hv
  rw [Try.underlying23] at hv
  obtain ⟨cs, rfl, _, _⟩ := hv
  obtain ⟨fuel, hf⟩ := h
  obtain ⟨f, b, c, e, hb⟩ := cr_cells hf
  refine ⟨f, b, c, ?_, hb⟩
  simp [Value.cells] at e
  unfold crv
  congr 1
  apply Array.ext'
  rw [e]
end Go.Proofs.Ytbjmbnodckhikaa
