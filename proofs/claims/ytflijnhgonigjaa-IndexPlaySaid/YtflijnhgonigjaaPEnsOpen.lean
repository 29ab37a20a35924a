/-
  A slice of entries that came in, opened. No condition.
-/
import Derived.Test.YtflijnhgonigjaaPFrame
namespace Go.Proofs.Ytflijnhgonigjaa
open Go.ChangeShapes Go.WideShapes Go.ChangeAt Go.RowKit

theorem ens_open {H : Type} {enc : TypeId × Value → H} {W : World} {a : Option Addr} {len cap : Nat} {d : DataW H} {p : List MemPlace}
    (h : DataW.Trod enc Try.prog W 0 (fun _ => true) true 27 (.slice a len cap) d p) (hsz : ∀ n ∈ d.weights Try.prog 27, n ≤ reachBytes) :
    ∃ q : List En, EnsAt W W.heap.size a len q ∧ len ≤ cap := by
  obtain ⟨fuel, hf⟩ := h
  obtain ⟨A, l2, c2, l, e, hE, hc⟩ := ens_trod hf hsz
  simp [Value.cells] at e
  obtain ⟨rfl, rfl, rfl⟩ := e
  exact ⟨l, hE, hc⟩
end Go.Proofs.Ytflijnhgonigjaa
