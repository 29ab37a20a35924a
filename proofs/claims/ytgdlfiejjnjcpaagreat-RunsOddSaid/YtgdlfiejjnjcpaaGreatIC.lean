/-
  THE FRAME of the rows: texts, a batch and a slice of batches that came in; how much a reading holds. Condition of the second form: a reading of bulk at most 1048576.
-/
import Derived.Test.YtgdlfiejjnjcpaaGreatHN
import Derived.ProofKit
import Derived.OpenShut
import Derived.ShutString
import Derived.ChangeOld
import Derived.SizedLaws
import Derived.Deep.Strs
import Derived.Deep.Slices
import Derived.Deep.CondSized
namespace Go.Proofs.YtgdlfiejjnjcpaaGreat.Lf
set_option maxRecDepth 100000
open Go.ChangeShapes Go.WideShapes Go.ChangeAt Go.RowKit
open Go.ChangeMaps (open_string shut_string)
open Lg

theorem own : ownKnob Tryz.prog.godebug = none := by kernel_rfl
theorem laidOut : laidOutB Tryz.prog = true := by kernel_rfl
theorem cells_3 : Tryz.prog.cellsOf 3 = 1 := by kernel_rfl
theorem cells_5 : Tryz.prog.cellsOf 5 = 1 := by kernel_rfl
theorem cells_9 : Tryz.prog.cellsOf 9 = 1 := by kernel_rfl
theorem cells_35 : Tryz.prog.cellsOf 27 = 1 := by kernel_rfl
theorem cells_36 : Tryz.prog.cellsOf 112 = 1 := by kernel_rfl
theorem i64_of_wf {n : Int} (h : (Lit.int .i64 n).wf = true) : -9223372036854775808 ≤ n ∧ n ≤ 9223372036854775807 := by
  simpa [Lit.wf, IntKind.min, IntKind.max, IntKind.signed, IntKind.bits] using h

theorem strs_open {H : Type} {enc : TypeId × Value → H} {W : World} {a : Option Addr} {len cap : Nat} {d : DataW H} {p : List MemPlace}
    (h : DataW.Trod enc Tryz.prog W 0 (fun _ => true) true 50 (.slice a len cap) d p) : ∃ ss : List ByteArray, Sl.StrsAt W a len ss ∧ ss.length = len ∧ len ≤ cap ∧ ∀ s, s ∈ ss → s.size ≤ 9223372036854775807 := by
  obtain ⟨fuel, hf⟩ := h
  rcases Go.Deep.open_strs Tryz.underlying50 Tryz.underlying9 cells_9 hf with ⟨hcs, _⟩ | ⟨a', len', cap', m, Sx, hcs, _, hl, _, hm, _, hx⟩
  · simp [Value.cells] at hcs
    obtain ⟨rfl, rfl, rfl⟩ := hcs
    exact ⟨[], fun k hk => by omega, rfl, Nat.le_refl _, by simp⟩
  · simp [Value.cells] at hcs
    obtain ⟨rfl, rfl, rfl⟩ := hcs
    simp only [if_true] at hm
    refine ⟨(List.range len).map Sx, fun k hk => ?_, by simp, hl, fun s hs => ?_⟩
    · have h0 := (hx 0 (by omega)).1
      obtain ⟨b, o, spot⟩ := a'
      have hspot : spot = none := by simpa [Addr.add] using World.cell?_spot h0
      subst hspot
      refine ⟨b, o, rfl, ?_⟩
      rw [← add_plain, (hx k (by omega)).1]
      simp [List.getD, hk]
    · obtain ⟨k, hk, rfl⟩ := List.mem_map.1 hs
      exact (hx k (by have := List.mem_range.1 hk; omega)).2

end Go.Proofs.YtgdlfiejjnjcpaaGreat.Lf
