/-
  THE FRAME of the rows: a step and a slice of steps that came in. No condition.
-/
import Derived.Test.YtbkgfkemjhaopaaGreatFL
import Derived.ShutString
import Derived.ProofKit
import Derived.OpenShut
import Derived.ChangeOld
import Derived.SizedLaws
import Derived.Deep.Slices
set_option linter.unusedVariables false
set_option linter.unusedSimpArgs false
set_option maxRecDepth 100000
namespace Go.Proofs.YtbkgfkemjhaopaaGreat.Dl
open Go.ChangeShapes Go.WideShapes Go.ChangeAt Go.RowKit
open Go.ChangeMaps (open_string shut_string)
open Kr (I64)

theorem own : ownKnob Tryz.prog.godebug = none := by kernel_rfl
theorem laidOut : laidOutB Tryz.prog = true := by kernel_rfl
theorem cells_3 : Tryz.prog.cellsOf 3 = 1 := by kernel_rfl
theorem cells_30 : Tryz.prog.cellsOf 30 = 2 := by kernel_rfl
theorem i64_of_wf {n : Int} (h : (Lit.int .i64 n).wf = true) : -9223372036854775808 ≤ n ∧ n ≤ 9223372036854775807 := by
  simpa [Lit.wf, IntKind.min, IntKind.max, IntKind.signed, IntKind.bits] using h
theorem op_cells {H : Type} {enc : TypeId × Value → H} {W : World} {fuel : Nat} {cs : List Value} {x : DataW H × List MemPlace} (h : DataW.trod enc Tryz.prog W 0 (fun _ => true) true fuel 30 cs = some x) :
    ∃ o : OpS, cs = [.int .i64 o.k, .int .i64 o.n] ∧ o.fit := by
  obtain ⟨xs, n, _, _, hl, hlen, hf⟩ := DataW.trod_struct Tryz.underlying30 h
  rw [cells_30] at hl
  have hlen' : xs.length = 2 := hlen
  match cs, hl, xs, hlen' with
  | [u, v], _, [y0, y1], _ =>
    have t0 : List.take (Tryz.prog.cellsOf 3) (List.drop 0 [u, v]) = [u] := by rw [cells_3]; rfl
    have t1 : List.take (Tryz.prog.cellsOf 3) (List.drop 1 [u, v]) = [v] := by rw [cells_3]; rfl
    have h0 : DataW.trod enc Tryz.prog W 0 (fun _ => true) true n 3 [u] = some y0 := by rw [← t0]; exact hf 0 _ rfl
    have h1 : DataW.trod enc Tryz.prog W 0 (fun _ => true) true n 3 [v] = some y1 := by rw [← t1]; exact hf 1 _ rfl
    clear t0 t1 hf
    obtain ⟨n0, e0, _, w0⟩ := DataW.trod_int Tryz.underlying3 h0
    obtain ⟨n1, e1, _, w1⟩ := DataW.trod_int Tryz.underlying3 h1
    refine ⟨⟨n0, n1⟩, ?_, i64_of_wf w0, i64_of_wf w1⟩
    simp at e0 e1
    rw [e0, e1]
theorem op2_open {H : Type} {enc : TypeId × Value → H} {W : World} {base : Nat} {v : Value} {d : DataW H} {p : List MemPlace} (hv : Value.okWide Tryz.prog W .any base 30 v) (h : DataW.Trod enc Tryz.prog W 0 (fun _ => true) true 30 v d p) :
    ∃ o : OpS, v = opv o ∧ o.fit := by
  unfold Value.okWide at hv
  rw [Tryz.underlying30] at hv
  obtain ⟨cs, rfl, _, _⟩ := hv
  obtain ⟨fuel, hf⟩ := h
  obtain ⟨o, e, h1⟩ := op_cells hf
  refine ⟨o, ?_, h1⟩
  simp [Value.cells] at e
  congr 1
  apply Array.ext'
  rw [e]
def OpS.z : OpS := ⟨0, 0⟩
instance : Inhabited OpS := ⟨OpS.z⟩
/-- the slice at A with n elements reads as the steps l, and lies below block B. -/
def OpsAt (w : World) (B : Nat) (A : Option Addr) (n : Nat) (l : List OpS) : Prop :=
  l.length = n ∧ (∀ o ∈ l, o.fit) ∧ ∀ k, k < n → ∃ b o, A = some ⟨b, o, none⟩ ∧ b < B ∧ w.cell? ⟨b, o + k * 2, none⟩ = some (.int .i64 (l.getD k OpS.z).k) ∧ w.cell? ⟨b, o + k * 2 + 1, none⟩ = some (.int .i64 (l.getD k OpS.z).n)
theorem ops_open {H : Type} {enc : TypeId × Value → H} {W : World} {a : Option Addr} {len cap : Nat} {d : DataW H} {p : List MemPlace}
    (h : DataW.Trod enc Tryz.prog W 0 (fun _ => true) true 22 (.slice a len cap) d p) : ∃ l : List OpS, OpsAt W W.heap.size a len l ∧ len ≤ cap := by
  obtain ⟨fuel, hf⟩ := h
  rcases Go.Deep.open_slice Tryz.underlying22 hf with ⟨hcs, _⟩ | ⟨a', len', cap', m, n, D, Pl, hcs, _, hl, hmx, hm, _, hx⟩
  · simp [Value.cells] at hcs
    obtain ⟨rfl, rfl, rfl⟩ := hcs
    exact ⟨[], ⟨rfl, by simp, fun k hk => by omega⟩, Nat.le_refl _⟩
  · simp [Value.cells] at hcs
    obtain ⟨rfl, rfl, rfl⟩ := hcs
    simp only [if_true] at hm
    have hspot : 0 < len → a'.spot = none := fun h0 => by
      obtain ⟨cs, h1, h2⟩ := hx 0 (by omega)
      rw [cells_30] at h1
      obtain ⟨o, rfl, _⟩ := op_cells h2
      obtain ⟨_, _, h3⟩ := World.cells?_some h1
      have h4 := h3 0 (by omega)
      simpa [Addr.add] using World.cell?_spot h4
    have each : ∀ k, k < len → ∃ s : OpS, s.fit ∧ ∃ b o, some a' = some ⟨b, o, none⟩ ∧ W.cell? ⟨b, o + k * 2, none⟩ = some (.int .i64 s.k) ∧ W.cell? ⟨b, o + k * 2 + 1, none⟩ = some (.int .i64 s.n) := fun k hk => by
      obtain ⟨cs, h1, h2⟩ := hx k (by omega)
      rw [cells_30] at h1
      obtain ⟨s, rfl, hfit⟩ := op_cells h2
      obtain ⟨_, _, h3⟩ := World.cells?_some h1
      obtain ⟨b, o, spot⟩ := a'
      have hs : spot = none := hspot (by omega)
      subst hs
      refine ⟨s, hfit, b, o, rfl, ?_, ?_⟩
      · have := h3 0 (by omega); simpa [add_plain] using this
      · have := h3 1 (by omega); simpa [add_plain] using this
    obtain ⟨f, hf2⟩ := Go.Deep.choose_lt each
    refine ⟨(List.range len).map f, ⟨by simp, ?_, fun k hk => ?_⟩, hl⟩
    · intro s hs
      obtain ⟨k, hk, rfl⟩ := List.mem_map.1 hs
      exact (hf2 k (List.mem_range.1 hk)).1
    · obtain ⟨_, b, o, e, h1, h2⟩ := hf2 k hk
      have : ((List.range len).map f).getD k OpS.z = f k := by simp [List.getD, hk]
      rw [this]
      exact ⟨b, o, e, World.block_lt_of_cell? W _ h1, h1, h2⟩
section
variable {w w' : World} {B : Nat} {A : Option Addr} {n : Nat} {l : List OpS}
theorem OpsAt.below {C : Nat} (h : OpsAt w B A n l) (hb : Below C w w') (hBC : B ≤ C) : OpsAt w' B A n l :=
  ⟨h.1, h.2.1, fun k hk => by
    obtain ⟨b, o, e, hB, h1, h2⟩ := h.2.2 k hk
    exact ⟨b, o, e, hB, (hb.cell (p := ⟨b, o + k * 2, none⟩) (by show b < C; omega)).trans h1, (hb.cell (p := ⟨b, o + k * 2 + 1, none⟩) (by show b < C; omega)).trans h2⟩⟩
theorem OpsAt.take (h : OpsAt w B A n l) (m : Nat) (hm : m ≤ n) : OpsAt w B A m (l.take m) :=
  ⟨by rw [List.length_take, h.1]; omega, fun o ho => h.2.1 o (List.mem_of_mem_take ho), fun k hk => by
    obtain ⟨b, o, e, hB, h1, h2⟩ := h.2.2 k (by omega)
    have e2 : (l.take m).getD k OpS.z = l.getD k OpS.z := by simp [List.getD, hk]
    rw [e2]
    exact ⟨b, o, e, hB, h1, h2⟩⟩
theorem OpsAt.op (h : OpsAt w B A n l) {k : Nat} (hk : k < n) : ∃ b o, A = some ⟨b, o, none⟩ ∧ b < B ∧ w.cell? ⟨b, o + k * 2, none⟩ = some (.int .i64 (l.getD k OpS.z).k) ∧ w.cell? ⟨b, o + k * 2 + 1, none⟩ = some (.int .i64 (l.getD k OpS.z).n) ∧ (l.getD k OpS.z).fit := by
  obtain ⟨b, o, e, hB, h1, h2⟩ := h.2.2 k hk
  refine ⟨b, o, e, hB, h1, h2, h.2.1 _ ?_⟩
  have hl : k < l.length := by rw [h.1]; exact hk
  rw [List.getD, List.getElem?_eq_getElem hl]
  exact List.getElem_mem hl
end
end Go.Proofs.YtbkgfkemjhaopaaGreat.Dl
