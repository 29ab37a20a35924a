/-
  THE FRAME of the rows: a slice of ints and a slice of spans that came in, as lists. No condition.
-/
import Derived.Test.YtcillodbkgopdaaLives
import Derived.ProofKit
import Derived.OpenShut
import Derived.ChangeOld
import Derived.SizedLaws
import Derived.Deep.Slices
namespace Go.Proofs.Ytcillodbkgopdaa
open Go.ChangeShapes Go.WideShapes Go.ChangeAt Go.RowKit

theorem own : ownKnob Try.prog.godebug = none := by kernel_rfl
theorem laidOut : laidOutB Try.prog = true := by kernel_rfl
theorem cells3 : Try.prog.cellsOf 3 = 1 := by kernel_rfl
theorem cells38 : Try.prog.cellsOf 38 = 3 := by kernel_rfl

theorem i64_of_wf {n : Int} (h : (Lit.int .i64 n).wf = true) : -9223372036854775808 ≤ n ∧ n ≤ 9223372036854775807 := by
  simpa [Lit.wf, IntKind.min, IntKind.max, IntKind.signed, IntKind.bits] using h

instance : Inhabited Sp := ⟨Sp.z⟩

section
variable {H : Type} {enc : TypeId × Value → H} {W : World} {a : Option Addr} {len cap : Nat} {d : DataW H} {p : List MemPlace}

theorem ints_open (h : DataW.Trod enc Try.prog W 0 (fun _ => true) true 22 (.slice a len cap) d p) : ∃ zs, IntsAt W W.heap.size a len zs ∧ len ≤ cap := by
  obtain ⟨fuel, hf⟩ := h
  rcases open_ints Try.underlying22 Try.underlying3 (by kernel_rfl) hf with ⟨hcs, _⟩ | ⟨x, l, c, zs, hcs, _, hl, hm, hz, hx, hcell, hwz⟩
  · simp [Value.cells] at hcs
    obtain ⟨rfl, rfl, rfl⟩ := hcs
    exact ⟨[], ⟨rfl, by simp, by intro k hk; omega⟩, by omega⟩
  · simp [Value.cells] at hcs
    obtain ⟨rfl, rfl, rfl⟩ := hcs
    have hz' : zs.length = cap := by simpa using hz
    refine ⟨zs.take len, ⟨by simp; omega, ?_, ?_⟩, hl⟩
    · intro z hzm
      exact i64_of_wf (hwz z (List.mem_of_mem_take hzm))
    · intro k hk
      obtain ⟨b, off, rfl, hc⟩ := ints_at hcell (by omega)
      have hk' := hc k (by omega)
      refine ⟨b, off, rfl, World.block_lt_of_cell? W _ hk', ?_⟩
      rw [hk']
      simp [List.getD, hk]

/-- THE THREE CELLS of a span. -/
theorem sp_cells {fuel : Nat} {cs : List Value} {x : DataW H × List MemPlace} {base : Nat} {spare : Nat → Bool} {held : Bool} (h : DataW.trod enc Try.prog W base spare held fuel 38 cs = some x) :
    ∃ s : Sp, cs = [.int .i64 s.at_, .int .i64 s.st, .int .i64 s.len] ∧ s.fit := by
  obtain ⟨xs, n, _, _, hl, hlen, hf⟩ := DataW.trod_struct Try.underlying38 h
  rw [cells38] at hl
  have hlen' : xs.length = 3 := hlen
  match cs, hl, xs, hlen' with
  | [u, v, t], _, [y0, y1, y2], _ =>
    have t0 : List.take (Try.prog.cellsOf 3) (List.drop 0 [u, v, t]) = [u] := by rw [cells3]; rfl
    have t1 : List.take (Try.prog.cellsOf 3) (List.drop 1 [u, v, t]) = [v] := by rw [cells3]; rfl
    have t2 : List.take (Try.prog.cellsOf 3) (List.drop 2 [u, v, t]) = [t] := by rw [cells3]; rfl
    have h0 : DataW.trod enc Try.prog W base spare held n 3 [u] = some y0 := by rw [← t0]; exact hf 0 _ rfl
    have h1 : DataW.trod enc Try.prog W base spare held n 3 [v] = some y1 := by rw [← t1]; exact hf 1 _ rfl
    have h2 : DataW.trod enc Try.prog W base spare held n 3 [t] = some y2 := by rw [← t2]; exact hf 2 _ rfl
    clear t0 t1 t2 hf
    obtain ⟨n0, e0, _, w0⟩ := DataW.trod_int Try.underlying3 h0
    obtain ⟨n1, e1, _, w1⟩ := DataW.trod_int Try.underlying3 h1
    obtain ⟨n2, e2, _, w2⟩ := DataW.trod_int Try.underlying3 h2
    refine ⟨⟨n0, n1, n2⟩, ?_, i64_of_wf w0, i64_of_wf w1, i64_of_wf w2⟩
    simp at e0 e1 e2
    rw [e0, e1, e2]

theorem sps_open (h : DataW.Trod enc Try.prog W 0 (fun _ => true) true 23 (.slice a len cap) d p) : ∃ l : List Sp, SpsAt W W.heap.size a len l ∧ len ≤ 9223372036854775807 := by
  obtain ⟨fuel, hf⟩ := h
  rcases Go.Deep.open_slice Try.underlying23 hf with ⟨hcs, _⟩ | ⟨a', len', cap', m, n, D, Pl, hcs, _, hl, hmx, hm, _, hx⟩
  · simp [Value.cells] at hcs
    obtain ⟨rfl, rfl, rfl⟩ := hcs
    exact ⟨[], ⟨rfl, by simp, fun k hk => by omega⟩, by omega⟩
  · simp [Value.cells] at hcs
    obtain ⟨rfl, rfl, rfl⟩ := hcs
    simp only [if_true] at hm
    have hspot : 0 < len → a'.spot = none := fun h0 => by
      obtain ⟨cs, h1, h2⟩ := hx 0 (by omega)
      obtain ⟨s, rfl, _⟩ := sp_cells h2
      rw [cells38] at h1
      obtain ⟨_, _, h3⟩ := World.cells?_some h1
      have h4 := h3 0 (by omega)
      simpa [Addr.add] using World.cell?_spot h4
    have each : ∀ k, k < len → ∃ s : Sp, s.fit ∧ ∃ b o, some a' = some ⟨b, o, none⟩ ∧ W.cell? ⟨b, o + k * 3, none⟩ = some (.int .i64 s.at_) ∧ W.cell? ⟨b, o + k * 3 + 1, none⟩ = some (.int .i64 s.st) ∧ W.cell? ⟨b, o + k * 3 + 2, none⟩ = some (.int .i64 s.len) := fun k hk => by
      obtain ⟨cs, h1, h2⟩ := hx k (by omega)
      rw [cells38] at h1
      obtain ⟨s, rfl, hfit⟩ := sp_cells h2
      obtain ⟨_, _, h3⟩ := World.cells?_some h1
      obtain ⟨b, o, spot⟩ := a'
      have hs : spot = none := hspot (by omega)
      subst hs
      refine ⟨s, hfit, b, o, rfl, ?_, ?_, ?_⟩
      · have := h3 0 (by omega); simpa [add_plain] using this
      · have := h3 1 (by omega); simpa [add_plain] using this
      · have := h3 2 (by omega); simpa [add_plain] using this
    obtain ⟨f, hf2⟩ := Go.Deep.choose_lt each
    refine ⟨(List.range len).map f, ⟨by simp, ?_, fun k hk => ?_⟩, by unfold maxLen at hmx; omega⟩
    · intro s hs
      obtain ⟨k, hk, rfl⟩ := List.mem_map.1 hs
      exact (hf2 k (List.mem_range.1 hk)).1
    · obtain ⟨_, b, o, e, h1, h2, h3⟩ := hf2 k hk
      have : ((List.range len).map f).getD k Sp.z = f k := by simp [List.getD, hk]
      rw [this]
      exact ⟨b, o, e, World.block_lt_of_cell? W _ h1, h1, h2, h3⟩
end
end Go.Proofs.Ytcillodbkgopdaa
