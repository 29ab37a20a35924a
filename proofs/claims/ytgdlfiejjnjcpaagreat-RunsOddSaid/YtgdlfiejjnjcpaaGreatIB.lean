/-
  THE FRAME of the rows: a card that came in, its lists as lists; an array of two ints. No condition.
-/
import Derived.Test.YtgdlfiejjnjcpaaGreatHN
import Derived.ShutString
import Derived.ProofKit
import Derived.OpenShut
import Derived.ChangeOld
import Derived.SizedLaws
import Derived.Deep.Slices
namespace Go.Proofs.YtgdlfiejjnjcpaaGreat.Cf
set_option maxRecDepth 100000
open Go.ChangeShapes Go.WideShapes Go.ChangeAt Go.RowKit
open Go.ChangeMaps (open_string shut_string)

theorem own : ownKnob Tryz.prog.godebug = none := by kernel_rfl
theorem laidOut : laidOutB Tryz.prog = true := by kernel_rfl
theorem cells3 : Tryz.prog.cellsOf 3 = 1 := by kernel_rfl
theorem cells48 : Tryz.prog.cellsOf 85 = 3 := by kernel_rfl

theorem i64_of_wf {n : Int} (h : (Lit.int .i64 n).wf = true) : -9223372036854775808 ≤ n ∧ n ≤ 9223372036854775807 := by
  simpa [Lit.wf, IntKind.min, IntKind.max, IntKind.signed, IntKind.bits] using h

instance : Inhabited Sp := ⟨Sp.z⟩

section
variable {H : Type} {enc : TypeId × Value → H} {W : World} {a : Option Addr} {len cap : Nat} {d : DataW H} {p : List MemPlace}

theorem ints_open (h : DataW.Trod enc Tryz.prog W 0 (fun _ => true) true 27 (.slice a len cap) d p) : ∃ zs, IntsAt W W.heap.size a len zs ∧ len ≤ 9223372036854775807 := by
  obtain ⟨fuel, hf⟩ := h
  rcases open_ints Tryz.underlying27 Tryz.underlying3 (by kernel_rfl) hf with ⟨hcs, _⟩ | ⟨x, l, c, zs, hcs, _, hl, hm, hz, hx, hcell, hwz⟩
  · simp [Value.cells] at hcs
    obtain ⟨rfl, rfl, rfl⟩ := hcs
    exact ⟨[], ⟨rfl, by simp, by intro k hk; omega⟩, by omega⟩
  · simp [Value.cells] at hcs
    obtain ⟨rfl, rfl, rfl⟩ := hcs
    have hz' : zs.length = cap := by simpa using hz
    refine ⟨zs.take len, ⟨by simp; omega, ?_, ?_⟩, by unfold maxLen at hm; omega⟩
    · intro z hzm
      exact i64_of_wf (hwz z (List.mem_of_mem_take hzm))
    · intro k hk
      obtain ⟨b, off, rfl, hc⟩ := Go.ints_at hcell (by omega)
      have hk' := hc k (by omega)
      refine ⟨b, off, rfl, World.block_lt_of_cell? W _ hk', ?_⟩
      rw [hk']
      simp [List.getD, hk]

/-- THE THREE CELLS of a span. -/
theorem sp_cells {fuel : Nat} {cs : List Value} {x : DataW H × List MemPlace} {base : Nat} {spare : Nat → Bool} {held : Bool} (h : DataW.trod enc Tryz.prog W base spare held fuel 85 cs = some x) :
    ∃ s : Sp, cs = [.int .i64 s.at_, .int .i64 s.st, .int .i64 s.len] ∧ s.fit := by
  obtain ⟨xs, n, _, _, hl, hlen, hf⟩ := DataW.trod_struct Tryz.underlying85 h
  rw [cells48] at hl
  have hlen' : xs.length = 3 := hlen
  match cs, hl, xs, hlen' with
  | [u, v, t], _, [y0, y1, y2], _ =>
    have t0 : List.take (Tryz.prog.cellsOf 3) (List.drop 0 [u, v, t]) = [u] := by rw [cells3]; rfl
    have t1 : List.take (Tryz.prog.cellsOf 3) (List.drop 1 [u, v, t]) = [v] := by rw [cells3]; rfl
    have t2 : List.take (Tryz.prog.cellsOf 3) (List.drop 2 [u, v, t]) = [t] := by rw [cells3]; rfl
    have h0 : DataW.trod enc Tryz.prog W base spare held n 3 [u] = some y0 := by rw [← t0]; exact hf 0 _ rfl
    have h1 : DataW.trod enc Tryz.prog W base spare held n 3 [v] = some y1 := by rw [← t1]; exact hf 1 _ rfl
    have h2 : DataW.trod enc Tryz.prog W base spare held n 3 [t] = some y2 := by rw [← t2]; exact hf 2 _ rfl
    clear t0 t1 t2 hf
    obtain ⟨n0, e0, _, w0⟩ := DataW.trod_int Tryz.underlying3 h0
    obtain ⟨n1, e1, _, w1⟩ := DataW.trod_int Tryz.underlying3 h1
    obtain ⟨n2, e2, _, w2⟩ := DataW.trod_int Tryz.underlying3 h2
    refine ⟨⟨n0, n1, n2⟩, ?_, i64_of_wf w0, i64_of_wf w1, i64_of_wf w2⟩
    simp at e0 e1 e2
    rw [e0, e1, e2]

theorem sps_open (h : DataW.Trod enc Tryz.prog W 0 (fun _ => true) true 28 (.slice a len cap) d p) : ∃ l : List Sp, SpsAt W W.heap.size a len l ∧ len ≤ 9223372036854775807 := by
  obtain ⟨fuel, hf⟩ := h
  rcases Go.Deep.open_slice Tryz.underlying28 hf with ⟨hcs, _⟩ | ⟨a', len', cap', m, n, D, Pl, hcs, _, hl, hmx, hm, _, hx⟩
  · simp [Value.cells] at hcs
    obtain ⟨rfl, rfl, rfl⟩ := hcs
    exact ⟨[], ⟨rfl, by simp, fun k hk => by omega⟩, by omega⟩
  · simp [Value.cells] at hcs
    obtain ⟨rfl, rfl, rfl⟩ := hcs
    simp only [if_true] at hm
    have hspot : 0 < len → a'.spot = none := fun h0 => by
      obtain ⟨cs, h1, h2⟩ := hx 0 (by omega)
      obtain ⟨s, rfl, _⟩ := sp_cells h2
      rw [cells48] at h1
      obtain ⟨_, _, h3⟩ := World.cells?_some h1
      have h4 := h3 0 (by omega)
      simpa [Addr.add] using World.cell?_spot h4
    have each : ∀ k, k < len → ∃ s : Sp, s.fit ∧ ∃ b o, some a' = some ⟨b, o, none⟩ ∧ W.cell? ⟨b, o + k * 3, none⟩ = some (.int .i64 s.at_) ∧ W.cell? ⟨b, o + k * 3 + 1, none⟩ = some (.int .i64 s.st) ∧ W.cell? ⟨b, o + k * 3 + 2, none⟩ = some (.int .i64 s.len) := fun k hk => by
      obtain ⟨cs, h1, h2⟩ := hx k (by omega)
      rw [cells48] at h1
      obtain ⟨s, rfl, hfit⟩ := sp_cells h2
      obtain ⟨_, _, h3⟩ := World.cells?_some h1
      obtain ⟨b, o, spot⟩ := a'
      have hs : spot = none := hspot (by omega)
      subst hs
      refine ⟨s, hfit, b, o, rfl, ?_, ?_, ?_⟩
      · have := h3 0 (by omega); simpa [add_plain] using this
      · have := h3 1 (by omega); simpa [add_plain] using this
      · have := h3 2 (by omega); simpa [add_plain] using this
    obtain ⟨f, hf2⟩ := Go.Deep.choose_lt each
    refine ⟨(List.range len).map f, ⟨by simp, ?_, fun k hk => ?_⟩, by unfold maxLen at hmx; omega⟩
    · intro s hs
      obtain ⟨k, hk, rfl⟩ := List.mem_map.1 hs
      exact (hf2 k (List.mem_range.1 hk)).1
    · obtain ⟨_, b, o, e, h1, h2, h3⟩ := hf2 k hk
      have : ((List.range len).map f).getD k Sp.z = f k := by simp [List.getD, hk]
      rw [this]
      exact ⟨b, o, e, World.block_lt_of_cell? W _ h1, h1, h2, h3⟩
end
theorem cells22 : Tryz.prog.cellsOf 27 = 1 := by kernel_rfl
theorem cells23 : Tryz.prog.cellsOf 28 = 1 := by kernel_rfl
theorem cells25 : Tryz.prog.cellsOf 30 = 9 := by kernel_rfl

/-- THE NINE CELLS of a card. -/
theorem cd_cells {H : Type} {enc : TypeId × Value → H} {W : World} {fuel : Nat} {cs : List Value} {x : DataW H × List MemPlace} (h : DataW.trod enc Tryz.prog W 0 (fun _ => true) true fuel 30 cs = some x) :
    ∃ (c : Cd) (A : Option Addr) (n k : Nat) (A' : Option Addr) (n' k' : Nat), cs = (cells9 c A n k A' n' k').toList ∧ IntsAt W W.heap.size A n c.ps ∧ SpsAt W W.heap.size A' n' c.rs ∧ n ≤ 9223372036854775807 ∧ n' ≤ 9223372036854775807 ∧ c.fit := by
  obtain ⟨xs, n, _, _, hl, hlen, hf⟩ := DataW.trod_struct Tryz.underlying30 h
  rw [cells25] at hl
  have hlen' : xs.length = 9 := hlen
  match cs, hl, xs, hlen' with
  | [a0, a1, a2, a3, a4, a5, a6, a7, a8], _, [y0, y1, y2, y3, y4, y5, y6, y7, y8], _ =>
    have t0 : List.take (Tryz.prog.cellsOf 3) (List.drop 0 [a0, a1, a2, a3, a4, a5, a6, a7, a8]) = [a0] := by rw [cells3]; rfl
    have h0 : DataW.trod enc Tryz.prog W 0 (fun _ => true) true n 3 [a0] = some y0 := by rw [← t0]; exact hf 0 _ rfl
    have t1 : List.take (Tryz.prog.cellsOf 3) (List.drop 1 [a0, a1, a2, a3, a4, a5, a6, a7, a8]) = [a1] := by rw [cells3]; rfl
    have h1 : DataW.trod enc Tryz.prog W 0 (fun _ => true) true n 3 [a1] = some y1 := by rw [← t1]; exact hf 1 _ rfl
    have t2 : List.take (Tryz.prog.cellsOf 3) (List.drop 2 [a0, a1, a2, a3, a4, a5, a6, a7, a8]) = [a2] := by rw [cells3]; rfl
    have h2 : DataW.trod enc Tryz.prog W 0 (fun _ => true) true n 3 [a2] = some y2 := by rw [← t2]; exact hf 2 _ rfl
    have t3 : List.take (Tryz.prog.cellsOf 3) (List.drop 3 [a0, a1, a2, a3, a4, a5, a6, a7, a8]) = [a3] := by rw [cells3]; rfl
    have h3 : DataW.trod enc Tryz.prog W 0 (fun _ => true) true n 3 [a3] = some y3 := by rw [← t3]; exact hf 3 _ rfl
    have t4 : List.take (Tryz.prog.cellsOf 27) (List.drop 4 [a0, a1, a2, a3, a4, a5, a6, a7, a8]) = [a4] := by rw [cells22]; rfl
    have h4 : DataW.trod enc Tryz.prog W 0 (fun _ => true) true n 27 [a4] = some y4 := by rw [← t4]; exact hf 4 _ rfl
    have t5 : List.take (Tryz.prog.cellsOf 3) (List.drop 5 [a0, a1, a2, a3, a4, a5, a6, a7, a8]) = [a5] := by rw [cells3]; rfl
    have h5 : DataW.trod enc Tryz.prog W 0 (fun _ => true) true n 3 [a5] = some y5 := by rw [← t5]; exact hf 5 _ rfl
    have t6 : List.take (Tryz.prog.cellsOf 3) (List.drop 6 [a0, a1, a2, a3, a4, a5, a6, a7, a8]) = [a6] := by rw [cells3]; rfl
    have h6 : DataW.trod enc Tryz.prog W 0 (fun _ => true) true n 3 [a6] = some y6 := by rw [← t6]; exact hf 6 _ rfl
    have t7 : List.take (Tryz.prog.cellsOf 28) (List.drop 7 [a0, a1, a2, a3, a4, a5, a6, a7, a8]) = [a7] := by rw [cells23]; rfl
    have h7 : DataW.trod enc Tryz.prog W 0 (fun _ => true) true n 28 [a7] = some y7 := by rw [← t7]; exact hf 7 _ rfl
    have t8 : List.take (Tryz.prog.cellsOf 3) (List.drop 8 [a0, a1, a2, a3, a4, a5, a6, a7, a8]) = [a8] := by rw [cells3]; rfl
    have h8 : DataW.trod enc Tryz.prog W 0 (fun _ => true) true n 3 [a8] = some y8 := by rw [← t8]; exact hf 8 _ rfl
    clear t0 t1 t2 t3 t4 t5 t6 t7 t8 hf
    obtain ⟨n0, e0, _, w0⟩ := DataW.trod_int Tryz.underlying3 h0
    obtain ⟨n1, e1, _, w1⟩ := DataW.trod_int Tryz.underlying3 h1
    obtain ⟨n2, e2, _, w2⟩ := DataW.trod_int Tryz.underlying3 h2
    obtain ⟨n3, e3, _, w3⟩ := DataW.trod_int Tryz.underlying3 h3
    obtain ⟨n5, e5, _, w5⟩ := DataW.trod_int Tryz.underlying3 h5
    obtain ⟨n6, e6, _, w6⟩ := DataW.trod_int Tryz.underlying3 h6
    obtain ⟨n8, e8, _, w8⟩ := DataW.trod_int Tryz.underlying3 h8
    have e4 : ∃ (A : Option Addr) (n c : Nat), a4 = .slice A n c := by
      rcases DataW.trod_slice Tryz.underlying27 h4 with ⟨e, _⟩ | ⟨a, len, cap, _, _, _, _, e, _⟩
      · exact ⟨none, 0, 0, by simpa using e⟩
      · exact ⟨some a, len, cap, by simpa using e⟩
    have e7 : ∃ (A : Option Addr) (n c : Nat), a7 = .slice A n c := by
      rcases DataW.trod_slice Tryz.underlying28 h7 with ⟨e, _⟩ | ⟨a, len, cap, _, _, _, _, e, _⟩
      · exact ⟨none, 0, 0, by simpa using e⟩
      · exact ⟨some a, len, cap, by simpa using e⟩
    obtain ⟨A, m, c, rfl⟩ := e4
    obtain ⟨A', m', c', rfl⟩ := e7
    obtain ⟨ps, i4, b4⟩ := ints_open (d := y4.1) (p := y4.2) ⟨n, h4⟩
    obtain ⟨rs, s7, b7⟩ := sps_open (d := y7.1) (p := y7.2) ⟨n, h7⟩
    refine ⟨⟨n0, n1, n2, n3, ps, n5, n6, rs, n8⟩, A, m, c, A', m', c', ?_, i4, s7, b4, b7, i64_of_wf w0, i64_of_wf w1, i64_of_wf w2, i64_of_wf w3, i64_of_wf w5, i64_of_wf w6, i64_of_wf w8⟩
    simp at e0 e1 e2 e3 e5 e6 e8
    rw [e0, e1, e2, e3, e5, e6, e8]

theorem cd_open {H : Type} {enc : TypeId × Value → H} {W : World} {base : Nat} {v : Value} {d : DataW H} {p : List MemPlace} (hv : Value.okWide Tryz.prog W .any base 30 v) (h : DataW.Trod enc Tryz.prog W 0 (fun _ => true) true 30 v d p) :
    ∃ c : Cd, v = v ∧ CdAt W W.heap.size v c := by
  unfold Value.okWide at hv
  rw [Tryz.underlying30] at hv
  obtain ⟨cs, rfl, _, _⟩ := hv
  obtain ⟨fuel, hf⟩ := h
  obtain ⟨c, A, n, k, A', n', k', e, h1, h2, h3, h4, h5⟩ := cd_cells hf
  refine ⟨c, rfl, A, n, k, A', n', k', ?_, h1, h2, h3, h4, h5⟩
  simp [Value.cells] at e
  congr 1
  apply Array.ext'
  rw [e]
section
variable {H : Type} {enc : TypeId × Value → H} {w : World} {base : Nat} {spare : Nat → Bool} {held : Bool}

end

end Go.Proofs.YtgdlfiejjnjcpaaGreat.Cf