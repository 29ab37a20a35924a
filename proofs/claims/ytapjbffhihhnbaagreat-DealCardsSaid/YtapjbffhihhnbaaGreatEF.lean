/-
  THE FRAME of the rows: a step and a slice of steps that came in, their texts and lists as texts and lists. No condition.
-/
import Derived.Test.YtapjbffhihhnbaaGreatEA
import Derived.ShutString
import Derived.ProofKit
import Derived.OpenShut
import Derived.ChangeOld
import Derived.SizedLaws
import Derived.Deep.Slices
set_option linter.unusedVariables false
set_option linter.unusedSimpArgs false
set_option maxRecDepth 100000
namespace Go.Proofs.YtapjbffhihhnbaaGreat.Dl
open Go.ChangeShapes Go.WideShapes Go.ChangeAt Go.RowKit
open Go.ChangeMaps (open_string shut_string)

theorem own : ownKnob Tryz.prog.godebug = none := by kernel_rfl
theorem laidOut : laidOutB Tryz.prog = true := by kernel_rfl
theorem cells_3 : Tryz.prog.cellsOf 3 = 1 := by kernel_rfl
theorem cells_121 : Tryz.prog.cellsOf 121 = 3 := by kernel_rfl

theorem i64_of_wf {n : Int} (h : (Lit.int .i64 n).wf = true) : -9223372036854775808 ≤ n ∧ n ≤ 9223372036854775807 := by
  simpa [Lit.wf, IntKind.min, IntKind.max, IntKind.signed, IntKind.bits] using h

instance : Inhabited Sp := ⟨Sp.z⟩

section
variable {H : Type} {enc : TypeId × Value → H} {W : World} {a : Option Addr} {len cap : Nat} {d : DataW H} {p : List MemPlace}

theorem ints_open (h : DataW.Trod enc Tryz.prog W 0 (fun _ => true) true 37 (.slice a len cap) d p) : ∃ zs, IntsAt W W.heap.size a len zs ∧ len ≤ 9223372036854775807 := by
  obtain ⟨fuel, hf⟩ := h
  rcases open_ints Tryz.underlying37 Tryz.underlying3 (by kernel_rfl) hf with ⟨hcs, _⟩ | ⟨x, l, c, zs, hcs, _, hl, hm, hz, hx, hcell, hwz⟩
  · simp [Value.cells] at hcs
    obtain ⟨rfl, rfl, rfl⟩ := hcs
    exact ⟨[], ⟨rfl, by simp, by intro k hk; omega⟩, by omega⟩
  · simp [Value.cells] at hcs
    obtain ⟨rfl, rfl, rfl⟩ := hcs
    have hz' : zs.length = cap := by simpa using hz
    refine ⟨zs.take len, ⟨by simp; omega, ?_, ?_⟩, by unfold maxLen at hm; omega⟩
    · intro z hzm
      exact i64_of_wf (hwz z (List.mem_of_mem_take hzm))
    · intro k hk
      obtain ⟨b, off, rfl, hc⟩ := Go.ints_at hcell (by omega)
      have hk' := hc k (by omega)
      refine ⟨b, off, rfl, World.block_lt_of_cell? W _ hk', ?_⟩
      rw [hk']
      simp [List.getD, hk]

/-- THE THREE CELLS of a span. -/
theorem sp_cells {fuel : Nat} {cs : List Value} {x : DataW H × List MemPlace} {base : Nat} {spare : Nat → Bool} {held : Bool} (h : DataW.trod enc Tryz.prog W base spare held fuel 121 cs = some x) :
    ∃ s : Sp, cs = [.int .i64 s.at_, .int .i64 s.st, .int .i64 s.len] ∧ s.fit := by
  obtain ⟨xs, n, _, _, hl, hlen, hf⟩ := DataW.trod_struct Tryz.underlying121 h
  rw [cells_121] at hl
  have hlen' : xs.length = 3 := hlen
  match cs, hl, xs, hlen' with
  | [u, v, t], _, [y0, y1, y2], _ =>
    have t0 : List.take (Tryz.prog.cellsOf 3) (List.drop 0 [u, v, t]) = [u] := by rw [cells_3]; rfl
    have t1 : List.take (Tryz.prog.cellsOf 3) (List.drop 1 [u, v, t]) = [v] := by rw [cells_3]; rfl
    have t2 : List.take (Tryz.prog.cellsOf 3) (List.drop 2 [u, v, t]) = [t] := by rw [cells_3]; rfl
    have h0 : DataW.trod enc Tryz.prog W base spare held n 3 [u] = some y0 := by rw [← t0]; exact hf 0 _ rfl
    have h1 : DataW.trod enc Tryz.prog W base spare held n 3 [v] = some y1 := by rw [← t1]; exact hf 1 _ rfl
    have h2 : DataW.trod enc Tryz.prog W base spare held n 3 [t] = some y2 := by rw [← t2]; exact hf 2 _ rfl
    clear t0 t1 t2 hf
    obtain ⟨n0, e0, _, w0⟩ := DataW.trod_int Tryz.underlying3 h0
    obtain ⟨n1, e1, _, w1⟩ := DataW.trod_int Tryz.underlying3 h1
    obtain ⟨n2, e2, _, w2⟩ := DataW.trod_int Tryz.underlying3 h2
    refine ⟨⟨n0, n1, n2⟩, ?_, i64_of_wf w0, i64_of_wf w1, i64_of_wf w2⟩
    simp at e0 e1 e2
    rw [e0, e1, e2]

theorem sps_open (h : DataW.Trod enc Tryz.prog W 0 (fun _ => true) true 38 (.slice a len cap) d p) : ∃ l : List Sp, SpsAt W W.heap.size a len l ∧ len ≤ 9223372036854775807 := by
  obtain ⟨fuel, hf⟩ := h
  rcases Go.Deep.open_slice Tryz.underlying38 hf with ⟨hcs, _⟩ | ⟨a', len', cap', m, n, D, Pl, hcs, _, hl, hmx, hm, _, hx⟩
  · simp [Value.cells] at hcs
    obtain ⟨rfl, rfl, rfl⟩ := hcs
    exact ⟨[], ⟨rfl, by simp, fun k hk => by omega⟩, by omega⟩
  · simp [Value.cells] at hcs
    obtain ⟨rfl, rfl, rfl⟩ := hcs
    simp only [if_true] at hm
    have hspot : 0 < len → a'.spot = none := fun h0 => by
      obtain ⟨cs, h1, h2⟩ := hx 0 (by omega)
      obtain ⟨s, rfl, _⟩ := sp_cells h2
      rw [cells_121] at h1
      obtain ⟨_, _, h3⟩ := World.cells?_some h1
      have h4 := h3 0 (by omega)
      simpa [Addr.add] using World.cell?_spot h4
    have each : ∀ k, k < len → ∃ s : Sp, s.fit ∧ ∃ b o, some a' = some ⟨b, o, none⟩ ∧ W.cell? ⟨b, o + k * 3, none⟩ = some (.int .i64 s.at_) ∧ W.cell? ⟨b, o + k * 3 + 1, none⟩ = some (.int .i64 s.st) ∧ W.cell? ⟨b, o + k * 3 + 2, none⟩ = some (.int .i64 s.len) := fun k hk => by
      obtain ⟨cs, h1, h2⟩ := hx k (by omega)
      rw [cells_121] at h1
      obtain ⟨s, rfl, hfit⟩ := sp_cells h2
      obtain ⟨_, _, h3⟩ := World.cells?_some h1
      obtain ⟨b, o, spot⟩ := a'
      have hs : spot = none := hspot (by omega)
      subst hs
      refine ⟨s, hfit, b, o, rfl, ?_, ?_, ?_⟩
      · have := h3 0 (by omega); simpa [add_plain] using this
      · have := h3 1 (by omega); simpa [add_plain] using this
      · have := h3 2 (by omega); simpa [add_plain] using this
    obtain ⟨f, hf2⟩ := Go.Deep.choose_lt each
    refine ⟨(List.range len).map f, ⟨by simp, ?_, fun k hk => ?_⟩, by unfold maxLen at hmx; omega⟩
    · intro s hs
      obtain ⟨k, hk, rfl⟩ := List.mem_map.1 hs
      exact (hf2 k (List.mem_range.1 hk)).1
    · obtain ⟨_, b, o, e, h1, h2, h3⟩ := hf2 k hk
      have : ((List.range len).map f).getD k Sp.z = f k := by simp [List.getD, hk]
      rw [this]
      exact ⟨b, o, e, World.block_lt_of_cell? W _ h1, h1, h2, h3⟩
end
theorem cells_37 : Tryz.prog.cellsOf 37 = 1 := by kernel_rfl
theorem cells_38 : Tryz.prog.cellsOf 38 = 1 := by kernel_rfl
theorem cells_40 : Tryz.prog.cellsOf 40 = 9 := by kernel_rfl

/-- THE NINE CELLS of a card. -/
theorem cd_cells {H : Type} {enc : TypeId × Value → H} {W : World} {fuel : Nat} {cs : List Value} {x : DataW H × List MemPlace} (h : DataW.trod enc Tryz.prog W 0 (fun _ => true) true fuel 40 cs = some x) :
    ∃ (c : Cd) (A : Option Addr) (n k : Nat) (A' : Option Addr) (n' k' : Nat), cs = (cells9 c A n k A' n' k').toList ∧ IntsAt W W.heap.size A n c.ps ∧ SpsAt W W.heap.size A' n' c.rs ∧ n ≤ 9223372036854775807 ∧ n' ≤ 9223372036854775807 ∧ c.fit := by
  obtain ⟨xs, n, _, _, hl, hlen, hf⟩ := DataW.trod_struct Tryz.underlying40 h
  rw [cells_40] at hl
  have hlen' : xs.length = 9 := hlen
  match cs, hl, xs, hlen' with
  | [a0, a1, a2, a3, a4, a5, a6, a7, a8], _, [y0, y1, y2, y3, y4, y5, y6, y7, y8], _ =>
    have t0 : List.take (Tryz.prog.cellsOf 3) (List.drop 0 [a0, a1, a2, a3, a4, a5, a6, a7, a8]) = [a0] := by rw [cells_3]; rfl
    have h0 : DataW.trod enc Tryz.prog W 0 (fun _ => true) true n 3 [a0] = some y0 := by rw [← t0]; exact hf 0 _ rfl
    have t1 : List.take (Tryz.prog.cellsOf 3) (List.drop 1 [a0, a1, a2, a3, a4, a5, a6, a7, a8]) = [a1] := by rw [cells_3]; rfl
    have h1 : DataW.trod enc Tryz.prog W 0 (fun _ => true) true n 3 [a1] = some y1 := by rw [← t1]; exact hf 1 _ rfl
    have t2 : List.take (Tryz.prog.cellsOf 3) (List.drop 2 [a0, a1, a2, a3, a4, a5, a6, a7, a8]) = [a2] := by rw [cells_3]; rfl
    have h2 : DataW.trod enc Tryz.prog W 0 (fun _ => true) true n 3 [a2] = some y2 := by rw [← t2]; exact hf 2 _ rfl
    have t3 : List.take (Tryz.prog.cellsOf 3) (List.drop 3 [a0, a1, a2, a3, a4, a5, a6, a7, a8]) = [a3] := by rw [cells_3]; rfl
    have h3 : DataW.trod enc Tryz.prog W 0 (fun _ => true) true n 3 [a3] = some y3 := by rw [← t3]; exact hf 3 _ rfl
    have t4 : List.take (Tryz.prog.cellsOf 37) (List.drop 4 [a0, a1, a2, a3, a4, a5, a6, a7, a8]) = [a4] := by rw [cells_37]; rfl
    have h4 : DataW.trod enc Tryz.prog W 0 (fun _ => true) true n 37 [a4] = some y4 := by rw [← t4]; exact hf 4 _ rfl
    have t5 : List.take (Tryz.prog.cellsOf 3) (List.drop 5 [a0, a1, a2, a3, a4, a5, a6, a7, a8]) = [a5] := by rw [cells_3]; rfl
    have h5 : DataW.trod enc Tryz.prog W 0 (fun _ => true) true n 3 [a5] = some y5 := by rw [← t5]; exact hf 5 _ rfl
    have t6 : List.take (Tryz.prog.cellsOf 3) (List.drop 6 [a0, a1, a2, a3, a4, a5, a6, a7, a8]) = [a6] := by rw [cells_3]; rfl
    have h6 : DataW.trod enc Tryz.prog W 0 (fun _ => true) true n 3 [a6] = some y6 := by rw [← t6]; exact hf 6 _ rfl
    have t7 : List.take (Tryz.prog.cellsOf 38) (List.drop 7 [a0, a1, a2, a3, a4, a5, a6, a7, a8]) = [a7] := by rw [cells_38]; rfl
    have h7 : DataW.trod enc Tryz.prog W 0 (fun _ => true) true n 38 [a7] = some y7 := by rw [← t7]; exact hf 7 _ rfl
    have t8 : List.take (Tryz.prog.cellsOf 3) (List.drop 8 [a0, a1, a2, a3, a4, a5, a6, a7, a8]) = [a8] := by rw [cells_3]; rfl
    have h8 : DataW.trod enc Tryz.prog W 0 (fun _ => true) true n 3 [a8] = some y8 := by rw [← t8]; exact hf 8 _ rfl
    clear t0 t1 t2 t3 t4 t5 t6 t7 t8 hf
    obtain ⟨n0, e0, _, w0⟩ := DataW.trod_int Tryz.underlying3 h0
    obtain ⟨n1, e1, _, w1⟩ := DataW.trod_int Tryz.underlying3 h1
    obtain ⟨n2, e2, _, w2⟩ := DataW.trod_int Tryz.underlying3 h2
    obtain ⟨n3, e3, _, w3⟩ := DataW.trod_int Tryz.underlying3 h3
    obtain ⟨n5, e5, _, w5⟩ := DataW.trod_int Tryz.underlying3 h5
    obtain ⟨n6, e6, _, w6⟩ := DataW.trod_int Tryz.underlying3 h6
    obtain ⟨n8, e8, _, w8⟩ := DataW.trod_int Tryz.underlying3 h8
    have e4 : ∃ (A : Option Addr) (n c : Nat), a4 = .slice A n c := by
      rcases DataW.trod_slice Tryz.underlying37 h4 with ⟨e, _⟩ | ⟨a, len, cap, _, _, _, _, e, _⟩
      · exact ⟨none, 0, 0, by simpa using e⟩
      · exact ⟨some a, len, cap, by simpa using e⟩
    have e7 : ∃ (A : Option Addr) (n c : Nat), a7 = .slice A n c := by
      rcases DataW.trod_slice Tryz.underlying38 h7 with ⟨e, _⟩ | ⟨a, len, cap, _, _, _, _, e, _⟩
      · exact ⟨none, 0, 0, by simpa using e⟩
      · exact ⟨some a, len, cap, by simpa using e⟩
    obtain ⟨A, m, c, rfl⟩ := e4
    obtain ⟨A', m', c', rfl⟩ := e7
    obtain ⟨ps, i4, b4⟩ := ints_open (d := y4.1) (p := y4.2) ⟨n, h4⟩
    obtain ⟨rs, s7, b7⟩ := sps_open (d := y7.1) (p := y7.2) ⟨n, h7⟩
    refine ⟨⟨n0, n1, n2, n3, ps, n5, n6, rs, n8⟩, A, m, c, A', m', c', ?_, i4, s7, b4, b7, i64_of_wf w0, i64_of_wf w1, i64_of_wf w2, i64_of_wf w3, i64_of_wf w5, i64_of_wf w6, i64_of_wf w8⟩
    simp at e0 e1 e2 e3 e5 e6 e8
    rw [e0, e1, e2, e3, e5, e6, e8]

theorem cd_open {H : Type} {enc : TypeId × Value → H} {W : World} {base : Nat} {v : Value} {d : DataW H} {p : List MemPlace} (hv : Value.okWide Tryz.prog W .any base 40 v) (h : DataW.Trod enc Tryz.prog W 0 (fun _ => true) true 40 v d p) :
    ∃ c : Cd, v = v ∧ CdAt W W.heap.size v c := by
  unfold Value.okWide at hv
  rw [Tryz.underlying40] at hv
  obtain ⟨cs, rfl, _, _⟩ := hv
  obtain ⟨fuel, hf⟩ := h
  obtain ⟨c, A, n, k, A', n', k', e, h1, h2, h3, h4, h5⟩ := cd_cells hf
  refine ⟨c, rfl, A, n, k, A', n', k', ?_, h1, h2, h3, h4, h5⟩
  simp [Value.cells] at e
  congr 1
  apply Array.ext'
  rw [e]

theorem cells_9 : Tryz.prog.cellsOf 9 = 1 := by kernel_rfl
theorem cells_36 : Tryz.prog.cellsOf 36 = 3 := by kernel_rfl
theorem cells_42 : Tryz.prog.cellsOf 42 = 15 := by kernel_rfl
theorem cr_cells {H : Type} {enc : TypeId × Value → H} {W : World} {fuel : Nat} {cs : List Value} {x : DataW H × List MemPlace} (h : DataW.trod enc Tryz.prog W 0 (fun _ => true) true fuel 36 cs = some x) :
    ∃ (f b c : Int), cs = [.int .i64 f, .int .i64 b, .int .i64 c] := by
  obtain ⟨xs, n, _, _, hl, hlen, hf⟩ := DataW.trod_struct Tryz.underlying36 h
  rw [cells_36] at hl
  have hlen' : xs.length = 3 := hlen
  match cs, hl, xs, hlen' with
  | [u, v, t], _, [y0, y1, y2], _ =>
    have t0 : List.take (Tryz.prog.cellsOf 3) (List.drop 0 [u, v, t]) = [u] := by rw [cells_3]; rfl
    have t1 : List.take (Tryz.prog.cellsOf 3) (List.drop 1 [u, v, t]) = [v] := by rw [cells_3]; rfl
    have t2 : List.take (Tryz.prog.cellsOf 3) (List.drop 2 [u, v, t]) = [t] := by rw [cells_3]; rfl
    have h0 : DataW.trod enc Tryz.prog W 0 (fun _ => true) true n 3 [u] = some y0 := by rw [← t0]; exact hf 0 _ rfl
    have h1 : DataW.trod enc Tryz.prog W 0 (fun _ => true) true n 3 [v] = some y1 := by rw [← t1]; exact hf 1 _ rfl
    have h2 : DataW.trod enc Tryz.prog W 0 (fun _ => true) true n 3 [t] = some y2 := by rw [← t2]; exact hf 2 _ rfl
    clear t0 t1 t2 hf
    obtain ⟨n0, e0, _, w0⟩ := DataW.trod_int Tryz.underlying3 h0
    obtain ⟨n1, e1, _, w1⟩ := DataW.trod_int Tryz.underlying3 h1
    obtain ⟨n2, e2, _, w2⟩ := DataW.trod_int Tryz.underlying3 h2
    refine ⟨n0, n1, n2, ?_⟩
    simp at e0 e1 e2
    rw [e0, e1, e2]
/-- THE FIFTEEN CELLS of a step. -/
theorem op_cells {H : Type} {enc : TypeId × Value → H} {W : World} {fuel : Nat} {cs : List Value} {x : DataW H × List MemPlace} (h : DataW.trod enc Tryz.prog W 0 (fun _ => true) true fuel 42 cs = some x) :
    ∃ (o : OpD) (A : Option Addr) (n k : Nat) (A' : Option Addr) (n' k' : Nat), cs = (ocells o A n k A' n' k').toList ∧ CdAt W W.heap.size (cdv o.cd A n k A' n' k') o.cd ∧ o.s.size ≤ 9223372036854775807 := by
  obtain ⟨xs, n, _, _, hl, hlen, hf⟩ := DataW.trod_struct Tryz.underlying42 h
  rw [cells_42] at hl
  have hlen' : xs.length = 5 := hlen
  match cs, hl, xs, hlen' with
  | [a0, a1, a2, b0, b1, b2, c0, c1, c2, c3, c4, c5, c6, c7, c8], _, [y0, y1, y2, y3, y4], _ =>
    have t0 : List.take (Tryz.prog.cellsOf 3) (List.drop 0 [a0, a1, a2, b0, b1, b2, c0, c1, c2, c3, c4, c5, c6, c7, c8]) = [a0] := by rw [cells_3]; rfl
    have h0 : DataW.trod enc Tryz.prog W 0 (fun _ => true) true n 3 [a0] = some y0 := by rw [← t0]; exact hf 0 _ rfl
    have t1 : List.take (Tryz.prog.cellsOf 3) (List.drop 1 [a0, a1, a2, b0, b1, b2, c0, c1, c2, c3, c4, c5, c6, c7, c8]) = [a1] := by rw [cells_3]; rfl
    have h1 : DataW.trod enc Tryz.prog W 0 (fun _ => true) true n 3 [a1] = some y1 := by rw [← t1]; exact hf 1 _ rfl
    have t2 : List.take (Tryz.prog.cellsOf 9) (List.drop 2 [a0, a1, a2, b0, b1, b2, c0, c1, c2, c3, c4, c5, c6, c7, c8]) = [a2] := by rw [cells_9]; rfl
    have h2 : DataW.trod enc Tryz.prog W 0 (fun _ => true) true n 9 [a2] = some y2 := by rw [← t2]; exact hf 2 _ rfl
    have t3 : List.take (Tryz.prog.cellsOf 36) (List.drop 3 [a0, a1, a2, b0, b1, b2, c0, c1, c2, c3, c4, c5, c6, c7, c8]) = [b0, b1, b2] := by rw [cells_36]; rfl
    have h3 : DataW.trod enc Tryz.prog W 0 (fun _ => true) true n 36 [b0, b1, b2] = some y3 := by rw [← t3]; exact hf 3 _ rfl
    have t4 : List.take (Tryz.prog.cellsOf 40) (List.drop 6 [a0, a1, a2, b0, b1, b2, c0, c1, c2, c3, c4, c5, c6, c7, c8]) = [c0, c1, c2, c3, c4, c5, c6, c7, c8] := by rw [cells_40]; rfl
    have h4 : DataW.trod enc Tryz.prog W 0 (fun _ => true) true n 40 [c0, c1, c2, c3, c4, c5, c6, c7, c8] = some y4 := by rw [← t4]; exact hf 4 _ rfl
    clear t0 t1 t2 t3 t4 hf
    obtain ⟨n0, e0, _, w0⟩ := DataW.trod_int Tryz.underlying3 h0
    obtain ⟨n1, e1, _, w1⟩ := DataW.trod_int Tryz.underlying3 h1
    obtain ⟨s2, e2, _, w2⟩ := DataW.trod_string Tryz.underlying9 h2
    obtain ⟨f, b, u, e3⟩ := cr_cells h3
    obtain ⟨c, A, m, k, A', m', k', e4, i4, s4, b4, b4', f4⟩ := cd_cells h4
    refine ⟨⟨n0, n1, s2, f, b, u, c⟩, A, m, k, A', m', k', ?_, ⟨A, m, k, A', m', k', rfl, i4, s4, b4, b4', f4⟩, ?_⟩
    · simp at e0 e1 e2 e3 e4
      obtain ⟨e30, e31, e32⟩ := e3
      obtain ⟨e40, e41, e42, e43, e44, e45, e46, e47, e48⟩ := e4
      rw [e0, e1, e2, e30, e31, e32, e40, e41, e42, e43, e44, e45, e46, e47, e48]
    · unfold maxLen at w2; simpa using w2
theorem op_open {H : Type} {enc : TypeId × Value → H} {W : World} {base : Nat} {v : Value} {d : DataW H} {p : List MemPlace} (hv : Value.okWide Tryz.prog W .any base 42 v) (h : DataW.Trod enc Tryz.prog W 0 (fun _ => true) true 42 v d p) :
    ∃ o : OpD, v = v ∧ OpAt W W.heap.size v o := by
  unfold Value.okWide at hv
  rw [Tryz.underlying42] at hv
  obtain ⟨cs, rfl, _, _⟩ := hv
  obtain ⟨fuel, hf⟩ := h
  obtain ⟨o, A, n, k, A', n', k', e, h1, h2⟩ := op_cells hf
  refine ⟨o, rfl, A, n, k, A', n', k', ?_, h1, h2⟩
  simp [Value.cells] at e
  congr 1
  apply Array.ext'
  rw [e]

def OpD.z : OpD := ⟨0, 0, ⟨#[]⟩, 0, 0, 0, zeroC⟩
instance : Inhabited OpD := ⟨OpD.z⟩
/-- the slice at A with n elements reads as the steps l, and lies below block B. -/
def OpsAt (w : World) (B : Nat) (A : Option Addr) (n : Nat) (l : List OpD) : Prop :=
  l.length = n ∧ ∀ k, k < n → ∃ b o A1 n1 k1 A2 n2 k2, A = some ⟨b, o, none⟩ ∧ b < B ∧ (∀ j, j < 15 → w.cell? ⟨b, o + k * 15 + j, none⟩ = (ocells (l.getD k OpD.z) A1 n1 k1 A2 n2 k2)[j]?) ∧
    CdAt w B (cdv (l.getD k OpD.z).cd A1 n1 k1 A2 n2 k2) (l.getD k OpD.z).cd ∧ (l.getD k OpD.z).s.size ≤ 9223372036854775807
theorem ops_open {H : Type} {enc : TypeId × Value → H} {W : World} {a : Option Addr} {len cap : Nat} {d : DataW H} {p : List MemPlace}
    (h : DataW.Trod enc Tryz.prog W 0 (fun _ => true) true 22 (.slice a len cap) d p) : ∃ l : List OpD, OpsAt W W.heap.size a len l ∧ len ≤ cap := by
  obtain ⟨fuel, hf⟩ := h
  rcases Go.Deep.open_slice Tryz.underlying22 hf with ⟨hcs, _⟩ | ⟨a', len', cap', m, n, D, Pl, hcs, _, hl, hmx, hm, _, hx⟩
  · simp [Value.cells] at hcs
    obtain ⟨rfl, rfl, rfl⟩ := hcs
    exact ⟨[], ⟨rfl, fun k hk => by omega⟩, Nat.le_refl _⟩
  · simp [Value.cells] at hcs
    obtain ⟨rfl, rfl, rfl⟩ := hcs
    simp only [if_true] at hm
    have hspot : 0 < len → a'.spot = none := fun h0 => by
      obtain ⟨cs, h1, h2⟩ := hx 0 (by omega)
      rw [cells_42] at h1
      obtain ⟨o, A1, n1, k1, A2, n2, k2, rfl, _⟩ := op_cells h2
      obtain ⟨_, _, h3⟩ := World.cells?_some h1
      have h4 := h3 0 (by omega)
      have h5 : W.cell? ((a'.add (0 * 15)).add 0) = some (.int .i64 o.k) := h4
      simpa [Addr.add] using World.cell?_spot h5
    have each : ∀ k, k < len → ∃ s : OpD, ∃ b o A1 n1 k1 A2 n2 k2, some a' = some ⟨b, o, none⟩ ∧ (∀ j, j < 15 → W.cell? ⟨b, o + k * 15 + j, none⟩ = (ocells s A1 n1 k1 A2 n2 k2)[j]?) ∧
        CdAt W W.heap.size (cdv s.cd A1 n1 k1 A2 n2 k2) s.cd ∧ s.s.size ≤ 9223372036854775807 := fun k hk => by
      obtain ⟨cs, h1, h2⟩ := hx k (by omega)
      rw [cells_42] at h1
      obtain ⟨s, A1, n1, k1, A2, n2, k2, rfl, hc, hz⟩ := op_cells h2
      obtain ⟨_, _, h3⟩ := World.cells?_some h1
      obtain ⟨b, o, spot⟩ := a'
      have hs : spot = none := hspot (by omega)
      subst hs
      refine ⟨s, b, o, A1, n1, k1, A2, n2, k2, rfl, fun j hj => ?_, hc, hz⟩
      have h4 := h3 j hj
      rw [add_plain, add_plain] at h4
      rw [h4, Array.getElem?_toList]
    obtain ⟨f, hf2⟩ := Go.Deep.choose_lt each
    refine ⟨(List.range len).map f, ⟨by simp, fun k hk => ?_⟩, hl⟩
    obtain ⟨b, o, A1, n1, k1, A2, n2, k2, e, h1, h2, h3⟩ := hf2 k hk
    have e2 : ((List.range len).map f).getD k OpD.z = f k := by simp [List.getD, hk]
    rw [e2]
    exact ⟨b, o, A1, n1, k1, A2, n2, k2, e, World.block_lt_of_cell? W _ (h1 0 (by omega)), h1, h2, h3⟩
section
variable {w w' : World} {B : Nat} {A : Option Addr} {n : Nat} {l : List OpD}
theorem OpsAt.len (h : OpsAt w B A n l) : l.length = n := h.1
theorem OpsAt.below {C : Nat} (h : OpsAt w B A n l) (hb : Below C w w') (hBC : B ≤ C) : OpsAt w' B A n l :=
  ⟨h.1, fun k hk => by
    obtain ⟨b, o, A1, n1, k1, A2, n2, k2, e, hB, h1, h2, h3⟩ := h.2 k hk
    exact ⟨b, o, A1, n1, k1, A2, n2, k2, e, hB, fun j hj => (hb.cell (p := ⟨b, o + k * 15 + j, none⟩) (by show b < C; omega)).trans (h1 j hj), h2.below hb hBC, h3⟩⟩
theorem OpsAt.take (h : OpsAt w B A n l) (m : Nat) (hm : m ≤ n) : OpsAt w B A m (l.take m) :=
  ⟨by rw [List.length_take, h.1]; omega, fun k hk => by
    obtain ⟨b, o, A1, n1, k1, A2, n2, k2, e, hB, h1, h2, h3⟩ := h.2 k (by omega)
    have e2 : (l.take m).getD k OpD.z = l.getD k OpD.z := by simp [List.getD, hk]
    rw [e2]
    exact ⟨b, o, A1, n1, k1, A2, n2, k2, e, hB, h1, h2, h3⟩⟩
theorem OpsAt.op (h : OpsAt w B A n l) {k : Nat} (hk : k < n) : ∃ b o A1 n1 k1 A2 n2 k2, A = some ⟨b, o, none⟩ ∧ b < B ∧ (∀ j, j < 15 → w.cell? ⟨b, o + k * 15 + j, none⟩ = (ocells (l.getD k OpD.z) A1 n1 k1 A2 n2 k2)[j]?) ∧
    OpAt w B (opv (l.getD k OpD.z) A1 n1 k1 A2 n2 k2) (l.getD k OpD.z) := by
  obtain ⟨b, o, A1, n1, k1, A2, n2, k2, e, hB, h1, h2, h3⟩ := h.2 k hk
  exact ⟨b, o, A1, n1, k1, A2, n2, k2, e, hB, h1, A1, n1, k1, A2, n2, k2, rfl, h2, h3⟩
end
end Go.Proofs.YtapjbffhihhnbaaGreat.Dl
