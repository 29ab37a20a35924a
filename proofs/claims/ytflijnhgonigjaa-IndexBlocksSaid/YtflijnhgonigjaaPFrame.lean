/-
  THE FRAME of the rows: pages that came in, as lists, with the reach of each text. No condition.
-/
import Derived.Test.YtflijnhgonigjaaPLives
import Derived.ProofKit
import Derived.OpenShut
import Derived.ShutString
import Derived.ChangeOld
import Derived.SizedLaws
import Derived.Deep.Slices
import Derived.Deep.Strs
namespace Go.Proofs.Ytflijnhgonigjaa
open Go.ChangeShapes Go.WideShapes Go.ChangeAt Go.RowKit
open Go.ChangeMaps (open_string shut_string)

theorem own : ownKnob Try.prog.godebug = none := by kernel_rfl
theorem laidOut : laidOutB Try.prog = true := by kernel_rfl
theorem cells3 : Try.prog.cellsOf 3 = 1 := by kernel_rfl
theorem cells9 : Try.prog.cellsOf 9 = 1 := by kernel_rfl
theorem cells27 : Try.prog.cellsOf 27 = 1 := by kernel_rfl
theorem cells47 : Try.prog.cellsOf 47 = 2 := by kernel_rfl

theorem i64_of_wf {n : Int} (h : (Lit.int .i64 n).wf = true) : -9223372036854775808 ≤ n ∧ n ≤ 9223372036854775807 := by
  simpa [Lit.wf, IntKind.min, IntKind.max, IntKind.signed, IntKind.bits] using h
theorem weights_all {H : Type} {P : Program} {e : TypeId} : ∀ {ds : List (DataW H)} {d : DataW H} {n : Nat}, d ∈ ds → n ∈ d.weights P e → n ∈ DataW.weightsAll P e ds
  | x :: r, d, n, h, hn => by
    simp only [DataW.weightsAll, List.mem_append]
    rcases List.mem_cons.1 h with rfl | h
    · exact Or.inl hn
    · exact Or.inr (weights_all h hn)

instance : Inhabited En := ⟨En.z⟩

section
variable {H : Type} {enc : TypeId × Value → H} {W : World} {a : Option Addr} {len cap : Nat} {d : DataW H} {p : List MemPlace}

set_option maxRecDepth 100000 in
/-- THE TWO CELLS of an entry. -/
theorem en_cells {fuel : Nat} {cs : List Value} {x : DataW H × List MemPlace} {base : Nat} {spare : Nat → Bool} {held : Bool} (h : DataW.trod enc Try.prog W base spare held fuel 47 cs = some x) :
    ∃ s : En, cs = [.string s.nm, .int .i64 s.nd] ∧ Fit s.nd ∧ s.nm.size ∈ x.1.weights Try.prog 47 := by
  obtain ⟨xs, n, _, hx, hl, hlen, hf⟩ := DataW.trod_struct Try.underlying47 h
  rw [cells47] at hl
  have hlen' : xs.length = 2 := hlen
  match cs, hl, xs, hlen' with
  | [u, v], _, [y0, y1], _ =>
    have t0 : List.take (Try.prog.cellsOf 9) (List.drop 0 [u, v]) = [u] := by rw [cells9]; rfl
    have t1 : List.take (Try.prog.cellsOf 3) (List.drop 1 [u, v]) = [v] := by rw [cells3]; rfl
    have h0 : DataW.trod enc Try.prog W base spare held n 9 [u] = some y0 := by rw [← t0]; exact hf 0 _ rfl
    have h1 : DataW.trod enc Try.prog W base spare held n 3 [v] = some y1 := by rw [← t1]; exact hf 1 _ rfl
    clear t0 t1 hf
    obtain ⟨s, e0, d0, _⟩ := DataW.trod_string Try.underlying9 h0
    obtain ⟨n1, e1, _, w1⟩ := DataW.trod_int Try.underlying3 h1
    refine ⟨⟨s, n1⟩, ?_, i64_of_wf w1, ?_⟩
    · simp at e0 e1
      rw [e0, e1]
    · rw [hx, d0]
      simp only [DataW.weights, Try.underlying47, List.map_cons, DataW.weightsEach, List.mem_append]
      have : s.size = s.data.toList.length := by rw [Array.length_toList]; rfl
      exact Or.inl (by rw [this]; exact List.mem_singleton.2 rfl)

set_option maxRecDepth 100000 in
theorem ens_trod {fuel : Nat} {cs : List Value} {x : DataW H × List MemPlace} (hf : DataW.trod enc Try.prog W 0 (fun _ => true) true fuel 27 cs = some x) (hsz : ∀ n ∈ x.1.weights Try.prog 27, n ≤ reachBytes) :
    ∃ (A : Option Addr) (len cap : Nat) (l : List En), cs = [.slice A len cap] ∧ EnsAt W W.heap.size A len l ∧ len ≤ cap := by
  rcases Go.Deep.open_slice Try.underlying27 hf with ⟨hcs, _⟩ | ⟨a', len', cap', m, n, D, Pl, hcs, _, hl, hmx, hm, hd, hx⟩
  · exact ⟨none, 0, 0, [], hcs, EnsAt.nil _ _ _, by omega⟩
  · simp only [if_true] at hm
    obtain ⟨hd1, -⟩ := Prod.mk.inj hd
    have hspot : 0 < len' → a'.spot = none := fun h0 => by
      obtain ⟨cs, h1, h2⟩ := hx 0 (by omega)
      obtain ⟨s, rfl, _⟩ := en_cells h2
      rw [cells47] at h1
      obtain ⟨_, _, h3⟩ := World.cells?_some h1
      have h4 := h3 0 (by omega)
      simpa [Addr.add] using World.cell?_spot h4
    have each : ∀ k, k < len' → ∃ s : En, s.fit ∧ ∃ b o, some a' = some ⟨b, o, none⟩ ∧ W.cell? ⟨b, o + k * 2, none⟩ = some (.string s.nm) ∧ W.cell? ⟨b, o + k * 2 + 1, none⟩ = some (.int .i64 s.nd) := fun k hk => by
      obtain ⟨cs, h1, h2⟩ := hx k (by omega)
      rw [cells47] at h1
      obtain ⟨s, rfl, hfit, hwt⟩ := en_cells h2
      obtain ⟨_, _, h3⟩ := World.cells?_some h1
      obtain ⟨b, o, spot⟩ := a'
      have hs : spot = none := hspot (by omega)
      subst hs
      have hle := hsz s.nm.size (by
        rw [hd1]
        simp only [DataW.weights, Try.underlying27, List.mem_cons, List.mem_append]
        exact Or.inr (Or.inl (weights_all (List.mem_map.2 ⟨k, List.mem_range.2 hk, rfl⟩) hwt)))
      refine ⟨s, ⟨Nat.le_trans hle (by decide), hfit⟩, b, o, rfl, ?_, ?_⟩
      · have := h3 0 (by omega); simpa [add_plain] using this
      · have := h3 1 (by omega); simpa [add_plain] using this
    obtain ⟨f, hf2⟩ := Go.Deep.choose_lt each
    refine ⟨some a', len', cap', (List.range len').map f, hcs, ⟨by simp, ?_, fun k hk => ?_⟩, hl⟩
    · intro s hs
      obtain ⟨k, hk, rfl⟩ := List.mem_map.1 hs
      exact (hf2 k (List.mem_range.1 hk)).1
    · obtain ⟨_, b, o, e, h1, h2⟩ := hf2 k hk
      have : ((List.range len').map f).getD k En.z = f k := by simp [List.getD, hk]
      rw [this]
      exact ⟨b, o, e, World.block_lt_of_cell? W _ h1, h1, h2⟩
set_option maxRecDepth 100000 in
theorem pgs_open (h : DataW.Trod enc Try.prog W 0 (fun _ => true) true 22 (.slice a len cap) d p) (hsz : ∀ n ∈ d.weights Try.prog 22, n ≤ reachBytes) : ∃ q : Pg, PgsAt W W.heap.size a len q ∧ len ≤ cap ∧ cap ≤ maxLen := by
  obtain ⟨fuel, hf⟩ := h
  rcases Go.Deep.open_slice1 Try.underlying22 cells27 hf with ⟨hcs, _⟩ | ⟨a', len', cap', m, n, V, D, Pl, hcs, _, hl, hmx, hm, hd, hx⟩
  · simp [Value.cells] at hcs
    obtain ⟨rfl, rfl, rfl⟩ := hcs
    exact ⟨[], PgsAt.nil _ _ _, by omega, by unfold maxLen; omega⟩
  · simp [Value.cells] at hcs
    obtain ⟨rfl, rfl, rfl⟩ := hcs
    simp only [if_true] at hm
    obtain ⟨hd1, -⟩ := Prod.mk.inj hd
    have hspot : 0 < len → a'.spot = none := fun h0 => by
      obtain ⟨h1, -⟩ := hx 0 (by omega)
      simpa [Addr.add] using World.cell?_spot h1
    have each : ∀ k, k < len → ∃ l : List En, ∃ b o A' c', some a' = some ⟨b, o, none⟩ ∧ b < W.heap.size ∧ W.cell? ⟨b, o + k, none⟩ = some (.slice A' l.length c') ∧ l.length ≤ c' ∧ EnsAt W W.heap.size A' l.length l := fun k hk => by
      obtain ⟨h1, h2⟩ := hx k (by omega)
      obtain ⟨A', len2, cap2, l, hv, hE, hlc⟩ := ens_trod h2 (fun n hn => hsz n (by
        rw [hd1]
        simp only [DataW.weights, Try.underlying22, List.mem_cons, List.mem_append]
        exact Or.inr (Or.inl (weights_all (List.mem_map.2 ⟨k, List.mem_range.2 hk, rfl⟩) hn))))
      have hv2 : V k = .slice A' len2 cap2 := by injection hv
      obtain ⟨b, o, spot⟩ := a'
      have hs : spot = none := hspot (by omega)
      subst hs
      rw [hv2] at h1
      have hcell : W.cell? ⟨b, o + k, none⟩ = some (.slice A' len2 cap2) := by simpa [add_plain] using h1
      have hl2 := hE.len
      rw [← hl2] at hcell hE hlc
      exact ⟨l, b, o, A', cap2, rfl, World.block_lt_of_cell? W _ hcell, hcell, hlc, hE⟩
    obtain ⟨f, hf2⟩ := Go.Deep.choose_lt each
    refine ⟨(List.range len).map f, ⟨by simp, fun k hk => ?_⟩, hl, hmx⟩
    have : ((List.range len).map f).getD k [] = f k := by simp [List.getD, hk]
    rw [this]
    exact hf2 k hk
end
end Go.Proofs.Ytflijnhgonigjaa
