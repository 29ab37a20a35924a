/-
  THE FRAME of the rows: texts, a batch and a slice of batches that came in; how much a reading holds. Condition of the second form: a reading of bulk at most 1048576.
-/
import Derived.Test.YtpljifeebbeakaaLImg
import Derived.ProofKit
import Derived.OpenShut
import Derived.ShutString
import Derived.ChangeOld
import Derived.SizedLaws
import Derived.Deep.Strs
import Derived.Deep.Slices
import Derived.Deep.CondSized
namespace Go.Proofs.Ytpljifeebbeakaa
open Go.ChangeShapes Go.WideShapes Go.ChangeAt Go.RowKit
open Go.ChangeMaps (open_string shut_string)

theorem own : ownKnob Try.prog.godebug = none := by kernel_rfl
theorem laidOut : laidOutB Try.prog = true := by kernel_rfl
theorem cells_3 : Try.prog.cellsOf 3 = 1 := by kernel_rfl
theorem cells_5 : Try.prog.cellsOf 5 = 1 := by kernel_rfl
theorem cells_9 : Try.prog.cellsOf 9 = 1 := by kernel_rfl
theorem cells_35 : Try.prog.cellsOf 35 = 1 := by kernel_rfl
theorem cells_36 : Try.prog.cellsOf 36 = 1 := by kernel_rfl
theorem cells_38 : Try.prog.cellsOf 38 = 2 := by kernel_rfl

theorem i64_of_wf {n : Int} (h : (Lit.int .i64 n).wf = true) : -9223372036854775808 ≤ n ∧ n ≤ 9223372036854775807 := by
  simpa [Lit.wf, IntKind.min, IntKind.max, IntKind.signed, IntKind.bits] using h

theorem strs_open {H : Type} {enc : TypeId × Value → H} {W : World} {a : Option Addr} {len cap : Nat} {d : DataW H} {p : List MemPlace}
    (h : DataW.Trod enc Try.prog W 0 (fun _ => true) true 32 (.slice a len cap) d p) : ∃ ss : List ByteArray, Sl.StrsAt W a len ss ∧ ss.length = len ∧ len ≤ cap ∧ ∀ s, s ∈ ss → s.size ≤ 9223372036854775807 := by
  obtain ⟨fuel, hf⟩ := h
  rcases Go.Deep.open_strs Try.underlying32 Try.underlying9 cells_9 hf with ⟨hcs, _⟩ | ⟨a', len', cap', m, Sx, hcs, _, hl, _, hm, _, hx⟩
  · simp [Value.cells] at hcs
    obtain ⟨rfl, rfl, rfl⟩ := hcs
    exact ⟨[], fun k hk => by omega, rfl, Nat.le_refl _, by simp⟩
  · simp [Value.cells] at hcs
    obtain ⟨rfl, rfl, rfl⟩ := hcs
    simp only [if_true] at hm
    refine ⟨(List.range len).map Sx, fun k hk => ?_, by simp, hl, fun s hs => ?_⟩
    · have h0 := (hx 0 (by omega)).1
      obtain ⟨b, o, spot⟩ := a'
      have hspot : spot = none := by simpa [Addr.add] using World.cell?_spot h0
      subst hspot
      refine ⟨b, o, rfl, ?_⟩
      rw [← add_plain, (hx k (by omega)).1]
      simp [List.getD, hk]
    · obtain ⟨k, hk, rfl⟩ := List.mem_map.1 hs
      exact (hx k (by have := List.mem_range.1 hk; omega)).2

/-! ### how much a reading holds -/
theorem bulk_one {H : Type} (d : DataW H) : 1 ≤ Rows.uptoBulk d := by
  cases d with
  | lit l => cases l <;> simp [Rows.uptoBulk]
  | nil => simp [Rows.uptoBulk]
  | ptr d => simp [Rows.uptoBulk]
  | slice elems spare => simp [Rows.uptoBulk]
  | agg parts => simp [Rows.uptoBulk]
  | iface t d => simp [Rows.uptoBulk]
  | map entries => simp [Rows.uptoBulk]
  | held h => simp [Rows.uptoBulk]
theorem bulk_part {H : Type} {d : DataW H} {l : List (DataW H)} (h : d ∈ l) : Rows.uptoBulk d ≤ Rows.uptoBulkAll l := by
  induction l with
  | nil => cases h
  | cons x r ih =>
    simp only [Rows.uptoBulkAll]
    cases List.mem_cons.1 h with
    | inl e => subst e; omega
    | inr e => have := ih e; omega
theorem bulk_len {H : Type} (l : List (DataW H)) : l.length ≤ Rows.uptoBulkAll l := by
  induction l with
  | nil => simp [Rows.uptoBulkAll]
  | cons x r ih => have := bulk_one x; simp only [Rows.uptoBulkAll, List.length_cons]; omega
theorem bulk_elems {H : Type} (elems spare : List (DataW H)) : Rows.uptoBulkAll elems ≤ Rows.uptoBulk (.slice elems spare) := by
  simp only [Rows.uptoBulk]
  omega
theorem bulk_most {H : Type} {l : List (DataW H)} (hk : Rows.uptoSmall H l = true) : Rows.uptoBulkAll l ≤ 1048576 := of_decide_eq_true hk

section
variable {H : Type} {enc : TypeId × Value → H} {W : World} {base : Nat} {spare : Nat → Bool} {held : Bool}
theorem spot_none {a : Addr} {v : Value} (h : W.cell? a = some v) : ∃ b o, a = ⟨b, o, none⟩ := by
  obtain ⟨b, o, spot⟩ := a
  have hs : spot = none := by
    have h' : W.cell? ((⟨b, o, spot⟩ : Addr).add 0) = some v := by simpa [Addr.add] using h
    simpa [Addr.add] using World.cell?_spot h'
  subst hs
  exact ⟨b, o, rfl⟩
set_option maxRecDepth 100000 in
/-- a slice of ints that came in. -/
theorem ints_read {fuel : Nat} {v : Value} {y : DataW H × List MemPlace} (h : DataW.trod enc Try.prog W base spare held fuel 35 [v] = some y) :
    ∃ A zs c, v = .slice A zs.length c ∧ IntsAt W W.heap.size A zs.length zs ∧ zs.length ≤ c ∧ zs.length ≤ Rows.uptoBulk y.1 := by
  rcases open_ints Try.underlying35 Try.underlying3 cells_3 h with ⟨hcs, _⟩ | ⟨a, len, cap, zs, hcs, _, hl, _, hz, hx, hcell, hwz⟩
  · simp at hcs
    exact ⟨none, [], 0, hcs, IntsAt.nil _ _ _, Nat.le_refl _, Nat.zero_le _⟩
  · simp at hcs
    have hlz : len ≤ zs.length := by rw [hz]; split <;> omega
    have htl : (zs.take len).length = len := by rw [List.length_take]; omega
    refine ⟨some a, zs.take len, cap, by rw [htl]; exact hcs, ⟨rfl, fun z hzm => i64_of_wf (hwz z (List.mem_of_mem_take hzm)), fun k hk => ?_⟩, by rw [htl]; exact hl, ?_⟩
    · rw [htl] at hk
      have hk' := hcell k (by omega)
      obtain ⟨b, o, rfl⟩ : ∃ b o, a = ⟨b, o, none⟩ := by
        have h0 := hcell 0 (by omega)
        rw [show a.add 0 = a by simp [Addr.add]] at h0
        exact spot_none h0
      rw [add_plain] at hk'
      refine ⟨b, o, rfl, World.block_lt_of_cell? W _ hk', hk'.trans ?_⟩
      simp [List.getD, List.getElem?_take_of_lt hk]
    · rw [hx]
      refine Nat.le_trans ?_ (Nat.le_trans (bulk_len _) (bulk_elems _ _))
      simp [lits]
set_option maxRecDepth 100000 in
/-- a slice of bytes that came in. -/
theorem bys_read {fuel : Nat} {v : Value} {y : DataW H × List MemPlace} (h : DataW.trod enc Try.prog W base spare held fuel 36 [v] = some y) :
    ∃ A bs c, v = .slice A bs.length c ∧ BysAt W W.heap.size A bs.length bs := by
  rcases open_ints Try.underlying36 Try.underlying5 cells_5 h with ⟨hcs, _⟩ | ⟨a, len, cap, zs, hcs, _, hl, _, hz, hx, hcell, hwz⟩
  · simp at hcs
    exact ⟨none, [], 0, hcs, rfl, by simp, fun k hk => absurd hk (Nat.not_lt_zero _)⟩
  · simp at hcs
    have hlz : len ≤ zs.length := by rw [hz]; split <;> omega
    have htl : (zs.take len).length = len := by rw [List.length_take]; omega
    refine ⟨some a, zs.take len, cap, by rw [htl]; exact hcs, rfl, fun z hzm => ?_, fun k hk => ?_⟩
    · have := hwz z (List.mem_of_mem_take hzm)
      simpa [Lit.wf, IntKind.min, IntKind.max, IntKind.signed, IntKind.bits] using this
    · rw [htl] at hk
      have hk' := hcell k (by omega)
      obtain ⟨b, o, rfl⟩ : ∃ b o, a = ⟨b, o, none⟩ := by
        have h0 := hcell 0 (by omega)
        rw [show a.add 0 = a by simp [Addr.add]] at h0
        exact spot_none h0
      rw [add_plain] at hk'
      refine ⟨b, o, rfl, World.block_lt_of_cell? W _ hk', hk'.trans ?_⟩
      simp [List.getD, List.getElem?_take_of_lt hk]
set_option maxRecDepth 100000 in
/-- THE TWO CELLS of a batch. -/
theorem bat_cells {fuel : Nat} {cs : List Value} {x : DataW H × List MemPlace} (h : DataW.trod enc Try.prog W base spare held fuel 38 cs = some x) :
    ∃ A zs c A2 bs c2, cs = [.slice A zs.length c, .slice A2 bs.length c2] ∧ IntsAt W W.heap.size A zs.length zs ∧ zs.length ≤ c ∧ BysAt W W.heap.size A2 bs.length bs ∧ zs.length ≤ Rows.uptoBulk x.1 := by
  obtain ⟨xs, n, _, hx, hl, hlen, hf⟩ := DataW.trod_struct Try.underlying38 h
  rw [cells_38] at hl
  have hlen' : xs.length = 2 := hlen
  match cs, hl, xs, hlen' with
  | [u, v], _, [y0, y1], _ =>
    have t0 : List.take (Try.prog.cellsOf 35) (List.drop 0 [u, v]) = [u] := by rw [cells_35]; rfl
    have t1 : List.take (Try.prog.cellsOf 36) (List.drop 1 [u, v]) = [v] := by rw [cells_36]; rfl
    have h0 : DataW.trod enc Try.prog W base spare held n 35 [u] = some y0 := by rw [← t0]; exact hf 0 _ rfl
    have h1 : DataW.trod enc Try.prog W base spare held n 36 [v] = some y1 := by rw [← t1]; exact hf 1 _ rfl
    clear t0 t1 hf
    obtain ⟨A, zs, c, rfl, hA, hc, hb⟩ := ints_read h0
    obtain ⟨A2, bs, c2, rfl, hA2⟩ := bys_read h1
    refine ⟨A, zs, c, A2, bs, c2, rfl, hA, hc, hA2, Nat.le_trans hb ?_⟩
    rw [hx]
    simp only [Rows.uptoBulk, List.map_cons, List.map_nil, Rows.uptoBulkAll]
    omega
end
set_option maxRecDepth 100000 in
/-- a batch that came in. -/
theorem bat_open {H : Type} {enc : TypeId × Value → H} {W : World} {base : Nat} {v : Value} {d : DataW H} {p : List MemPlace} (hv : Value.okWide Try.prog W .any base 38 v) (h : DataW.Trod enc Try.prog W 0 (fun _ => true) true 38 v d p) :
    ∃ A zs c A2 bs c2, v = batV A zs.length c A2 bs.length c2 ∧ (IntsAt W W.heap.size A zs.length zs ∧ BysAt W W.heap.size A2 bs.length bs) ∧ zs.length ≤ Rows.uptoBulk d := by
  unfold Value.okWide at hv
  rw [Try.underlying38] at hv
  obtain ⟨cs, rfl, _, _⟩ := hv
  obtain ⟨fuel, hf⟩ := h
  obtain ⟨A, zs, c, A2, bs, c2, e, h1, _, h2, h3⟩ := bat_cells hf
  refine ⟨A, zs, c, A2, bs, c2, ?_, ⟨h1, h2⟩, h3⟩
  simp [Value.cells] at e
  unfold batV
  congr 1
  apply Array.ext'
  rw [e]

/-- a batch: its blocks, and its bytes. -/
structure Bat where
  zs : List Int
  bs : List Int
def Bat.z : Bat := ⟨[], []⟩
instance : Inhabited Bat := ⟨Bat.z⟩
/-- the slice at A with n elements reads as the batches l; none of them has more than 1048576 blocks. -/
def BatsAt (w : World) (B : Nat) (A : Option Addr) (n : Nat) (l : List Bat) : Prop :=
  l.length = n ∧ ∀ k, k < n → ∃ b o A1 c1 A2 c2, A = some ⟨b, o, none⟩ ∧ b < B ∧ w.cell? ⟨b, o + k * 2, none⟩ = some (.slice A1 (l.getD k Bat.z).zs.length c1) ∧ w.cell? ⟨b, o + k * 2 + 1, none⟩ = some (.slice A2 (l.getD k Bat.z).bs.length c2) ∧
    IntsAt w B A1 (l.getD k Bat.z).zs.length (l.getD k Bat.z).zs ∧ BysAt w B A2 (l.getD k Bat.z).bs.length (l.getD k Bat.z).bs ∧ (l.getD k Bat.z).zs.length ≤ 1048576
set_option maxRecDepth 100000 in
theorem bats_open {H : Type} {enc : TypeId × Value → H} {W : World} {a : Option Addr} {len cap : Nat} {d : DataW H} {p : List MemPlace}
    (h : DataW.Trod enc Try.prog W 0 (fun _ => true) true 22 (.slice a len cap) d p) (hb : Rows.uptoBulk d ≤ 1048576) : ∃ l : List Bat, BatsAt W W.heap.size a len l ∧ len ≤ cap := by
  obtain ⟨fuel, hf⟩ := h
  rcases Go.Deep.open_slice Try.underlying22 hf with ⟨hcs, _⟩ | ⟨a', len', cap', m, n, D, Pl, hcs, _, hl, hmx, hm, hd, hx⟩
  · simp [Value.cells] at hcs
    obtain ⟨rfl, rfl, rfl⟩ := hcs
    exact ⟨[], ⟨rfl, fun k hk => by omega⟩, Nat.le_refl _⟩
  · simp [Value.cells] at hcs
    obtain ⟨rfl, rfl, rfl⟩ := hcs
    simp only [if_true] at hm
    obtain ⟨hd1, -⟩ := Prod.mk.inj hd
    have hspot : 0 < len → a'.spot = none := fun h0 => by
      obtain ⟨cs, h1, h2⟩ := hx 0 (by omega)
      obtain ⟨A, zs, c, A2, bs, c2, rfl, _⟩ := bat_cells h2
      rw [cells_38] at h1
      obtain ⟨_, _, h3⟩ := World.cells?_some h1
      have h4 := h3 0 (by omega)
      simpa [Addr.add] using World.cell?_spot h4
    have each : ∀ k, k < len → ∃ s : Bat, ∃ b o A1 c1 A2 c2, some a' = some ⟨b, o, none⟩ ∧ W.cell? ⟨b, o + k * 2, none⟩ = some (.slice A1 s.zs.length c1) ∧ W.cell? ⟨b, o + k * 2 + 1, none⟩ = some (.slice A2 s.bs.length c2) ∧
        IntsAt W W.heap.size A1 s.zs.length s.zs ∧ BysAt W W.heap.size A2 s.bs.length s.bs ∧ s.zs.length ≤ 1048576 := fun k hk => by
      obtain ⟨cs, h1, h2⟩ := hx k (by omega)
      rw [cells_38] at h1
      obtain ⟨A, zs, c, A2, bs, c2, rfl, i1, _, i2, i3⟩ := bat_cells h2
      obtain ⟨_, _, h3⟩ := World.cells?_some h1
      obtain ⟨b, o, spot⟩ := a'
      have hs : spot = none := hspot (by omega)
      subst hs
      have hle : Rows.uptoBulk (D k) ≤ 1048576 := by
        refine Nat.le_trans ?_ hb
        rw [hd1]
        exact Nat.le_trans (bulk_part (List.mem_map.2 ⟨k, List.mem_range.2 hk, rfl⟩)) (bulk_elems _ _)
      refine ⟨⟨zs, bs⟩, b, o, A, c, A2, c2, rfl, ?_, ?_, i1, i2, Nat.le_trans i3 hle⟩
      · have := h3 0 (by omega); simpa [add_plain] using this
      · have := h3 1 (by omega); simpa [add_plain] using this
    obtain ⟨f, hf2⟩ := Go.Deep.choose_lt each
    refine ⟨(List.range len).map f, ⟨by simp, fun k hk => ?_⟩, hl⟩
    obtain ⟨b, o, A1, c1, A2, c2, e, h1, h2, h3, h4, h5⟩ := hf2 k hk
    have e2 : ((List.range len).map f).getD k Bat.z = f k := by simp [List.getD, hk]
    rw [e2]
    exact ⟨b, o, A1, c1, A2, c2, e, World.block_lt_of_cell? W _ h1, h1, h2, h3, h4, h5⟩
end Go.Proofs.Ytpljifeebbeakaa
