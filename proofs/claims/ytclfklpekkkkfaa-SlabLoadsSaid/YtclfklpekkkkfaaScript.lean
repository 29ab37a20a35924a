/-
  A SCRIPT: a slice of steps that came in, as a list; its first 200 (early). No condition.
-/
import Derived.Test.YtclfklpekkkkfaaFrame
namespace Go.Proofs.Ytclfklpekkkkfaa
open Go.ChangeShapes Go.WideShapes Go.ChangeAt Go.RowKit

/-- a step: its kind, its number, its bytes. -/
abbrev Step := Int × Int × ByteArray
def Step.ok (x : Step) : Prop := (-9223372036854775808 ≤ x.2.1 ∧ x.2.1 ≤ 9223372036854775807) ∧ x.2.2.size ≤ 9223372036854775807

/-- the slice at A with n elements reads as the steps l. -/
def OpsAt (w : World) (A : Option Addr) (n : Nat) (l : List Step) : Prop :=
  ∀ k, k < n → ∃ b o A' n' c', A = some ⟨b, o, none⟩ ∧ (l.getD k (0, 0, ⟨#[]⟩)).ok ∧ w.cell? ⟨b, o + k * 4, none⟩ = some (.int .i64 (l.getD k (0, 0, ⟨#[]⟩)).1) ∧ w.cell? ⟨b, o + k * 4 + 1, none⟩ = some (.int .i64 (l.getD k (0, 0, ⟨#[]⟩)).2.1) ∧
    w.cell? ⟨b, o + k * 4 + 2, none⟩ = some (.string (l.getD k (0, 0, ⟨#[]⟩)).2.2) ∧ w.cell? ⟨b, o + k * 4 + 3, none⟩ = some (.slice A' n' c')
theorem OpsAt.below {w w' : World} {A : Option Addr} {n : Nat} {l : List Step} {B : Nat} (h : OpsAt w A n l) (ht : Below B w w') (hB : w.heap.size ≤ B) : OpsAt w' A n l := fun k hk => by
  obtain ⟨b, o, A', n', c', e, h0, h1, h2, h3, h4⟩ := h k hk
  have lt : b < B := Nat.lt_of_lt_of_le (World.block_lt_of_cell? w _ h1) hB
  exact ⟨b, o, A', n', c', e, h0, (ht.cell lt).trans h1, (ht.cell lt).trans h2, (ht.cell lt).trans h3, (ht.cell lt).trans h4⟩
theorem OpsAt.less {w : World} {A : Option Addr} {n m : Nat} {l : List Step} (h : OpsAt w A n l) (hm : m ≤ n) : OpsAt w A m l := fun k hk => h k (by omega)

theorem ops_open {H : Type} {enc : TypeId × Value → H} {W : World} {a : Option Addr} {len cap : Nat} {d : DataW H} {p : List MemPlace}
    (h : DataW.Trod enc Try.prog W 0 (fun _ => true) true 41 (.slice a len cap) d p) : ∃ l : List Step, OpsAt W a len l ∧ l.length = len ∧ len ≤ cap := by
  obtain ⟨fuel, hf⟩ := h
  rcases Go.Deep.open_slice Try.underlying41 hf with ⟨hcs, _⟩ | ⟨a', len', cap', m, n, D, Pl, hcs, _, hl, _, hm, _, hx⟩
  · simp [Value.cells] at hcs
    obtain ⟨rfl, rfl, rfl⟩ := hcs
    exact ⟨[], fun k hk => by omega, rfl, Nat.le_refl _⟩
  · simp [Value.cells] at hcs
    obtain ⟨rfl, rfl, rfl⟩ := hcs
    simp only [if_true] at hm
    have hspot : 0 < len → a'.spot = none := fun h0 => by
      obtain ⟨cs, h1, h2⟩ := hx 0 (by omega)
      obtain ⟨kd, i, s, A, n', c', rfl, _⟩ := op_cells h2
      rw [cells46] at h1
      obtain ⟨_, _, h3⟩ := World.cells?_some h1
      have h4 := h3 0 (by omega)
      simpa [Addr.add] using World.cell?_spot h4
    have each : ∀ k, k < len → ∃ x : Step, ∃ b o A' n' c', some a' = some ⟨b, o, none⟩ ∧ x.ok ∧ W.cell? ⟨b, o + k * 4, none⟩ = some (.int .i64 x.1) ∧ W.cell? ⟨b, o + k * 4 + 1, none⟩ = some (.int .i64 x.2.1) ∧
        W.cell? ⟨b, o + k * 4 + 2, none⟩ = some (.string x.2.2) ∧ W.cell? ⟨b, o + k * 4 + 3, none⟩ = some (.slice A' n' c') := fun k hk => by
      obtain ⟨cs, h1, h2⟩ := hx k (by omega)
      rw [cells46] at h1
      obtain ⟨kd, i, s, A, n', c', rfl, bk, bi, bs⟩ := op_cells h2
      obtain ⟨_, _, h3⟩ := World.cells?_some h1
      obtain ⟨b, o, spot⟩ := a'
      have hs : spot = none := hspot (by omega)
      subst hs
      refine ⟨(kd, i, s), b, o, A, n', c', rfl, ⟨bi, bs⟩, ?_, ?_, ?_, ?_⟩
      · have := h3 0 (by omega); simpa [add_plain] using this
      · have := h3 1 (by omega); simpa [add_plain] using this
      · have := h3 2 (by omega); simpa [add_plain] using this
      · have := h3 3 (by omega); simpa [add_plain] using this
    obtain ⟨f, hf2⟩ := Go.Deep.choose_lt each
    refine ⟨(List.range len).map f, fun k hk => ?_, by simp, hl⟩
    obtain ⟨b, o, A', n', c', e, h0⟩ := hf2 k hk
    refine ⟨b, o, A', n', c', e, ?_⟩
    have : ((List.range len).map f).getD k (0, 0, ⟨#[]⟩) = f k := by simp [List.getD, hk]
    rw [this]
    exact h0

theorem strs_open {H : Type} {enc : TypeId × Value → H} {W : World} {a : Option Addr} {len cap : Nat} {d : DataW H} {p : List MemPlace}
    (h : DataW.Trod enc Try.prog W 0 (fun _ => true) true 22 (.slice a len cap) d p) : ∃ ss : List ByteArray, StrsAt W a len ss ∧ ss.length = len ∧ len ≤ cap ∧ ∀ s, s ∈ ss → s.size ≤ 9223372036854775807 := by
  obtain ⟨fuel, hf⟩ := h
  rcases Go.Deep.open_strs Try.underlying22 Try.underlying9 cells9 hf with ⟨hcs, _⟩ | ⟨a', len', cap', m, Sx, hcs, _, hl, _, hm, _, hx⟩
  · simp [Value.cells] at hcs
    obtain ⟨rfl, rfl, rfl⟩ := hcs
    exact ⟨[], fun k hk => by omega, rfl, Nat.le_refl _, by simp⟩
  · simp [Value.cells] at hcs
    obtain ⟨rfl, rfl, rfl⟩ := hcs
    simp only [if_true] at hm
    refine ⟨(List.range len).map Sx, fun k hk => ?_, by simp, hl, fun s hs => ?_⟩
    · have h0 := (hx 0 (by omega)).1
      obtain ⟨b, o, spot⟩ := a'
      have hspot : spot = none := by simpa [Addr.add] using World.cell?_spot h0
      subst hspot
      refine ⟨b, o, rfl, ?_⟩
      rw [← add_plain, (hx k (by omega)).1]
      simp [List.getD, hk]
    · obtain ⟨k, hk, rfl⟩ := List.mem_map.1 hs
      exact (hx k (by have := List.mem_range.1 hk; omega)).2

set_option maxHeartbeats 1000000 in
theorem early_any (A : Option Addr) (n c : Nat) (w : World) (hnc : n ≤ c) :
    Calls Try.prog 18 #[.slice A n c] w fun e w' => e = .returned (.slice A (min n 200) c) ∧ w = w' := by
  obtain ⟨m, hm⟩ : ∃ m : Nat, m = min n 200 := ⟨_, rfl⟩
  have hm2 : m ≤ n := by omega
  have hmt : (min (n : Int) 200) = m := by omega
  have HM := Lib.hid hm
  rw [← hm]
  clear hm
  go_enter Try.func18, Try.ntmps18
  go_wp2
  go_ret
  exact ⟨rfl, rfl⟩
end Go.Proofs.Ytclfklpekkkkfaa
