/-
  WALKS: any step of the law's script; a new slab's log and deal; early; lives. Condition: a deal on a calm slab, beside the reference's.
-/
import Derived.Test.YtgdlfiejjnjcpaaGreatDU
import Derived.Deep.RegionHeld3
import Derived.Deep.DeepMust
import Derived.Deep.DeepFit
set_option linter.unusedVariables false
set_option linter.unusedSimpArgs false
set_option maxRecDepth 100000
set_option maxHeartbeats 4000000
namespace Go.Proofs.YtgdlfiejjnjcpaaGreat.Dl
open Go.RowKit
open Sl (Turns SlabAt)
open Lg (Ch chCells chsCells FS LogAt Whole setL setL_len ownB bcell newD newD_len newD_whole newD_get z128)
open Kr (crv rightK blockK okK kf kb kc)

/-! ### a new slab -/
theorem open_new (n p pd pm : Nat) (hn : 64 ≤ n) (w : World) (hS : SlabAt w p pd pm (FS (newD n) 0)) :
    Calls Tryz.prog 23 #[.pointer (some ⟨p, 0, none⟩)] w fun e w' => ∃ q, e = .returned (.tuple #[.pointer (some ⟨q, 0, none⟩), .int .i64 0]) ∧ w.heap.size ≤ q ∧ LogAt w' q p 0 ∧ SlabAt w' p pd pm (FS (newD n) 0) ∧ Turns [p, pd, pm] w w' := by
  obtain ⟨k1, k2, k3⟩ := Lg.calm_open (newD_get (n := n) (k := 1) (by omega)) 0
  refine (Lg.open_any p pd pm (newD n) 0 w hS (newD_whole n) (by omega)).mono ?_
  rintro e w' ⟨t, _, _, hx⟩
  obtain ⟨q, rfl, hq, Q, S⟩ := hx (by rw [newD_len]; exact hn) k1
  rw [k2, k3] at S
  exact ⟨q, rfl, hq, Q, S, t⟩
/-- a new deal of a log. -/
theorem DV.fresh {w : World} {d q p pd pm k c : Nat} {D : List ByteArray} (hd : DealAt w d q (.slice none 0 0)) (hq : LogAt w q p k) (hS : SlabAt w p pd pm (FS D c)) (h1 : d ≠ q) (h2 : d ∉ [p, pd, pm]) (h3 : q ∉ [p, pd, pm]) (hw : Whole D) (hN : 64 ≤ D.length) :
    DV w w.heap.size d q p pd pm k c D D (.slice none 0 0) :=
  ⟨[], ⟨⟨hd.lt, hq.lt, hS.lt_p, hS.lt_d, hS.lt_m, h1, h2, h3⟩, Nat.le_refl _, hd, hq, hS, ⟨rfl, .inl ⟨rfl, rfl⟩⟩, Inv.nil D, hw, hN⟩, rfl⟩
/-! ### lives -/
theorem diffL_self (D : List ByteArray) : diffL D D = [] := by
  unfold diffL
  rw [List.filter_eq_nil_iff.2 (by simp)]
  rfl
end Go.Proofs.YtgdlfiejjnjcpaaGreat.Dl
