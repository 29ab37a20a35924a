/-
  WALKS: Parent. Conditions: internal/bytealg.MaxLen holds an int.
-/
import Derived.Test.YtcijpefddicmiaaDoorJoin
namespace Go.Proofs.YtcijpefddicmiaaDoor
open Go.RowKit

theorem names_len {p : List UInt8} {l : List (List UInt8)} (h : namesL p = some l) : l.length ≤ 256 := by
  unfold namesL at h
  split at h
  · cases h; simp
  · split at h
    · rename_i r _
      split at h
      · rename_i hh
        cases h
        have := pieces_count r
        have h1 := hh.1
        simp at h1
        omega
      · cases h
    · cases h

def parentL (o : Option (List (List UInt8))) : List UInt8 × List UInt8 × Int :=
  match o with
  | none => ([], [], 4)
  | some l => if l.length = 0 then ([], [], 1) else ((joinL (l.take (l.length - 1))).getD [], l.getD (l.length - 1) [], 0)
/-- an answer of Parent. -/
def RetParent (w : World) (x : List UInt8 × List UInt8 × Int) (e : Ending) (w' : World) : Prop :=
  e = .returned (.tuple #[.string (bs x.1), .string (bs x.2.1), .int .i64 x.2.2]) ∧ Below w.heap.size w w'

set_option maxHeartbeats 4000000 in
theorem parent_any (p : List UInt8) (w : World) (hp : p.length ≤ 140737488355328) (hm : MaxAt w) : Calls Tryd.prog 14 #[.string (bs p)] w (RetParent w (parentL (namesL p))) := by
  have HS := Lib.hid (split_any p w hp hm)
  cases ho : namesL p with
  | none =>
    rw [ho] at HS
    generalize bs p = P at *
    go_enter Tryd.func14, Tryd.ntmps14
    go_wp2_with fail
    refine HS.out.mono ?_
    rintro e w1 ⟨A, n, c, rfl, hb, hA, hnc⟩
    rw [show errI (none : Option (List (List UInt8))) = 4 from rfl]
    go_wp2
    go_ret3
    exact ⟨rfl, hb⟩
  | some l =>
    rw [ho] at HS
    have hlen := names_len ho
    by_cases h0 : l.length = 0
    · generalize bs p = P at *
      go_enter Tryd.func14, Tryd.ntmps14
      go_wp2_with fail
      refine HS.out.mono ?_
      rintro e w1 ⟨A, n, c, rfl, hb, hA, hnc⟩
      rw [show errI (some l) = 0 from rfl]
      have hn : n = 0 := by rw [← hA.len]; exact h0
      subst hn
      go_wp2
      go_ret3
      exact ⟨by simp [parentL, h0]; rfl, hb⟩
    · generalize bs p = P at *
      have hres : parentL (some l) = ((joinL (l.take (l.length - 1))).getD [], l.getD (l.length - 1) [], 0) := by simp [parentL, h0]
      have HR := Lib.hid hres
      clear hres
      generalize parentL (some l) = x at *
      go_enter Tryd.func14, Tryd.ntmps14
      go_wp2_with fail
      refine HS.out.mono ?_
      rintro e w1 ⟨A, n, c, rfl, hb, hA, hnc⟩
      rw [show errI (some l) = 0 from rfl]
      have hA' : StrsAt w1 w1.heap.size A n l := hA
      have hl : l.length = n := hA'.len
      obtain ⟨m, rfl⟩ : ∃ m, n = m + 1 := ⟨n - 1, by omega⟩
      rw [hl, show m + 1 - 1 = m from rfl] at HR
      obtain ⟨a0, o0, rfl, ha0, -⟩ := hA'.at_ (k := 0) (by omega)
      have hne : (((m + 1 : Nat) : Int) == 0) = false := by rw [beq_eq_false_iff_ne]; omega
      have hm1 : ((m + 1 : Nat) : Int) - 1 = (m : Int) := by omega
      have hJ : Hid (Calls Tryd.prog 18 #[.slice (some ⟨a0, o0, none⟩) m c] w1 (RetJoin w1 (joinL (l.take m)))) := join_any (l.take m) _ m c w1 (hA'.take m (by omega)) (by omega)
      have hcell : w1.cell? ⟨a0, o0 + m, none⟩ = some (.string (bs (l.getD m []))) := by
        obtain ⟨b, o, e, hB, hcc⟩ := hA'.at_ (k := m) (by omega)
        cases e
        exact hcc
      have hlt : a0 < w1.heap.size := ha0
      go_wp2_with fail
      refine hJ.out.mono ?_
      rintro e w2 ⟨rfl, hb2⟩
      have hcell2 : w2.cell? ⟨a0, o0 + m, none⟩ = some (.string (bs (l.getD m []))) := (hb2.cell hlt).trans hcell
      clear hcell hA hA' hJ
      generalize joinL (l.take m) = J at *
      generalize hX : bs (l.getD m []) = X at *
      have hm0 : (0 : Int) ≤ (m : Int) := by omega
      go_wp2
      go_region
      go_wp2
      go_ret3
      rw [HR.out]
      exact ⟨by subst hX; rfl, (hb.trans (hb2.mono hb.size)).drew⟩
end Go.Proofs.YtcijpefddicmiaaDoor
