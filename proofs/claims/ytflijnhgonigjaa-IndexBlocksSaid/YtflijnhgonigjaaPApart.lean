/-
  WORDS OF MEMORY: a row of pages of the call's own behind a Below; a row of entries of the call's own lies apart from an elder row of pages. No condition.
-/
import Derived.Test.YtflijnhgonigjaaPAdd
namespace Go.Proofs.Ytflijnhgonigjaa
open Go.RowKit

theorem OwnPg.beneath {w w' : World} {base : Nat} {v : Value} {p : Pg} (h : OwnPg w base v p) (hb : Below w.heap.size w w') : OwnPg w' base v p := by
  obtain ⟨vs, ho, hv⟩ := h
  refine ⟨vs, own_below ho hb (Nat.le_refl _), hv.1, fun k hk => ?_⟩
  obtain ⟨x, e, A, c, e2, hc, hE, hf⟩ := hv.2 k hk
  exact ⟨x, e, A, c, e2, hc, (hE.below hb (Nat.le_refl _)).more hb.size, hf⟩
theorem own_apart {w w' : World} {base : Nat} {v x : Value} {p : Pg} {l : List En} (hown : w'.ownsRow w.heap.size 47 2 x l.length (ensCells l)) (hf : ∀ s ∈ l, s.fit) (ho : OwnPg w base v p) :
    ∃ A c, x = .slice A l.length c ∧ SlE w' w'.heap.size v x l := by
  obtain ⟨A, c, rfl, hc⟩ := own_slice hown
  refine ⟨A, c, rfl, A, c, rfl, hc, EnsAt.of_own hown rfl hf, fun hn a ha hv => ?_⟩
  obtain ⟨vs, hov, -⟩ := ho
  have h1 := (hov.lt a.block hv).2
  obtain ⟨g, cap, e, hg, -⟩ := hown.form hn
  injection e with e1 e2
  rw [e1] at ha
  injection ha with ha
  rw [← ha] at h1
  simp only at h1
  omega
end Go.Proofs.Ytflijnhgonigjaa
