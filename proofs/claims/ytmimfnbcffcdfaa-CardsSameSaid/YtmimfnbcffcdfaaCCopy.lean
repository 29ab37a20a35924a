/-
  WORDS: copy of at most three spans into a row of three zero spans, as a step of a region that draws; a row of three spans, known whole. No condition.
-/
import Derived.Test.YtmimfnbcffcdfaaCVals
import Derived.Deep.RegionLaw
namespace Go.Proofs.Ytmimfnbcffcdfaa
open Go.RowKit

theorem info48 : (Try.prog.info? 48).map (fun i => (i.zero, i.size, i.bytes)) = some (some (.agg #[.int .i64 0, .int .i64 0, .int .i64 0]), 3, 24) := by kernel_rfl
/-- the nine cells of three spans, zero where there is none. -/
abbrev nine (l : List Sp) : Array Value := #[.int .i64 (l.getD 0 Sp.z).at_, .int .i64 (l.getD 0 Sp.z).st, .int .i64 (l.getD 0 Sp.z).len, .int .i64 (l.getD 1 Sp.z).at_, .int .i64 (l.getD 1 Sp.z).st, .int .i64 (l.getD 1 Sp.z).len, .int .i64 (l.getD 2 Sp.z).at_, .int .i64 (l.getD 2 Sp.z).st, .int .i64 (l.getD 2 Sp.z).len]
abbrev zero9 : Array Value := #[.int .i64 0, .int .i64 0, .int .i64 0, .int .i64 0, .int .i64 0, .int .i64 0, .int .i64 0, .int .i64 0, .int .i64 0]
theorem nine_nil : nine [] = zero9 := rfl
theorem nine_le (l : List Sp) (h : l.length ≤ 3) : ((spsCells l) ++ zero9.toList.drop (spsCells l).length).toArray = nine l := by
  match l, h with
  | [], _ => rfl
  | [a], _ => rfl
  | [a, b], _ => rfl
  | [a, b, c], _ => rfl

theorem copy3_run (W : World) (g t ty n c B : Nat) (A : Option Addr) (l : List Sp) (hg : W.heap[g]? = some (.cells zero9 t (0, 0))) (hA : SpsAt W B A n l) (hn : n ≤ 3) :
    ∃ W', (Builtin.copy_ #[23, 23] ty #[.slice (some ⟨g, 0, none⟩) 3 3, .slice A n c]).run Try.prog W = .ok (.int .i64 (n : Int)) W' ∧ W'.heap[g]? = some (.cells (nine l) t (0, 0)) ∧ (∀ base w0, base ≤ g → Below base w0 W → Below base w0 W') := by
  obtain ⟨i0, hi, hz0, hz1, hz2⟩ := info_parts info48
  have hl := hA.len
  have hmin : Nat.min n 3 = n := by simp [Nat.min_def]; omega
  rcases Nat.eq_zero_or_pos n with h0 | h0
  · subst h0
    have hl0 : l = [] := List.eq_nil_of_length_eq_zero hl
    subst hl0
    refine ⟨W, ?_, hg, fun base w0 _ hb => hb⟩
    have hld : ∀ (x : Addr), (loadCells x 0).run Try.prog W = .ok #[] W := fun x => by simpa using run_loadCells_list (P := Try.prog) W x [] (by simp)
    cases A <;> simp [Builtin.copy_, run_underlying Try.underlying23, Builtin.lenOf, Builtin.firstCells, sizeOf, typeInfo, hi, storeCells, hld, goInt]
  · obtain ⟨b, o, rfl, hb, -⟩ := hA.at_ h0
    have hlen : (spsCells l).length = n * 3 := by rw [spsCells_len, hl]
    have hload := run_loadCells_list (P := Try.prog) W ⟨b, o, none⟩ (spsCells l) (fun j v hj => by
      have hj2 : j < n * 3 := by
        have := (List.getElem?_eq_some_iff.1 hj).1
        rwa [hlen] at this
      obtain ⟨b', o', e, _, h1, h2, h3⟩ := hA.at_ (k := j / 3) (by omega)
      cases e
      obtain ⟨g1, g2, g3⟩ := spsCells_at l (j / 3) (by omega)
      rw [Go.WideShapes.add_plain]
      have hm : j = j / 3 * 3 ∨ j = j / 3 * 3 + 1 ∨ j = j / 3 * 3 + 2 := by omega
      rcases hm with hm | hm | hm
      · rw [hm] at hj ⊢; rw [g1] at hj; rw [h1, hj]
      · rw [hm] at hj ⊢; rw [g2] at hj; rw [← Nat.add_assoc, h2, hj]
      · rw [hm] at hj ⊢; rw [g3] at hj; rw [← Nat.add_assoc, h3, hj])
    have hone : ∀ v ∈ spsCells l, v.oneCell' = true := by
      intro v hv
      simp only [spsCells, List.mem_flatMap, spCells] at hv
      obtain ⟨s, _, hs⟩ := hv
      simp at hs
      rcases hs with rfl | rfl | rfl <;> rfl
    have hst := run_storeCells_at Try.prog g 0 t (spsCells l) 0 zero9 W hg (by rw [hlen]; show 0 + 0 + n * 3 ≤ 9; omega) hone
    refine ⟨_, ?_, setRow_heap W g _ _ t _ hg, fun base w0 hbg hb => hb.trans ⟨rfl, rfl, rfl, by simp [World.setRow], fun k hk => setRow_other W g k _ (by omega)⟩⟩
    rotate_left
    rotate_left
    · rw [hlen] at hload
      simp [Builtin.copy_, run_underlying Try.underlying23, Builtin.lenOf, Builtin.firstCells, sizeOf, typeInfo, hi, hz1, hmin, hload, goInt]
      rw [hst]
      simp only [Result.andThen_ok]
      congr 2
      rw [← nine_le l (by omega)]
      simp

theorem step_copy3 {ops : Array Oper} {o : Oper} {a : Act} {K : Act → World → Prop} {Q : Exit → Act → World → Prop} {E : Prop} (hgd : o.guard = none) (d s : Operand)
    (ho : o.op = .call { callee := .builtin .copy, args := #[d, s], argTypes := #[23, 23] }) (W : World) (g t n c B : Nat) (A : Option Addr) (l : List Sp)
    (hd : a.eval d = .slice (some ⟨g, 0, none⟩) 3 3) (hs : a.eval s = .slice A n c) (hg : W.heap[g]? = some (.cells zero9 t (0, 0))) (hA : SpsAt W B A n l) (hn : n ≤ 3)
    (h : ∀ W', W'.heap[g]? = some (.cells (nine l) t (0, 0)) → (∀ base w0, base ≤ g → Below base w0 W → Below base w0 W') → K (a.put o.dst (.int .i64 (n : Int))) W') :
    if Region.wanted o (yielded ops a.tmps) = true then Oper.wp Try.prog o a W K Q else E := by
  have hw : Region.wanted o (yielded ops a.tmps) = true := by simp [Region.wanted, hgd]
  rw [if_pos hw]
  obtain ⟨W', hrun, h1, h2⟩ := copy3_run W g t o.type n c B A l hg hA hn
  unfold Oper.wp
  simp [execOp, ho, resolve, invoke, builtin, hd, hs, hrun, Result.andThen]
  exact h W' h1 h2
end Go.Proofs.Ytmimfnbcffcdfaa
