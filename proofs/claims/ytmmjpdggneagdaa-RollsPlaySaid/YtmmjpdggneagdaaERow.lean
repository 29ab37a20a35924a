/-
  WORDS for RollsPlay: an append that leaves another row as it lies; 'append(l, m..)' in a region that draws; a slice cut behind. No condition.
-/
import Derived.Test.YtmmjpdggneagdaaELives
import Derived.Test.YtmmjpdggneagdaaEPlay
import Derived.Deep.RegionLaw
namespace Go.Proofs.Ytmmjpdggneagdaa
open Go.RowKit

/-- the slice at A (with n elements) lies in another block than v. -/
def Apart (A : Option Addr) (n : Nat) (v : Value) : Prop := 0 < n → ∀ b o, A = some ⟨b, o, none⟩ → v.ownBlock ≠ some b
theorem Apart.nil (A : Option Addr) (n : Nat) : Apart A n (.slice none 0 0) := fun _ b o _ => by simp [Value.ownBlock]
/-- a row that is older than a world is apart from what is made behind it. -/
theorem Apart.old {w : World} {base base' n m : Nat} {v : Value} {A : Option Addr} {c : Nat} {l l2 : List En} {w1 : World} (h : w.ownsRow base 43 2 v l.length (ensCells l)) (h1 : w1.ownsRow base' 43 2 (.slice A m c) n (ensCells l2)) (hb : w.heap.size ≤ base') : Apart A m v := by
  intro hm b o e
  subst e
  intro hv
  have a := (h.lt b hv).2
  have c := (h1.lt b rfl).1
  omega
theorem Apart.new {w : World} {base n : Nat} {B m : Nat} {v : Value} {A : Option Addr} {l : List En} {w1 : World} {l2 : List En} (h : w.ownsRow base 43 2 v n (ensCells l2)) (h1 : EnsAt w1 B A m l) (hb : B ≤ base) : Apart A m v := by
  intro hm b o e hv
  obtain ⟨b', o', e', hlt, -⟩ := h1.at_ hm
  rw [e] at e'
  injection e' with e'
  injection e' with e1
  have := (h.lt b hv).1
  omega

theorem EnsAt.drop {w : World} {B b o n : Nat} {l : List En} (h : EnsAt w B (some ⟨b, o, none⟩) n l) (k : Nat) : EnsAt w B (some ⟨b, o + k * 2, none⟩) (n - k) (l.drop k) := by
  refine ⟨by rw [List.length_drop, h.len], fun e he => h.2.1 e (List.mem_of_mem_drop he), fun j hj => ?_⟩
  obtain ⟨b', o', e, hb, h1, h2⟩ := h.at_ (k := k + j) (by omega)
  injection e with e
  injection e with e1 e2
  subst e1 e2
  have e3 : (l.drop k).getD j En.z = l.getD (k + j) En.z := by simp [List.getD, List.getElem?_drop]
  rw [e3]
  exact ⟨b, o + k * 2, rfl, hb, by rw [show o + k * 2 + j * 2 = o + (k + j) * 2 by omega]; exact h1, by rw [show o + k * 2 + j * 2 + 1 = o + (k + j) * 2 + 1 by omega]; exact h2⟩

/-- 'append(l, s)' of entries, at the list of a plain region's operations; what lies apart is kept. -/
theorem push_far {ops : Array Oper} {rest : List Oper} {o : Oper} {a : Act} {Q : Exit → Act → World → Prop} (hgd : o.guard = none) (s x : Operand)
    (ho : o.op = .call { callee := .builtin .append, args := #[s, x], argTypes := #[22, 22] })
    (base : Nat) (W : World) (v : Value) (l : List En) (nm : ByteArray) (nd : Int) (hs : a.eval s = v) (hx : a.eval x = .slice (some ⟨W.heap.size, 0, none⟩) 1 1)
    (hown : W.ownsRow base 43 2 v l.length (ensCells l)) (hl : l.length ≤ 100000) (hbase : base ≤ W.heap.size)
    (h : ∀ v' w', w'.ownsRow base 43 2 v' (l ++ [(⟨nm, nd⟩ : En)]).length (ensCells (l ++ [⟨nm, nd⟩])) → Below base W w' → (∀ B A n l2, EnsAt W B A n l2 → B ≤ W.heap.size → Apart A n v → EnsAt w' B A n l2 ∧ Apart A n v') →
      wpList Try.prog ops Q rest (a.put o.dst v') w') :
    wpList Try.prog ops Q (o :: rest) a (W.alloc (.cells #[.string nm, .int .i64 nd] 43)) := by
  obtain ⟨i0, hi, hz0, hz1, hz2⟩ := info_parts info43
  refine wpList_append_lies _ hgd s x 22 ho base 43 i0 _ 2 24 Try.underlying22 hi hz0 hz1 hz2 rfl (by decide) v l.length (ensCells l) hs (hown.alloc _) ⟨W.heap.size, 0, none⟩ 1 1 (enCells ⟨nm, nd⟩) hx rfl
    (World.news_of_block (heap_alloc_new W _)) (one_en ⟨nm, nd⟩) (by omega) (by unfold maxLen; omega) (by omega) (by simp; omega) _ rfl ?_
  intro g cap w' hown' hg hat hlt
  refine h _ w' ?_ ?_ ?_
  · rw [ensCells_snoc, List.length_append]; exact hown'
  · exact (((Below.refl base W).alloc hbase _).grown hg (by simp; omega) (fun k hk => (hown.lt k hk).1))
  · intro B A n l2 hA hB hap
    refine ⟨⟨hA.1, hA.2.1, fun k hk => ?_⟩, fun hn b o e => ?_⟩
    · obtain ⟨b, o, e, hb, h1, h2⟩ := hA.at_ hk
      have hne := hap (by omega) b o e
      have hsz : (W.alloc (.cells #[.string nm, .int .i64 nd] 43)).heap.size = W.heap.size + 1 := by simp
      refine ⟨b, o, e, hb, ?_, ?_⟩
      · rw [hg.cell_far _ (by rw [hsz]; show b < _; omega) hne.symm, World.cell?_alloc_lt W _ _ (by show b < _; omega)]; exact h1
      · rw [hg.cell_far _ (by rw [hsz]; show b < _; omega) hne.symm, World.cell?_alloc_lt W _ _ (by show b < _; omega)]; exact h2
    · obtain ⟨b', o', e', hb, -, -⟩ := hA.at_ hn
      rw [e] at e'
      injection e' with e'
      injection e' with e1
      have hne := hap hn b o e
      intro hv
      have hgb : g = b := by simpa [Value.ownBlock] using hv
      rcases hat with h1 | h1
      · exact hne (by rw [h1, hgb])
      · simp at h1; omega

/-- 'append(l, m...)' of entries, at a step of a region that draws its order. -/
theorem step_join {ops : Array Oper} {o : Oper} {a : Act} {K : Act → World → Prop} {Q : Exit → Act → World → Prop} {E : Prop} (hgd : o.guard = none) (s x : Operand)
    (ho : o.op = .call { callee := .builtin .append, args := #[s, x], argTypes := #[22, 22] })
    (base : Nat) (W : World) (v : Value) (l : List En) (hs : a.eval s = v) (B : Nat) (A : Option Addr) (m c : Nat) (l2 : List En) (hx : a.eval x = .slice A m c)
    (hown : W.ownsRow base 43 2 v l.length (ensCells l)) (hA : EnsAt W B A m l2) (hl : l.length + m ≤ 100000) (hbase : base ≤ W.heap.size)
    (h : ∀ v' w', w'.ownsRow base 43 2 v' (l ++ l2).length (ensCells (l ++ l2)) → Below base W w' → K (a.put o.dst v') w') :
    if Region.wanted o (yielded ops a.tmps) = true then Oper.wp Try.prog o a W K Q else E := by
  have hw : Region.wanted o (yielded ops a.tmps) = true := by simp [Region.wanted, hgd]
  rw [if_pos hw]
  obtain ⟨i0, hi, hz0, hz1, hz2⟩ := info_parts info43
  cases A with
  | none =>
    have hm : m = 0 := by
      rcases Nat.eq_zero_or_pos m with h0 | h0
      · exact h0
      · obtain ⟨b, o, e, _⟩ := hA.at_ h0; cases e
    subst hm
    have hl2 : l2 = [] := List.eq_nil_of_length_eq_zero hA.len
    subst hl2
    have hrun := run_append_of_nil (P := Try.prog) W base 22 o.type 43 i0 2 Try.underlying22 hi v l.length (ensCells l) hown c
    unfold Oper.wp
    simp [execOp, ho, resolve, invoke, builtin, hs, hx, hrun, Result.andThen]
    exact h v W (by rw [List.append_nil]; exact hown) (Below.refl _ _)
  | some ad =>
    refine wp_append_own _ s x 22 ho base 43 i0 _ 2 24 Try.underlying22 hi hz0 hz1 hz2 rfl (by decide) v l.length (ensCells l) hs hown ad m c (ensCells l2) hx (by rw [ensCells_len, hA.len])
      hA.news (ensCells_one l2) (by unfold maxLen; omega) (by omega) hbase ?_
    intro v' w' hown' hg _
    refine h v' w' ?_ ?_
    · rw [ensCells_append, List.length_append, hA.len]; exact hown'
    · exact (Below.refl base W).grown hg hbase (fun k hk => (hown.lt k hk).1)
end Go.Proofs.Ytmmjpdggneagdaa
