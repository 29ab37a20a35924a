/-
  WORDS: the reference's Add, of any; how long an answer is. Conditions: at most 10000 pages, at most 100000 entries in all.
-/
import Derived.Test.YtflijnhgonigjaaPRDrop
namespace Go.Proofs.Ytflijnhgonigjaa
open Go.RowKit

theorem radd_any (A : Option Addr) (n c B : Nat) (p : Pg) (s : ByteArray) (z : Int) (w : World) (hA : PgsAt w B A n p) (hB : B ≤ w.heap.size) (hn : n ≤ 10000) (hm : p.flatten.length ≤ 100000) (hs : s.size ≤ 140737488355328) :
    Calls Try.prog 21 #[.slice A n c, .string s, .int .i64 z] w (RetAP w (addP p s z)) := by
  by_cases h : rightP p = true ∧ nodeB z = true ∧ rightB s = true ∧ hasL p.flatten s = false ∧ p.flatten.length ≠ 160
  · obtain ⟨h1, h2, h3, h4, h5⟩ := h
    by_cases hp : p = []
    · subst hp
      have e := hA.len
      simp only [List.length_nil] at e
      subst e
      rw [addP_nil h2 h3]
      exact radd_nil A c B s z w hB h2 h3
    · exact radd_some A n c B p s z w hA hB hn hm hs h1 h2 h3 h4 h5 hp
  · exact radd_err A n c B p s z w hA hB hn hm hs h
theorem len_le_flat : ∀ q : Pg, (∀ l ∈ q, 1 ≤ l.length) → q.length ≤ q.flatten.length
  | [], _ => Nat.le_refl _
  | l :: q, h => by
    have h1 := h l (List.mem_cons_self ..)
    have h2 := len_le_flat q fun x hx => h x (List.mem_cons_of_mem _ hx)
    rw [List.flatten_cons, List.length_append, List.length_cons]; omega
def Small (q : Pg) : Prop := q.length ≤ 160 ∧ ∀ l ∈ q, l.length ≤ 9
theorem Small.nil : Small [] := ⟨by simp, fun l hl => by simp at hl⟩
theorem Small.right {q : Pg} (h : rightP q = true) : Small q := by
  obtain ⟨h1, -, h3⟩ := rightP_iff.1 h
  have := len_le_flat q fun l hl => (h1 l hl).1
  exact ⟨by omega, fun l hl => (h1 l hl).2⟩
theorem addP_small (p : Pg) (s : ByteArray) (z : Int) : Small (addP p s z).1 := by
  by_cases h : rightP p = true ∧ nodeB z = true ∧ rightB s = true ∧ hasL p.flatten s = false ∧ p.flatten.length ≠ 160
  · obtain ⟨h1, h2, h3, h4, h5⟩ := h
    exact Small.right (addP_ok h1 h2 h3 h4 h5).2.2
  · have e : (addP p s z).1 = [] := by
      unfold addP
      split
      · rename_i h1
        split
        · rename_i h2
          split
          · rfl
          · rename_i h3
            split
            · rfl
            · rename_i h4
              exact absurd ⟨h1.1, h1.2, h2, by simpa using h3, h4⟩ h
        · rfl
      · rfl
    rw [e]; exact Small.nil
theorem dropP_small (p : Pg) (s : ByteArray) : Small (dropP p s).1 := by
  by_cases h : rightP p = true ∧ hasL p.flatten s = true
  · exact Small.right (dropP_ok h.1 h.2).2.2.2
  · have e : (dropP p s).1 = [] := by
      unfold dropP
      split
      · rename_i h1
        split
        · rename_i h2; exact absurd ⟨h1, h2⟩ h
        · rfl
      · rfl
    rw [e]; exact Small.nil
end Go.Proofs.Ytflijnhgonigjaa
