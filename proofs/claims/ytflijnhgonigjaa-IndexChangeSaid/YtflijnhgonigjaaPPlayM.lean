/-
  PLAIN MATHEMATICS for IndexPlay: what the script's own list says of pages; the language's own order of texts. No condition.
-/
import Derived.Test.YtflijnhgonigjaaPDrop
namespace Go.Proofs.Ytflijnhgonigjaa

theorem kL_step {l : List En} (h : Asc l) (s : ByteArray) {q : Nat} (hq : q < l.length) (hle : q ≤ kL l s) : (ltB (l.getD q En.z).nm s = true → q + 1 ≤ kL l s) ∧ (ltB (l.getD q En.z).nm s = false → kL l s = q) := by
  have hb := below_iff h s hq
  constructor
  · intro h1
    rw [h1] at hb
    have := of_decide_eq_true hb.symm
    omega
  · intro h1
    rw [h1] at hb
    have := of_decide_eq_false hb.symm
    omega
theorem add_err_ne {p : Pg} {s : ByteArray} {n : Int} (hh : ¬ (nodeB n = true ∧ rightB s = true ∧ hasL p.flatten s = false ∧ p.flatten.length ≠ 160)) : (addP p s n).2 ≠ 0 := addP_no hh
theorem drop_none {p : Pg} {s : ByteArray} (h : rightP p = true) (hh : hasL p.flatten s = false) : (dropP p s).2.2 = 5 := by rw [dropP_2 h hh]
theorem bytesLess_cmp : ∀ a b : List UInt8, Op.bytesLess a b = decide (Lib.compareBytes a b < 0)
  | [], [] => by simp [Op.bytesLess, Lib.compareBytes]
  | [], _ :: _ => by simp [Op.bytesLess, Lib.compareBytes]
  | _ :: _, [] => by simp [Op.bytesLess, Lib.compareBytes]
  | x :: a, y :: b => by
    have ih := bytesLess_cmp a b
    rw [Op.bytesLess, Lib.compareBytes, ih]
    by_cases h1 : x < y
    · simp [h1]
    · by_cases h2 : y < x
      · have : (x == y) = false := by
          rw [beq_eq_false_iff_ne]
          rintro rfl
          exact UInt8.lt_irrefl _ h2
        simp [h1, h2, this]
      · have : x = y := by
          rw [UInt8.lt_iff_toNat_lt] at h1 h2
          exact UInt8.toNat_inj.1 (by omega)
        simp [this]
theorem bytesLess_lt (a b : ByteArray) : Op.bytesLess a.toList b.toList = ltB a b := by
  rw [ByteArray.toList_eq, ByteArray.toList_eq, bytesLess_cmp]; rfl
theorem right_plen {p : Pg} (h : rightP p = true) : p.length ≤ 160 := by
  obtain ⟨h1, -, h3⟩ := rightP_iff.1 h
  have : ∀ q : Pg, (∀ l ∈ q, 1 ≤ l.length) → q.length ≤ q.flatten.length := by
    intro q
    induction q with
    | nil => simp
    | cons l q ih =>
      intro hq
      have h4 := ih (fun x hx => hq x (List.mem_cons_of_mem _ hx))
      have h5 := hq l (by simp)
      rw [List.flatten_cons, List.length_append, List.length_cons]; omega
  have := this p (fun l hl => (h1 l hl).1)
  omega
end Go.Proofs.Ytflijnhgonigjaa
