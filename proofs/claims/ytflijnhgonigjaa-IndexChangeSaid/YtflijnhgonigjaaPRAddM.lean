/-
  PLAIN MATHEMATICS for the reference's Add: how far its two loops have come. No condition.
-/
import Derived.Test.YtflijnhgonigjaaPPlayM
namespace Go.Proofs.Ytflijnhgonigjaa

/-- the place that the reference's first loop has found behind k pages. -/
def placeTo (p : Pg) (s : ByteArray) (k : Nat) : Nat := min k (lead (notAfter s) p) - 1
theorem placeTo_zero (p : Pg) (s : ByteArray) : placeTo p s 0 = 0 := by unfold placeTo; omega
theorem placeTo_yes {p : Pg} (h : rightP p = true) {s : ByteArray} {k : Nat} (hk : k < p.length) (hn : ltB s (firstN (p.getD k [])) = false) : placeTo p s (k + 1) = k := by
  have h1 := notAfter_iff h s hk
  unfold notAfter at h1
  rw [hn] at h1
  have h2 := of_decide_eq_true h1.symm
  unfold placeTo
  show min (k + 1) (lead (notAfter s) p) - 1 = k
  unfold notAfter
  omega
theorem placeTo_no {p : Pg} (h : rightP p = true) {s : ByteArray} {k : Nat} (hk : k < p.length) (hn : ltB s (firstN (p.getD k [])) = true) : placeTo p s (k + 1) = placeTo p s k := by
  have h1 := notAfter_iff h s hk
  unfold notAfter at h1
  rw [hn] at h1
  have h2 := of_decide_eq_false h1.symm
  unfold placeTo notAfter
  omega
theorem placeTo_end (p : Pg) (s : ByteArray) : placeTo p s p.length = atP p s := by
  have := lead_le (notAfter s) p
  unfold placeTo atP
  omega

/-- the pages that the reference's second loop has made behind k pages: l goes in the place of page i. -/
def putTo (p : Pg) (i : Nat) (l : List En) (k : Nat) : Pg := if k ≤ i then p.take k else putP (p.take k) i l
theorem take_pg {p : Pg} {k : Nat} (hk : k < p.length) : p.take (k + 1) = p.take k ++ [p.getD k []] := by
  rw [pg_getD hk, List.take_add_one, List.getElem?_eq_getElem hk]; rfl
theorem putTo_zero (p : Pg) (i : Nat) (l : List En) : putTo p i l 0 = [] := by unfold putTo; simp
theorem putTo_lt {p : Pg} {i : Nat} (l : List En) {k : Nat} (hk : k < p.length) (h : k < i) : putTo p i l (k + 1) = putTo p i l k ++ [p.getD k []] := by
  unfold putTo
  rw [if_pos (by omega), if_pos (by omega), take_pg hk]
theorem putTo_at10 {p : Pg} {l : List En} {k : Nat} (hk : k < p.length) (h : l.length = 10) : putTo p k l (k + 1) = putTo p k l k ++ [l.take 5, l.drop 5] := by
  unfold putTo putP
  rw [if_neg (by omega), if_pos (Nat.le_refl _), if_pos h, List.take_take, (show (p.take (k + 1)).drop (k + 1) = [] from List.drop_eq_nil_of_le (by rw [List.length_take]; omega)), show min k (k + 1) = k by omega]
theorem putTo_at {p : Pg} {l : List En} {k : Nat} (hk : k < p.length) (h : l.length ≠ 10) : putTo p k l (k + 1) = putTo p k l k ++ [l] := by
  unfold putTo putP
  rw [if_neg (by omega), if_pos (Nat.le_refl _), if_neg h, List.take_take, (show (p.take (k + 1)).drop (k + 1) = [] from List.drop_eq_nil_of_le (by rw [List.length_take]; omega)), show min k (k + 1) = k by omega]
theorem putTo_gt {p : Pg} {i : Nat} (l : List En) {k : Nat} (hk : k < p.length) (h : i < k) : putTo p i l (k + 1) = putTo p i l k ++ [p.getD k []] := by
  unfold putTo putP
  rw [if_neg (show ¬ k + 1 ≤ i by omega), if_neg (show ¬ k ≤ i by omega), List.take_take, List.take_take, show min i (k + 1) = min i k by omega, take_pg hk, List.drop_append_of_le_length (by rw [List.length_take]; omega)]
  split <;> simp
theorem putTo_end {p : Pg} {i : Nat} (l : List En) (h : i < p.length) : putTo p i l p.length = putP p i l := by
  unfold putTo
  rw [if_neg (by omega), List.take_length]
end Go.Proofs.Ytflijnhgonigjaa
