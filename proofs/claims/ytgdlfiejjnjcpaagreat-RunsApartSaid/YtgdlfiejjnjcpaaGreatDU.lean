/-
  A DEAL BESIDE THE REFERENCE's: what holds of both, what a step does to both; WALKS of kind and early; steps in memory. No condition.
-/
import Derived.Test.YtgdlfiejjnjcpaaGreatDS
set_option linter.unusedVariables false
set_option linter.unusedSimpArgs false
set_option maxRecDepth 100000
set_option maxHeartbeats 4000000
namespace Go.Proofs.YtgdlfiejjnjcpaaGreat.Dl
open Go.RowKit
open Sl (Turns SlabAt)
open Lg (Ch chCells chsCells FS LogAt Whole setL setL_len ownB bcell)
open Kr (crv rightK blockK okK kf kb kc)

/-! ### what one does leaves the other -/
section
variable {w w' : World} {B d q p pd pm k c : Nat} {D V : List ByteArray} {v : Value} {R r gb cb gn cn N : Nat} {base now : List ByteArray}
theorem DV.own_tag (h : DV w B d q p pd pm k c D V v) {j : Nat} (hj : v.ownBlock = some j) : ∃ cs, w.heap[j]? = some (.cells cs 68 (0, 0)) := by
  obtain ⟨l, h, _⟩ := h
  exact Dl.own_tag h.row hj
theorem all_in (L : List Nat) : ∀ j, j ∈ d :: L → j ∈ d :: q :: p :: pd :: pm :: L := fun j hj => by
  simp only [List.mem_cons] at hj ⊢
  rcases hj with h | h
  · exact .inl h
  · exact .inr (.inr (.inr (.inr (.inr h))))
/-- another deal of the same log that has written nothing. -/
theorem DV.other (h : DV w B d q p pd pm k c D V v) {d2 : Nat} (hd : DealAt w d2 q (.slice none 0 0)) (h1 : d2 < B) (h2 : d2 ≠ q) (h3 : d2 ∉ [p, pd, pm]) : DV w B d2 q p pd pm k c D D (.slice none 0 0) := by
  obtain ⟨l, h, _⟩ := h
  exact ⟨[], ⟨⟨h1, h.sep.hq, h.sep.hp, h.sep.hpd, h.sep.hpm, h2, h3, h.sep.qp⟩, h.hB, hd, h.lg, h.sl, ⟨rfl, .inl ⟨rfl, rfl⟩⟩, Inv.nil D, h.wh, h.len⟩, rfl⟩
end

/-! ### both alike -/
structure Agree (N : Nat) (V D now base : List ByteArray) : Prop where
  hnow : ∀ i, i < N → ownB (i : Int) = false → now.getD i ⟨#[]⟩ = V.getD i ⟨#[]⟩
  hbase : ∀ i, i < N → ownB (i : Int) = false → base.getD i ⟨#[]⟩ = D.getD i ⟨#[]⟩
  hown : ∀ i, i < N → ownB (i : Int) = true → now.getD i ⟨#[]⟩ = base.getD i ⟨#[]⟩
theorem getD_set2 {L : List ByteArray} {a b : Nat} {s : ByteArray} : (L.set a s).getD b ⟨#[]⟩ = if a = b ∧ a < L.length then s else L.getD b ⟨#[]⟩ := by
  by_cases hab : a = b
  · subst hab
    by_cases ha : a < L.length
    · rw [if_pos ⟨rfl, ha⟩]; simp [List.getD, ha]
    · rw [if_neg (fun h => ha h.2)]; simp [List.getD, ha]
  · rw [if_neg (fun h => hab h.1)]; simp [List.getD, hab]
theorem Agree.set {N : Nat} {V D now base : List ByteArray} (h : Agree N V D now base) (hV : V.length = N) (hn : now.length = N) {k : Nat} (hk : ownB (k : Int) = false) (s : ByteArray) : Agree N (V.set k s) D (now.set k s) base := by
  refine ⟨fun i hi ho => ?_, h.hbase, fun i hi ho => ?_⟩
  · rw [getD_set2, getD_set2, hV, hn]
    split
    · rfl
    · exact h.hnow i hi ho
  · have : k ≠ i := fun e => by rw [e, ho] at hk; cases hk
    rw [getD_set2, if_neg (fun e => this e.1)]
    exact h.hown i hi ho
theorem has_own {N : Nat} {i : Int} (h : hasB N i = true) : ownB ((i.toNat : Nat) : Int) = false := by
  have := hasB_t.1 h
  exact Lg.ownB_f.2 (by omega)
theorem wrOk_eq {A B : List ByteArray} (h : A.length = B.length) (i : Int) (s : ByteArray) : wrOk A i s = wrOk B i s := by simp only [wrOk, h]
theorem wrE_eq {A B : List ByteArray} (h : A.length = B.length) (i : Int) (s : ByteArray) : wrE A i s = wrE B i s := by simp only [wrE, wrOk_eq h]
theorem scE_eq {A B : List ByteArray} (h : A.length = B.length) (f b u : Int) : scE A f b u = scE B f b u := by unfold scE scOk; rw [h]
theorem rdE_eq {A B : List ByteArray} (h : A.length = B.length) (i : Int) : rdE A i = rdE B i := by simp only [rdE, h]
theorem own0 : ownB ((0 : Nat) : Int) = false := by decide
theorem own43 (n : Nat) : ownB ((43 + n : Nat) : Int) = false := Lg.ownB_f.2 (by omega)
section
variable {N : Nat} {V D now base : List ByteArray}
theorem Agree.wr (h : Agree N V D now base) (hV : V.length = N) (hn : now.length = N) (i : Int) (s : ByteArray) : Agree N (wrV V i s) D (wrV now i s) base := by
  unfold wrV
  rw [wrOk_eq (hn.trans hV.symm) i s]
  split
  · rename_i hk
    have hi : hasB V.length i = true := by
      unfold wrOk at hk
      simp only [Bool.and_eq_true] at hk
      exact hk.1
    exact h.set hV hn (has_own hi) _
  · exact h
theorem Agree.sc (h : Agree N V D now base) (hV : V.length = N) (hn : now.length = N) (f b u : Int) : Agree N (scV V f b u) D (scV now f b u) base := by
  unfold scV
  rw [show scOk now f b u = scOk V f b u by unfold scOk; rw [hV, hn]]
  split
  · exact h.set hV hn own0 _
  · exact h
theorem Agree.rd (h : Agree N V D now base) (hV : V.length = N) (hn : now.length = N) (i : Int) : rdB V i = rdB now i := by
  unfold rdB
  rw [hV, hn]
  split
  · rename_i hk
    have := hasB_t.1 hk
    exact (h.hnow i.toNat (by omega) (has_own hk)).symm
  · rfl
theorem Agree.cr (h : Agree N V D now base) (hV : V.length = N) (hn : now.length = N) (hN : 64 ≤ N) : crF V = crF now ∧ crB V = crB now ∧ crC V = crC now ∧ crE V = crE now := by
  have e := h.hnow 0 (by omega) own0
  have e2 : okCr V = okCr now := by unfold okCr; rw [e, hV, hn]
  unfold crF crB crC crE
  rw [e2, e]
  exact ⟨rfl, rfl, rfl, rfl⟩
theorem Agree.undo (h : Agree N V D now base) : Agree N D D base base := ⟨h.hbase, h.hbase, fun _ _ _ => rfl⟩
theorem Agree.diff (h : Agree N V D now base) (hV : V.length = N) (hn : now.length = N) (ho : ∀ i : Nat, ownB (i : Int) = true → V.getD i ⟨#[]⟩ = D.getD i ⟨#[]⟩) : diffL V D = diffL now base := by
  unfold diffL
  rw [hV, hn]
  congr 1
  apply List.filter_congr
  intro i hi
  have hi' : i < N := List.mem_range.1 hi
  cases hb : ownB (i : Int) with
  | true => rw [ho i hb, h.hown i hi' hb]; simp
  | false => rw [h.hnow i hi' hb, h.hbase i hi' hb]
theorem Agree.new (D : List ByteArray) (N : Nat) : Agree N D D D D := ⟨fun _ _ _ => rfl, fun _ _ _ => rfl, fun _ _ _ => rfl⟩
end
theorem whole_wr {V : List ByteArray} (h : Whole V) (i : Int) (s : ByteArray) : Whole (wrV V i s) := by
  unfold wrV
  split
  · rename_i hk
    unfold wrOk at hk
    simp only [Bool.and_eq_true, decide_eq_true_eq] at hk
    exact h.set _ (Lg.size_padS s 128 hk.2)
  · exact h
theorem whole_sc {V : List ByteArray} (h : Whole V) (f b u : Int) : Whole (scV V f b u) := by
  unfold scV
  split
  · rename_i hk
    unfold scOk at hk
    simp only [Bool.and_eq_true] at hk
    exact h.set _ (Kr.blockK_size hk.1)
  · exact h
theorem u64_wrap (x : Int) : IntKind.u64.wrap x = x % 18446744073709551616 := by
  simp [IntKind.wrap, IntKind.signed, IntKind.bits]
theorem mod_num (kd : Int) (m : Int) (hm : 0 < m ∧ m ≤ 9223372036854775807) : wrap64 ((IntKind.u64.wrap kd).tmod m) = (kd % 18446744073709551616) % m := by
  rw [u64_wrap]
  have h0 : 0 ≤ kd % 18446744073709551616 := Int.emod_nonneg _ (by decide)
  rw [Int.tmod_eq_emod_of_nonneg h0]
  have h1 := Int.emod_nonneg (kd % 18446744073709551616) (show m ≠ 0 by omega)
  have h2 := Int.emod_lt_of_pos (kd % 18446744073709551616) hm.1
  generalize kd % 18446744073709551616 % m = z at *
  unfold wrap64
  omega
end Go.Proofs.YtgdlfiejjnjcpaaGreat.Dl
