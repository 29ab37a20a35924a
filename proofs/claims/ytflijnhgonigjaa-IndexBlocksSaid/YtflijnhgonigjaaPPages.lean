/-
  WALK: clonePages. Conditions: at most 100000 pages of at most 100000 entries.
-/
import Derived.Test.YtflijnhgonigjaaPClone
namespace Go.Proofs.Ytflijnhgonigjaa
open Go.RowKit

abbrev rowV (g n : Nat) : Value := .slice (some ⟨g, 0, none⟩) n n
/-- the values vs are rows of the call's own, one for each page, just as long as it is, all apart. -/
def TightV (w : World) (base : Nat) (vs : List Value) (p : Pg) : Prop := vs.length = p.length ∧
  (∀ j, j < p.length → ∃ g, vs[j]? = some (rowV g (p.getD j []).length) ∧ base ≤ g ∧ w.ownsRow base 47 2 (rowV g (p.getD j []).length) (p.getD j []).length (ensCells (p.getD j []))) ∧
  vs.Pairwise fun a b => a.ownBlock ≠ b.ownBlock
theorem TightV.nil (w : World) (base : Nat) : TightV w base [] [] := ⟨rfl, fun j hj => by simp at hj, List.Pairwise.nil⟩
theorem TightV.row {w : World} {base : Nat} {vs : List Value} {p : Pg} (h : TightV w base vs p) {v : Value} (hv : v ∈ vs) : ∃ g, v.ownBlock = some g ∧ base ≤ g ∧ g < w.heap.size := by
  obtain ⟨j, hj, rfl⟩ := List.getElem_of_mem hv
  obtain ⟨g, e, hg, ho⟩ := h.2.1 j (by rw [← h.1]; exact hj)
  rw [List.getElem?_eq_getElem hj] at e
  injection e with e
  rw [e]
  exact ⟨g, rfl, hg, (ho.lt g rfl).2⟩
theorem TightV.snoc {w : World} {base : Nat} {vs : List Value} {p : Pg} {l : List En} {g : Nat} (h : TightV w base vs p) (hg : base ≤ g) (ho : w.ownsRow base 47 2 (rowV g l.length) l.length (ensCells l)) (hn : ∀ v ∈ vs, v.ownBlock ≠ some g) : TightV w base (vs ++ [rowV g l.length]) (p ++ [l]) := by
  refine ⟨by rw [List.length_append, List.length_append, h.1]; rfl, fun j hj => ?_, ?_⟩
  · rw [List.length_append] at hj
    rcases Nat.lt_or_ge j p.length with h1 | h1
    · have e : (p ++ [l]).getD j [] = p.getD j [] := by simp [List.getD, List.getElem?_append_left h1]
      rw [e, List.getElem?_append_left (by rw [h.1]; exact h1)]
      exact h.2.1 j h1
    · obtain rfl : j = p.length := by simp at hj; omega
      have e : (p ++ [l]).getD p.length [] = l := by simp [List.getD]
      rw [e, List.getElem?_append_right (by rw [h.1]; exact Nat.le_refl _), h.1, Nat.sub_self]
      exact ⟨g, rfl, hg, ho⟩
  · rw [List.pairwise_append]
    refine ⟨h.2.2, List.pairwise_singleton _ _, fun a ha b hb => ?_⟩
    obtain rfl : b = rowV g l.length := by simpa using hb
    exact hn a ha
theorem TightV.kept {w w' : World} {base : Nat} {vs : List Value} {p : Pg} {row : Option Nat} (h : TightV w base vs p) (hg : w.grownBy w' row) (hr : ∀ g, row = some g → g < base ∨ w.heap.size ≤ g) : TightV w' base vs p := by
  refine ⟨h.1, fun j hj => ?_, h.2.2⟩
  obtain ⟨g, e, hb, ho⟩ := h.2.1 j hj
  refine ⟨g, e, hb, ho.kept hg (Or.inr fun x => ?_)⟩
  have := (ho.lt g rfl).2
  rcases hr g (by rw [← x]; rfl) with h1 | h1 <;> omega
theorem TightV.below {w w' : World} {base : Nat} {vs : List Value} {p : Pg} (h : TightV w base vs p) (hb : Below w.heap.size w w') : TightV w' base vs p := by
  refine ⟨h.1, fun j hj => ?_, h.2.2⟩
  obtain ⟨g, e, hg, ho⟩ := h.2.1 j hj
  exact ⟨g, e, hg, own_below ho hb (Nat.le_refl _)⟩
/-- such rows read as pages. -/
theorem TightV.pgs {w : World} {b0 base g0 : Nat} {vs : List Value} {p : Pg} (h : TightV w base vs p) (hr : w.ownsRow b0 27 1 (rowV g0 p.length) p.length vs) (hf : ∀ l ∈ p, ∀ e ∈ l, e.fit) : PgsAt w w.heap.size (some ⟨g0, 0, none⟩) p.length p := by
  refine ⟨rfl, fun k hk => ?_⟩
  obtain ⟨g, e, _, ho⟩ := h.2.1 k hk
  have hc := (hr.cells (g := g0) rfl) k _ e
  rw [Go.WideShapes.add_plain] at hc
  exact ⟨g0, 0, some ⟨g, 0, none⟩, (p.getD k []).length, rfl, (hr.lt g0 rfl).2, hc, Nat.le_refl _, EnsAt.of_own ho rfl (hf _ (by rw [pg_getD hk]; exact List.getElem_mem _))⟩
def RetCloneP (w : World) (p : Pg) (e : Ending) (w' : World) : Prop := ∃ vs, e = .returned (rowV w.heap.size p.length) ∧ w'.ownsRow w.heap.size 27 1 (rowV w.heap.size p.length) p.length vs ∧ TightV w' (w.heap.size + 1) vs p ∧ Below w.heap.size w w'
def nilsV (n : Nat) : List Value := List.replicate n (.slice none 0 0)
theorem nils_set (vs : List Value) (n : Nat) (u : Value) (h : vs.length < n) : (vs ++ nilsV (n - vs.length)).set vs.length u = (vs ++ [u]) ++ nilsV (n - (vs.length + 1)) := by
  unfold nilsV
  obtain ⟨m, hm⟩ : ∃ m, n - vs.length = m + 1 := ⟨n - vs.length - 1, by omega⟩
  rw [hm, List.replicate_succ, List.set_append_right _ _ (Nat.le_refl _), Nat.sub_self, List.set_cons_zero, List.append_assoc, show n - (vs.length + 1) = m by omega]
  rfl

set_option maxHeartbeats 4000000 in
theorem cloneP_any (A : Option Addr) (n c B : Nat) (p : Pg) (w : World) (hA : PgsAt w B A n p) (hB : B ≤ w.heap.size) (hn : n ≤ 100000) (hm : ∀ l ∈ p, l.length ≤ 100000) :
    Calls Try.prog 39 #[.slice A n c] w (RetCloneP w p) := by
  obtain ⟨i0, hi, hz0, hz1, hz2⟩ := info_parts info27
  have HL := Lib.hid hA.len
  have HA := Lib.hid hA
  have HM : Hid (∀ k, k < n → (p.getD k []).length ≤ 100000) := fun k hk => by
    rw [pg_getD (by rw [HL.out]; exact hk)]; exact hm _ (List.getElem_mem _)
  clear hA hm
  go_enter Try.func39, Try.ntmps39
  go_wp2_with (at_make; refine wpList_make_full _ rfl _ _ 22 rfl w.heap.size 27 i0 _ 1 Try.underlying22 hi hz0 hz1 _ _ _ _ n rfl rfl rfl rfl (by rw [hz2]; omega) (by unfold maxLen; omega) (Nat.le_refl _) ?_; intro w1 hown1 hgrow1)
  have hb1 : Below w.heap.size w w1 := (Below.refl _ _).grown hgrow1 (Nat.le_refl _) (by intro k hk; cases hk)
  have HO1 : Hid (w1.ownsRow w.heap.size 27 1 (rowV w.heap.size n) n ([] ++ nilsV (n - ([] : List Value).length))) := by
    show World.ownsRow _ _ _ _ _ _ _
    have e : (madeCells (Value.slice none 0 0).cells (n * 1)).toList = [] ++ nilsV (n - ([] : List Value).length) := by
      rw [Nat.mul_one]; exact toList_madeCells_one _ n
    rw [← e]; exact hown1
  clear hgrow1 hown1
  go_loopw [4, 5, 11] (fun _ _ i wr => ∃ vs : List Value, vs.length ≤ n ∧ i = .int .i64 (vs.length : Int) ∧ wr.ownsRow w.heap.size 27 1 (rowV w.heap.size n) n (vs ++ nilsV (n - vs.length)) ∧ TightV wr (w.heap.size + 1) vs (p.take vs.length) ∧ Below w.heap.size w wr) (fun _ _ i _ => n - (intOf i).toNat)
  case atStart => exact ⟨[], by simp, rfl, HO1.out, by rw [List.length_nil, List.take_zero]; exact TightV.nil _ _, hb1⟩
  case round =>
    clear hb1 HO1
    obtain ⟨vs, hk, rfl, hown, htv, hb⟩ := hrel
    by_cases hlt : vs.length < n
    · obtain ⟨b, o, A', c', rfl, hbB, hcell, hlc, hE⟩ := HA.out.at_ hlt
      have hbl : b < w.heap.size := by omega
      have c1 := bcell hb hcell hbl
      have hml := HM.out _ hlt
      have HST := Lib.hid (fun (W : World) (h : W.ownsRow w.heap.size 27 1 (rowV w.heap.size n) n (vs ++ nilsV (n - vs.length))) (u : Value) => h.stored vs.length u)
      have HNS := Lib.hid (fun u => nils_set vs n u hlt)
      have HPT : Hid (p.take (vs.length + 1) = p.take vs.length ++ [p.getD vs.length []]) := pg_take (by rw [HL.out]; exact hlt)
      have HTV := Lib.hid htv
      have HOWN := Lib.hid hown
      have HB := Lib.hid hb
      have HFR := Lib.hid (fun (W : World) (h : W.ownsRow w.heap.size 27 1 (rowV w.heap.size n) n (vs ++ nilsV (n - vs.length))) => And.intro (h.cellAt vs.length (by omega)) (h.frozenAt vs.length))
      have HAT : Hid ((vs ++ nilsV (n - vs.length))[vs.length]? = some (.slice none 0 0)) := by
        show _ = _
        rw [List.getElem?_append_right (Nat.le_refl _), Nat.sub_self]
        unfold nilsV
        obtain ⟨m, hm⟩ : ∃ m, n - vs.length = m + 1 := ⟨n - vs.length - 1, by omega⟩
        rw [hm]; rfl
      have HNB : Hid (∀ v ∈ vs, v.ownBlock ≠ some wr.heap.size) := fun v hv e => by
        obtain ⟨g, e2, _, hlt⟩ := HTV.out.row hv
        rw [e] at e2; injection e2 with e2; omega
      have hgz : w.heap.size < wr.heap.size := (hown.lt w.heap.size rfl).2
      have HCL := Lib.hid (cloneE_any A' _ c' B (p.getD vs.length []) wr (hE.below hb hB) (Nat.le_trans hB hb.size) hml)
      have HSL : Hid ((vs ++ [rowV wr.heap.size (p.getD vs.length []).length]).length = vs.length + 1) := by show _ = _; simp
      clear hcell hE hown htv hb
      generalize p.getD vs.length [] = l at *
      go_wp2_with fail
      refine HCL.out.mono ?_
      rintro e w3 ⟨rfl, ho3, b3⟩
      have HO3 := Lib.hid (own_below HOWN.out b3 (Nat.le_refl _))
      have HT3 : Hid (TightV w3 (w.heap.size + 1) (vs ++ [rowV wr.heap.size l.length]) (p.take (vs.length + 1))) := by
        show TightV _ _ _ _
        rw [HPT.out]
        exact (HTV.out.below b3).snoc hgz (own_base ho3 hgz) HNB.out
      have HB3 : Hid (Below w.heap.size w w3) := HB.out.trans (b3.mono HB.out.size)
      have HLE : Hid (w.heap.size < w3.heap.size) := Nat.lt_of_lt_of_le hgz b3.size
      obtain ⟨g1, g2⟩ := HFR.out w3 HO3.out
      rw [HAT.out] at g1
      obtain ⟨s1, s2⟩ := HST.out w3 HO3.out (rowV wr.heap.size l.length)
      rw [HNS.out] at s1
      have HS1 := Lib.hid s1
      clear b3 ho3 s1 c1
      have x2 : (vs.length : Int) < (n : Int) := by omega
      have HT4 : Hid (TightV (w3.setCell ⟨w.heap.size, vs.length, none⟩ (rowV wr.heap.size l.length)) (w.heap.size + 1) (vs ++ [rowV wr.heap.size l.length]) (p.take (vs.length + 1))) :=
        HT3.out.kept s2 (fun g hg => by injection hg with hg; omega)
      have HB4 : Hid (Below w.heap.size w (w3.setCell ⟨w.heap.size, vs.length, none⟩ (rowV wr.heap.size l.length))) := HB3.out.setCell (Nat.le_refl _) _
      clear s2
      go_wp2
      go_roundw
      case rel =>
        refine ⟨vs ++ [rowV wr.heap.size l.length], by rw [HSL.out]; omega, by rw [HSL.out]; go_num, ?_, ?_, HB4.out⟩
        · rw [HSL.out]; exact HS1.out
        · rw [HSL.out]; exact HT4.out
      case measure => simp [intOf]; omega
    · have HK : Hid (vs.length = n) := by show vs.length = n; omega
      have hfin : RetCloneP w p (.returned (rowV w.heap.size n)) wr := by
        rw [HK.out, Nat.sub_self, show nilsV 0 = [] from rfl, List.append_nil] at hown
        rw [HK.out, ← HL.out, List.take_length] at htv
        exact ⟨vs, by rw [HL.out], by rw [HL.out]; exact hown, htv, hb⟩
      have HF := Lib.hid hfin
      clear hfin hown htv hb
      go_wp2
      go_ret
      exact HF.out
end Go.Proofs.Ytflijnhgonigjaa
