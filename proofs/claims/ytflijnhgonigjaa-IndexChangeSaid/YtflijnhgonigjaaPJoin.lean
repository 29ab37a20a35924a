/-
  WALK: merge. Conditions: at most 10000 pages.
-/
import Derived.Test.YtflijnhgonigjaaPMerge
set_option linter.unusedVariables false
set_option linter.unusedSimpArgs false
namespace Go.Proofs.Ytflijnhgonigjaa
open Go.RowKit

theorem SlE.kept_ {w w' : World} {B : Nat} {v x : Value} {l : List En} (h : SlE w B v x l) (hg : w.grownBy w' v.ownBlock) (hB : B ≤ w.heap.size) : SlE w' B v x l := by
  obtain ⟨A, c, rfl, hc, hE, ho⟩ := h
  exact ⟨A, c, rfl, hc, hE.off hg hB ho, ho⟩
theorem SlE.more {w : World} {B B' : Nat} {v x : Value} {l : List En} (h : SlE w B v x l) (hB : B ≤ B') : SlE w B' v x l := by
  obtain ⟨A, c, rfl, hc, hE, ho⟩ := h
  exact ⟨A, c, rfl, hc, hE.more hB, ho⟩
theorem SlE.below_ {w w' : World} {B : Nat} {v x : Value} {l : List En} (h : SlE w B v x l) (hb : Below w.heap.size w w') (hB : B ≤ w.heap.size) : SlE w' B v x l := by
  obtain ⟨A, c, rfl, hc, hE, ho⟩ := h
  exact ⟨A, c, rfl, hc, hE.below hb hB, ho⟩
theorem PgV.map {w w' : World} {B B' : Nat} {v v' : Value} {vs : List Value} {p : Pg} (h : PgV w B v vs p) (f : ∀ x l, SlE w B v x l → SlE w' B' v' x l) : PgV w' B' v' vs p :=
  ⟨h.1, fun k hk => by
    obtain ⟨x, e, hx⟩ := h.2 k hk
    exact ⟨x, e, f x _ hx⟩⟩
theorem PgV.take {w : World} {B : Nat} {v : Value} {vs : List Value} {p : Pg} (h : PgV w B v vs p) (m : Nat) : PgV w B v (vs.take m) (p.take m) := by
  refine ⟨by rw [List.length_take, List.length_take, h.1], fun k hk => ?_⟩
  rw [List.length_take] at hk
  have e : (p.take m).getD k [] = p.getD k [] := by simp [List.getD, show k < m by omega]
  rw [List.getElem?_take, if_pos (by omega), e]
  exact h.2 k (by omega)
theorem PgV.drop {w : World} {B : Nat} {v : Value} {vs : List Value} {p : Pg} (h : PgV w B v vs p) (m : Nat) : PgV w B v (vs.drop m) (p.drop m) := by
  refine ⟨by rw [List.length_drop, List.length_drop, h.1], fun k hk => ?_⟩
  rw [List.length_drop] at hk
  have e : (p.drop m).getD k [] = p.getD (m + k) [] := by simp [List.getD, List.getElem?_drop]
  rw [List.getElem?_drop, e]
  exact h.2 (m + k) (by omega)
theorem PgV.pgs {w : World} {B g : Nat} {v : Value} {vs : List Value} {p : Pg} (h : PgV w B v vs p) (hc : CellsAt w g 0 vs) (hg : g < B) : PgsAt w B (some ⟨g, 0, none⟩) p.length p := by
  refine ⟨rfl, fun k hk => ?_⟩
  obtain ⟨x, e, A, c, rfl, hl, hE, -⟩ := h.2 k hk
  exact ⟨g, 0, A, c, rfl, hg, hc k _ e, hl, hE⟩
theorem grown_to_below {w w' : World} {g : Nat} (h : w.grownBy w' (some g)) (hg : g < w.heap.size) : Below g w w' := ⟨h.os, h.tape, h.output, h.size, fun k hk => h.block k (by omega) (fun e => by
  have : k = g := by injection e
  omega)⟩
/-- what merge leaves: the row with one page for two. -/
def RetJ (w : World) (g n : Nat) (p : Pg) (e : Ending) (w' : World) : Prop :=
  ∃ m, p.length = m ∧ m ≤ n ∧ e = .returned (.slice (some ⟨g, 0, none⟩) m n) ∧ PgsAt w' w'.heap.size (some ⟨g, 0, none⟩) m p ∧ Below g w w'
theorem joinP_len {p : Pg} {i : Nat} (h : i + 1 < p.length) : (joinP p i).length = p.length - 1 := by
  unfold joinP
  rw [List.length_append, List.length_cons, List.length_take, List.length_drop]; omega

theorem RetOwn.off {w : World} {l : List En} {e : Ending} {w' : World} (h : RetOwn w l e w') (hf : ∀ s ∈ l, s.fit) {g : Nat} (hg : g < w.heap.size) (n : Nat) :
    ∃ A c, e = .returned (.slice A l.length c) ∧ l.length ≤ c ∧ EnsAt w' w'.heap.size A l.length l ∧ Below w.heap.size w w' ∧ Off A (rowV g n) := by
  obtain ⟨v, rfl, ho, hb⟩ := h
  obtain ⟨A, c, rfl, hc⟩ := own_slice ho
  refine ⟨A, c, rfl, hc, EnsAt.of_own ho rfl hf, hb, fun a ha he => ?_⟩
  subst ha
  have h1 := (ho.lt a.block rfl).1
  have h2 : g = a.block := by injection he
  omega
theorem join_end {w w3 w5 : World} {g i n : Nat} {p : Pg} {vs : List Value} {A3 : Option Addr} {c3 : Nat} {l12 : List En} (hg : g < w.heap.size) (hv : PgV w w.heap.size (rowV g n) vs p) (hn : p.length = n) (hi : i + 1 < n)
    (hj : joinP p i = p.take i ++ ([l12] ++ p.drop (i + 2))) (hb3 : Below w.heap.size w w3) (hc3 : l12.length ≤ c3) (hE3 : EnsAt w3 w3.heap.size A3 l12.length l12) (ho3 : Off A3 (rowV g n))
    (hcl : CellsAt w5 g 0 (vs.take i ++ ([.slice A3 l12.length c3] ++ vs.drop (i + 2)))) (hg5 : (w3.alloc (.cells #[.slice A3 l12.length c3] 27)).grownBy w5 (some g)) : RetJ w g n (joinP p i) (.returned (.slice (some ⟨g, 0, none⟩) (n - 1) n)) w5 := by
  have hb4 : Below w3.heap.size w3 (w3.alloc (.cells #[.slice A3 l12.length c3] 27)) := (Below.refl _ _).alloc (Nat.le_refl _) _
  have hbw := hb3.trans (hb4.mono hb3.size)
  have hgs : g < (w3.alloc (.cells #[.slice A3 l12.length c3] 27)).heap.size := Nat.lt_of_lt_of_le hg hbw.size
  have k1 : ∀ x l, SlE w w.heap.size (rowV g n) x l → SlE w5 w5.heap.size (rowV g n) x l := fun x l h =>
    (((h.below_ hbw (Nat.le_refl _)).kept_ (w' := w5) hg5 hbw.size)).more (Nat.le_trans hbw.size hg5.size)
  have k2 : SlE w5 w5.heap.size (rowV g n) (.slice A3 l12.length c3) l12 := by
    have h0 : SlE w3 w3.heap.size (rowV g n) (.slice A3 l12.length c3) l12 := ⟨A3, c3, rfl, hc3, hE3, fun _ => ho3⟩
    exact ((h0.below_ hb4 (Nat.le_refl _)).kept_ (w' := w5) hg5 hb4.size).more (Nat.le_trans hb4.size hg5.size)
  have hv5 := hv.map k1
  have hjv : PgV w5 w5.heap.size (rowV g n) (vs.take i ++ ([.slice A3 l12.length c3] ++ vs.drop (i + 2))) (joinP p i) := by
    rw [hj]
    exact (hv5.take i).append ((PgV.single k2).append (hv5.drop (i + 2)))
  have hlen : (joinP p i).length = n - 1 := by rw [joinP_len (by omega), hn]
  have hP := hjv.pgs hcl (Nat.lt_of_lt_of_le hgs hg5.size)
  rw [hlen] at hP
  exact ⟨n - 1, hlen, by omega, rfl, hP, (hbw.mono (Nat.le_of_lt hg)).trans (grown_to_below hg5 hgs)⟩

set_option maxHeartbeats 8000000 in
set_option maxRecDepth 100000 in
theorem merge_any (g i n : Nat) (p : Pg) (vs : List Value) (w : World) (hcs : CellsAt w g 0 vs) (hfz : ∀ W, Below w.heap.size w W → ∀ k, W.frozen? ⟨g, k, none⟩ = false) (hg : g < w.heap.size) (hv : PgV w w.heap.size (rowV g n) vs p) (hn : p.length = n) (hi : i + 1 < n) (hn2 : n ≤ 10000) (hl2 : (p.getD i []).length + (p.getD (i + 1) []).length ≤ 100000) :
    Calls Try.prog 49 #[rowV g n, .int .i64 i] w (RetJ w g n (joinP p i)) := by
  obtain ⟨x1, ex1, A1, c1, rfl, hc1, hE1, ho1⟩ := hv.2 i (by omega)
  obtain ⟨x2, ex2, A2, c2, rfl, hc2, hE2, ho2⟩ := hv.2 (i + 1) (by omega)
  have hcell1 := hcs i _ ex1
  have hcell2 := hcs (i + 1) _ ex2
  rw [Nat.zero_add] at hcell1 hcell2
  have HVL : Hid (vs.length = n) := by show _ = _; rw [hv.1, hn]
  have HPN := Lib.hid hn
  have HJL := Lib.hid (joinP_len (p := p) (i := i) (by omega))
  have HJD : Hid (joinP p i = p.take i ++ ([(p.getD i []) ++ (p.getD (i + 1) [])] ++ p.drop (i + 2))) := rfl
  generalize hl1 : p.getD i [] = l1 at *
  generalize hl2' : p.getD (i + 1) [] = l2 at *
  clear hl1 hl2'
  have HF12 : Hid (∀ e ∈ l1 ++ l2, e.fit) := fun e he => by
    rcases List.mem_append.1 he with he | he
    · exact hE1.2.1 e he
    · exact hE2.2.1 e he
  -- the world behind the slice of two
  obtain ⟨Wa, hWa⟩ : ∃ Wa, Wa = (w.alloc (.cells #[.slice A1 l1.length c1, .slice A2 l2.length c2] 27)).drew := ⟨_, rfl⟩
  have hba : Below w.heap.size w Wa := by
    rw [hWa]
    have h := (Below.refl w.heap.size w).alloc (Nat.le_refl _) (.cells #[.slice A1 l1.length c1, .slice A2 l2.length c2] 27)
    exact ⟨h.os, h.tape, h.output, h.size, h.block⟩
  have hsa : Wa.heap.size = w.heap.size + 1 := by
    rw [hWa]
    show (w.alloc (.cells #[.slice A1 l1.length c1, .slice A2 l2.length c2] 27)).heap.size = _
    simp
  have hca : CellsAt Wa w.heap.size 0 [.slice A1 l1.length c1, .slice A2 l2.length c2] := fun j u hj => by
    rw [Nat.zero_add, hWa]
    exact cell_new w _ 27 j (by rw [List.getElem?_toArray]; exact hj)
  have hpa : PvAt Wa Wa.heap.size [.slice A1 l1.length c1, .slice A2 l2.length c2] [l1, l2] :=
    PvAt.cons ⟨A1, c1, rfl, hc1, (hE1.below hba (Nat.le_refl _)).more hba.size⟩ (PvAt.cons ⟨A2, c2, rfl, hc2, (hE2.below hba (Nat.le_refl _)).more hba.size⟩ (PvAt.nil _ _))
  have KC := Lib.hid (concat_any (some ⟨w.heap.size, 0, none⟩) 2 2 Wa.heap.size [l1, l2] Wa (hpa.pgs hca (by omega)) (Nat.le_refl _) (by omega) (by simp; omega))
  rw [show [l1, l2].flatten = l1 ++ l2 by simp] at KC
  rw [hWa] at KC
  rw [hWa] at hba
  have HBA := Lib.hid hba
  have KS := Lib.hid (fun W (hW : Below w.heap.size w W) => show W.cell? ⟨g, i, none⟩ = some (.slice A1 l1.length c1) ∧ W.cell? ⟨g, i + 1, none⟩ = some (.slice A2 l2.length c2) from ⟨(hW.cell (p := ⟨g, i, none⟩) hg).trans hcell1, (hW.cell (p := ⟨g, i + 1, none⟩) hg).trans hcell2⟩)
  have KR : ∀ (W : World) (vb : Nat) (u : Value), Below w.heap.size w W → CellsAt W vb 0 [u] → u.oneCell' = true → Calls Try.prog 73 #[rowV g n, .int .i64 i, .int .i64 ((i : Int) + 2), .slice (some ⟨vb, 0, none⟩) 1 1] W (RetDel W g (n - 1) n (vs.take i ++ ([u] ++ vs.drop (i + 2)))) := fun W vb u hW hvb h1u => by
    rcases Nat.lt_or_ge (i + 2) n with h | h
    · exact replace1_mid g vb 1 i n (n - 1) vs u W HVL.out (by omega) (by omega) h (hcs.below hW hg) (hfz W hW) hvb h1u hv.one
    · have e : vs.drop (i + 2) = [] := List.drop_eq_nil_of_le (by rw [HVL.out]; exact h)
      rw [e, List.append_nil, show n - 1 = i + 1 by omega]
      exact replace1_end g vb 1 i n vs u W HVL.out (by omega) (by omega) (hcs.below hW hg) (hfz W hW) hvb h1u
  have KR' := Lib.hid KR
  have HV := Lib.hid hv
  have s0 := (KS.out w.drew ⟨rfl, rfl, rfl, Nat.le_refl _, fun _ _ => rfl⟩).1
  have s1 := (KS.out w.drew ⟨rfl, rfl, rfl, Nat.le_refl _, fun _ _ => rfl⟩).2
  have HL12 := Lib.hid hl2
  clear hWa hba hca hpa KR hcs hfz hv hE1 hE2 ho1 ho2 ex1 ex2 hcell1 hcell2 hsa hn hl2
  have x1 : (i : Int) + 1 < (n : Int) := by omega
  have x2 : (i : Int) < (n : Int) := by omega
  have x3 : ((i : Int) + 1).toNat = i + 1 := by omega
  have x4 : (0 : Int) ≤ (i : Int) + 1 := by omega
  have y1 : IntKind.i64.wrap ((i : Int) + 1) = (i : Int) + 1 := by rw [IntKind.wrap_i64]; omega
  have y2 : IntKind.i64.wrap ((i : Int) + 2) = (i : Int) + 2 := by rw [IntKind.wrap_i64]; omega
  go_enter Try.func49, Try.ntmps49
  go_wp2_with fail
  go_region_with (first
    | (go_at_call 38; refine KC.out.mono ?_; intro e w3 hr3; obtain ⟨A3, c3, rfl, hc3, hE3, b3, ho3⟩ := hr3.off HF12.out (g := g) (Nat.lt_of_lt_of_le hg HBA.out.size) n; have B3 := Lib.hid (HBA.out.trans (b3.mono HBA.out.size)); have HE3 := Lib.hid hE3; have HO3 := Lib.hid ho3; have HC3 := Lib.hid hc3; have B4 : Hid (Below w.heap.size w (w3.alloc (.cells #[.slice A3 (l1 ++ l2).length c3] 27))) := B3.out.alloc B3.out.size _; have C4 : Hid (CellsAt (w3.alloc (.cells #[.slice A3 (l1 ++ l2).length c3] 27)) w3.heap.size 0 [.slice A3 (l1 ++ l2).length c3]) := (fun j u hj => by rw [Nat.zero_add]; exact cell_new w3 _ 27 j (by rw [List.getElem?_toArray]; exact hj)); clear hE3 b3 ho3 hc3 hr3; generalize hl12 : l1 ++ l2 = l12 at *; generalize hlen : l12.length = m12 at *)
    | (go_at_call 73; refine (KR'.out _ w3.heap.size _ B4.out C4.out rfl).mono ?_; rintro e w5 ⟨rfl, hc5, hg5⟩))
  all_goals
    go_wp2
    go_ret
    have hlen' := hlen
    subst hlen'
    exact join_end hg HV.out HPN.out hi HJD.out B3.out HC3.out HE3.out HO3.out hc5 hg5
end Go.Proofs.Ytflijnhgonigjaa
