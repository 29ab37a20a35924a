/-
  WORDS OF MEMORY: values that read as pages; WALK: split. Conditions: at most 100000 pages.
-/
import Derived.Test.YtflijnhgonigjaaPRepl
set_option linter.unusedVariables false
namespace Go.Proofs.Ytflijnhgonigjaa
open Go.RowKit

/-- the value x is a slice that reads as the entries l. -/
def SlX (w : World) (B : Nat) (x : Value) (l : List En) : Prop := ∃ A c, x = .slice A l.length c ∧ l.length ≤ c ∧ EnsAt w B A l.length l
/-- the values vs are slices that read as the pages p. -/
def PvAt (w : World) (B : Nat) (vs : List Value) (p : Pg) : Prop := vs.length = p.length ∧ ∀ k, k < p.length → ∃ x, vs[k]? = some x ∧ SlX w B x (p.getD k [])
theorem SlX.one {w : World} {B : Nat} {x : Value} {l : List En} (h : SlX w B x l) : x.oneCell' = true := by
  obtain ⟨A, c, rfl, -⟩ := h; rfl
theorem PvAt.one {w : World} {B : Nat} {vs : List Value} {p : Pg} (h : PvAt w B vs p) : ∀ u ∈ vs, u.oneCell' = true := by
  intro u hu
  obtain ⟨k, hk, rfl⟩ := List.getElem_of_mem hu
  obtain ⟨x, hx, hs⟩ := h.2 k (by rw [← h.1]; exact hk)
  rw [List.getElem?_eq_getElem hk] at hx
  injection hx with hx
  rw [hx]; exact hs.one
theorem SlX.below {w w' : World} {B : Nat} {x : Value} {l : List En} (h : SlX w B x l) (hb : Below w.heap.size w w') (hB : B ≤ w.heap.size) : SlX w' w'.heap.size x l := by
  obtain ⟨A, c, rfl, hc, hE⟩ := h
  exact ⟨A, c, rfl, hc, (hE.below hb hB).more (Nat.le_trans hB hb.size)⟩
theorem PvAt.below {w w' : World} {B : Nat} {vs : List Value} {p : Pg} (h : PvAt w B vs p) (hb : Below w.heap.size w w') (hB : B ≤ w.heap.size) : PvAt w' w'.heap.size vs p :=
  ⟨h.1, fun k hk => by
    obtain ⟨x, e, hx⟩ := h.2 k hk
    exact ⟨x, e, hx.below hb hB⟩⟩
theorem PvAt.append {w : World} {B : Nat} {vs us : List Value} {p q : Pg} (h : PvAt w B vs p) (k : PvAt w B us q) : PvAt w B (vs ++ us) (p ++ q) := by
  refine ⟨by rw [List.length_append, List.length_append, h.1, k.1], fun i hi => ?_⟩
  rw [List.length_append] at hi
  rcases Nat.lt_or_ge i p.length with h1 | h1
  · have e : (p ++ q).getD i [] = p.getD i [] := by simp [List.getD, List.getElem?_append_left h1]
    rw [List.getElem?_append_left (by rw [h.1]; exact h1), e]
    exact h.2 i h1
  · have e : (p ++ q).getD i [] = q.getD (i - p.length) [] := by simp [List.getD, List.getElem?_append_right h1]
    rw [List.getElem?_append_right (by rw [h.1]; exact h1), e, h.1]
    exact k.2 (i - p.length) (by omega)
theorem PvAt.take {w : World} {B : Nat} {vs : List Value} {p : Pg} (h : PvAt w B vs p) (m : Nat) : PvAt w B (vs.take m) (p.take m) := by
  refine ⟨by rw [List.length_take, List.length_take, h.1], fun k hk => ?_⟩
  rw [List.length_take] at hk
  have e : (p.take m).getD k [] = p.getD k [] := by simp [List.getD, show k < m by omega]
  rw [List.getElem?_take, if_pos (by omega), e]
  exact h.2 k (by omega)
theorem PvAt.drop {w : World} {B : Nat} {vs : List Value} {p : Pg} (h : PvAt w B vs p) (m : Nat) : PvAt w B (vs.drop m) (p.drop m) := by
  refine ⟨by rw [List.length_drop, List.length_drop, h.1], fun k hk => ?_⟩
  rw [List.length_drop] at hk
  have e : (p.drop m).getD k [] = p.getD (m + k) [] := by simp [List.getD, List.getElem?_drop]
  rw [List.getElem?_drop, e]
  exact h.2 (m + k) (by omega)
theorem PvAt.cons {w : World} {B : Nat} {vs : List Value} {p : Pg} {x : Value} {l : List En} (hx : SlX w B x l) (h : PvAt w B vs p) : PvAt w B (x :: vs) (l :: p) := by
  refine ⟨by simp [h.1], fun k hk => ?_⟩
  cases k with
  | zero => exact ⟨x, rfl, hx⟩
  | succ k => exact h.2 k (by simpa using hk)
theorem PvAt.nil (w : World) (B : Nat) : PvAt w B [] [] := ⟨rfl, fun k hk => by simp at hk⟩
theorem PvAt.pgs {w : World} {B g : Nat} {vs : List Value} {p : Pg} (h : PvAt w B vs p) (hc : CellsAt w g 0 vs) (hg : g < B) : PgsAt w B (some ⟨g, 0, none⟩) p.length p := by
  refine ⟨rfl, fun k hk => ?_⟩
  obtain ⟨x, e, A, c, rfl, hl, hE⟩ := h.2 k hk
  exact ⟨g, 0, A, c, rfl, hg, hc k _ e, hl, hE⟩
theorem TightV.pv {w : World} {base : Nat} {vs : List Value} {p : Pg} (h : TightV w base vs p) (hf : ∀ l ∈ p, ∀ e ∈ l, e.fit) : PvAt w w.heap.size vs p :=
  ⟨h.1, fun k hk => by
    obtain ⟨g, e, _, ho⟩ := h.2.1 k hk
    exact ⟨_, e, _, _, rfl, Nat.le_refl _, EnsAt.of_own ho rfl (hf _ (by rw [pg_getD hk]; exact List.getElem_mem _))⟩⟩
theorem EnsAt.of_cells {w : World} {g : Nat} {l : List En} (h : CellsAt w g 0 (ensCells l)) (hg : g < w.heap.size) (hf : ∀ e ∈ l, e.fit) : EnsAt w w.heap.size (some ⟨g, 0, none⟩) l.length l := ens_cells h hg hf
theorem RetCl.slx {w : World} {l : List En} {e : Ending} {w' : World} (h : RetCl w l e w') (hf : ∀ e ∈ l, e.fit) : ∃ x, e = .returned x ∧ SlX w' w'.heap.size x l ∧ (∃ g c, x = .slice (some ⟨g, 0, none⟩) l.length c) ∧ Below w.heap.size w w' := by
  obtain ⟨g, c, rfl, hc, _, hg, hcl, hb⟩ := h
  exact ⟨_, rfl, ⟨_, _, rfl, hc, EnsAt.of_cells hcl hg hf⟩, ⟨g, c, rfl⟩, hb⟩

theorem replace_any (g vb vc i : Nat) (vs us : List Value) (w : World) (hl : vs.length ≤ 100000) (hi : i < vs.length) (hu : us.length = 2) (hcs : CellsAt w g 0 vs) (hvs : CellsAt w vb 0 us) (h1u : ∀ u ∈ us, u.oneCell' = true) (h1v : ∀ u ∈ vs, u.oneCell' = true) :
    Calls Try.prog 73 #[rowV g vs.length, .int .i64 i, .int .i64 ((i : Int) + 1), .slice (some ⟨vb, 0, none⟩) 2 vc] w (RetRep w (vs.take i ++ (us ++ vs.drop (i + 1)))) := by
  rcases Nat.lt_or_ge (i + 1) vs.length with h | h
  · exact replace_mid g vb vc i vs us w hl h hu hcs hvs h1u h1v
  · have e : vs.drop (i + 1) = [] := List.drop_eq_nil_of_le h
    rw [e, List.append_nil]
    exact replace_end g vb vc i vs us w hl (by omega) hu hcs hvs h1u
/-- a row of values that read as pages is an answer. -/
theorem RetRep.pgs {w0 w : World} {vs : List Value} {p : Pg} {e : Ending} {w' : World} (h : RetRep w vs e w') (hv : PvAt w w.heap.size vs p) (hb : Below w0.heap.size w0 w) : RetPgs w0 p e w' := by
  obtain ⟨c, rfl, hc, hcl, hg, hb2⟩ := h
  have hl := hv.1
  rw [hl] at hc ⊢
  exact ⟨_, c, rfl, hc, (hv.below hb2 (Nat.le_refl _)).pgs hcl hg, hb.trans (hb2.mono hb.size)⟩

set_option maxHeartbeats 4000000 in
set_option maxRecDepth 100000 in
theorem split_any (g i n B : Nat) (p : Pg) (vs : List Value) (w : World) (hcs : CellsAt w g 0 vs) (hg : g < w.heap.size) (hv : PvAt w w.heap.size vs p) (hn : p.length = n) (hi : i < n) (hn2 : n ≤ 100000) (h10 : (p.getD i []).length = 10) :
    Calls Try.prog 44 #[rowV g n, .int .i64 i] w (RetPgs w (p.take i ++ ((p.getD i []).take 5 :: (p.getD i []).drop 5 :: p.drop (i + 1)))) := by
  obtain ⟨x, e, A, c, rfl, hc10, hE⟩ := hv.2 i (by omega)
  have hcell := hcs i _ e
  rw [Nat.zero_add] at hcell
  rw [h10] at hcell hE hc10
  obtain ⟨b, o, rfl, hbB, -, -⟩ := hE.at_ (k := 0) (by omega)
  have HE1 := Lib.hid (hE.take 5 (by omega))
  have HE2 : Hid (EnsAt w w.heap.size (some ⟨b, o + 5 * 2, none⟩) 5 ((p.getD i []).drop 5)) := hE.drop 5
  have HF1 : Hid (∀ e ∈ (p.getD i []).take 5, e.fit) := HE1.out.2.1
  have HF2 : Hid (∀ e ∈ (p.getD i []).drop 5, e.fit) := HE2.out.2.1
  have HL1 : Hid (((p.getD i []).take 5).length = 5) := HE1.out.len
  have HL2 : Hid (((p.getD i []).drop 5).length = 5) := HE2.out.len
  have HCS := Lib.hid hcs
  have HV := Lib.hid hv
  have HN := Lib.hid hn
  have HVL : Hid (vs.length = n) := by show _ = _; rw [hv.1, hn]
  clear hcs hv hE h10 e hn
  generalize (p.getD i []).take 5 = l1 at *
  generalize (p.getD i []).drop 5 = l2 at *
  have hc5 : ¬ c = 5 := by omega
  have hc5b : (5 : Int) ≤ (c : Int) := by omega
  have hin : (i : Int) < (n : Int) := by omega
  have mixed : Try.prog.follows Departure.mixedOrders = true := by kernel_rfl
  have KC1 := Lib.hid (clone72_any b o 5 c w.heap.size l1 w.drew HE1.out (Nat.le_refl _) (by omega) (by omega))
  have KC2 := Lib.hid (fun W (hW : Below w.heap.size w W) => clone72_any b (o + 10) 5 (c - 5) w.heap.size l2 W (HE2.out.below hW (Nat.le_refl _)) hW.size (by omega) (by omega))
  have KS := Lib.hid (fun W (hW : Below w.heap.size w W) => show W.cell? ⟨g, i, none⟩ = some (.slice (some ⟨b, o, none⟩) 10 c) from (hW.cell (p := ⟨g, i, none⟩) hg).trans hcell)
  have S0 := Lib.hid (KS.out w.drew ⟨rfl, rfl, rfl, Nat.le_refl _, fun _ _ => rfl⟩)
  have HW := Lib.hid (Nat.le_refl w.heap.size)
  clear hcell
  go_enter Try.func44, Try.ntmps44
  go_wp2_with fail
  go_region_held3 (fun W' => W'.cell? ⟨g, i, none⟩ = some (.slice (some ⟨b, o, none⟩) 10 c)) (first | exact S0.out | exact S1.out | exact S2.out)
    (first
      | (go_at_call 72
         go_fit (KC2.out v1 B1.out)
         intro e v2 hr2
         obtain ⟨x2, rfl, hx2, ⟨g2, d2, rfl⟩, b2⟩ := hr2.slx HF2.out
         have X2 := Lib.hid hx2
         have B2 := Lib.hid (B1.out.trans (b2.mono B1.out.size))
         have X12 := Lib.hid (X1.out.below b2 (Nat.le_refl _))
         have S2 := Lib.hid (KS.out v2 B2.out)
         clear b2 hr2 hx2)
      | (go_at_call 72
         go_fit KC1.out
         intro e v1 hr1
         obtain ⟨x1, rfl, hx1, ⟨g1, d1, rfl⟩, b1⟩ := hr1.slx HF1.out
         have X1 := Lib.hid hx1
         have B1 : Hid (Below w.heap.size w v1) := undrew b1
         have S1 := Lib.hid (KS.out v1 B1.out)
         clear b1 hr1 hx1))
  have hun : ∀ u ∈ [Value.slice (some ⟨g1, 0, none⟩) l1.length d1, Value.slice (some ⟨g2, 0, none⟩) l2.length d2], u.oneCell' = true := fun u hu => by
    simp only [List.mem_cons, List.not_mem_nil, or_false] at hu
    rcases hu with rfl | rfl <;> rfl
  have hpv2 := HV.out.below B2.out (Nat.le_refl _)
  have hb3 : Below v2.heap.size v2 (v2.alloc (.cells #[Value.slice (some ⟨g1, 0, none⟩) l1.length d1, Value.slice (some ⟨g2, 0, none⟩) l2.length d2] 27)) := (Below.refl _ _).alloc (Nat.le_refl _) _
  have HB3 := Lib.hid (B2.out.trans (hb3.mono B2.out.size))
  have hpv3 : PvAt (v2.alloc (.cells #[Value.slice (some ⟨g1, 0, none⟩) l1.length d1, Value.slice (some ⟨g2, 0, none⟩) l2.length d2] 27)) (v2.alloc (.cells #[Value.slice (some ⟨g1, 0, none⟩) l1.length d1, Value.slice (some ⟨g2, 0, none⟩) l2.length d2] 27)).heap.size (vs.take i ++ ([Value.slice (some ⟨g1, 0, none⟩) l1.length d1, Value.slice (some ⟨g2, 0, none⟩) l2.length d2] ++ vs.drop (i + 1))) (p.take i ++ (l1 :: l2 :: p.drop (i + 1))) := by
    have h0 := hpv2.below hb3 (Nat.le_refl _)
    exact (h0.take i).append (PvAt.cons (X12.out.below hb3 (Nat.le_refl _)) (PvAt.cons (X2.out.below hb3 (Nat.le_refl _)) (h0.drop (i + 1))))
  have HRP := Lib.hid (replace_any g v2.heap.size 2 i vs [Value.slice (some ⟨g1, 0, none⟩) l1.length d1, Value.slice (some ⟨g2, 0, none⟩) l2.length d2] _ (by rw [HVL.out]; exact hn2) (by rw [HVL.out]; exact hi) rfl
    (HCS.out.below HB3.out hg) (fun j u hj => by rw [Nat.zero_add]; exact cell_new v2 #[Value.slice (some ⟨g1, 0, none⟩) l1.length d1, Value.slice (some ⟨g2, 0, none⟩) l2.length d2] 27 j (by rw [List.getElem?_toArray]; exact hj)) hun (HV.out.one))
  have HPV3 := Lib.hid hpv3
  rw [HVL.out] at HRP
  clear hun hpv2 hb3 hpv3 X1 X2 X12 S0 S1 S2 KS KC1 KC2
  go_wp2_with fail
  refine HRP.out.mono ?_
  intro e w5 hr
  have hr2 := hr.pgs HPV3.out HB3.out
  obtain ⟨A5, c5, rfl, h1, h2, h3⟩ := hr2
  have H2 := Lib.hid h2
  clear h2 hr HPV3 HRP
  generalize p.take i ++ (l1 :: l2 :: p.drop (i + 1)) = res at *
  go_wp2
  go_ret
  exact ⟨A5, c5, rfl, h1, H2.out, h3⟩
end Go.Proofs.Ytflijnhgonigjaa
