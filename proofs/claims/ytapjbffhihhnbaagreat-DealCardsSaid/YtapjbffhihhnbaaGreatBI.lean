/-
  WORDS: append of one span at a step of a region that draws; a card laid into a block of its own (nine stores). No condition.
  WALK: cardOf returns the card whose numbers a text of 32 bytes has, format Two. Condition: the text has 32 bytes.
-/
import Derived.Test.YtapjbffhihhnbaaGreatBH
namespace Go.Proofs.YtapjbffhihhnbaaGreat
open Go.RowKit

set_option maxRecDepth 100000 in
theorem one_sp (s : Sp) : ∀ u ∈ spCells s, u.oneCell' = true := by simp [spCells, Value.oneCell']
set_option maxRecDepth 100000 in
/-- 'append(l, s)' of spans, at a step of a region that draws its order. -/
theorem step_push {ops : Array Oper} {o : Oper} {a : Act} {K : Act → World → Prop} {Q : Exit → Act → World → Prop} {E : Prop} (hgd : o.guard = none) (s x : Operand)
    (ho : o.op = .call { callee := .builtin .append, args := #[s, x], argTypes := #[38, 38] })
    (base : Nat) (W : World) (v : Value) (l : List Sp) (sp : Sp) (hs : a.eval s = v) (hx : a.eval x = .slice (some ⟨W.heap.size, 0, none⟩) 1 1)
    (hown : W.ownsRow base 121 3 v l.length (spsCells l)) (hl : l.length ≤ 100000) (hbase : base ≤ W.heap.size)
    (h : ∀ v' w', w'.ownsRow base 121 3 v' (l ++ [sp]).length (spsCells (l ++ [sp])) → Below base W w' → K (a.put o.dst v') w') :
    if Region.wanted o (yielded ops a.tmps) = true then Oper.wp Tryz.prog o a (W.alloc (.cells #[.int .i64 sp.at_, .int .i64 sp.st, .int .i64 sp.len] 121)) K Q else E := by
  have hw : Region.wanted o (yielded ops a.tmps) = true := by simp [Region.wanted, hgd]
  rw [if_pos hw]
  obtain ⟨i0, hi, hz0, hz1, hz2⟩ := info_parts info48
  refine wp_append_own _ s x 38 ho base 121 i0 _ 3 24 Tryz.underlying38 hi hz0 hz1 hz2 rfl (by decide) v l.length (spsCells l) hs (hown.alloc _) ⟨W.heap.size, 0, none⟩ 1 1 (spCells sp) hx rfl
    (World.news_of_block (heap_alloc_new W _)) (one_sp sp) (by unfold maxLen; omega) (by omega) (by simp; omega) ?_
  intro v' w' hown' hg _
  refine h v' w' ?_ ?_
  · rw [spsCells_snoc, List.length_append]; exact hown'
  · exact (((Below.refl base W).alloc hbase _).grown hg (by simp; omega) (fun k hk => (hown.lt k hk).1))

set_option maxRecDepth 100000 in
theorem own_sps {w : World} {base : Nat} {v : Value} {n : Nat} {xs : List Value} (h : w.ownsRow base 121 3 v n xs) : ∃ A c, v = .slice A n c ∧ n ≤ c := by
  rcases h.2 with ⟨rfl, h0⟩ | ⟨g, cap, cur, rfl, _, _, hc, _⟩
  · have : n = 0 := by have := h.1; omega
    subst this
    exact ⟨none, 0, rfl, Nat.le_refl _⟩
  · exact ⟨_, cap, rfl, by omega⟩

/-- the world behind nine stores into block r. -/
def put9 (w : World) (r : Nat) (c : Cd) (A : Option Addr) (n k : Nat) (A' : Option Addr) (n' k' : Nat) : World :=
  (((((((((w.setCell ⟨r, 0, none⟩ (.int .i64 c.fm)).setCell ⟨r, 1, none⟩ (.int .i64 c.kd)).setCell ⟨r, 2, none⟩ (.int .i64 c.ln)).setCell ⟨r, 3, none⟩ (.int .i64 c.sz)).setCell ⟨r, 4, none⟩ (.slice A n k)).setCell ⟨r, 5, none⟩ (.int .i64 c.sg)).setCell ⟨r, 6, none⟩ (.int .i64 c.db)).setCell ⟨r, 7, none⟩ (.slice A' n' k')).setCell ⟨r, 8, none⟩ (.int .i64 c.ov))
section
variable {w : World} {r : Nat} {c : Cd} {A : Option Addr} {n k : Nat} {A' : Option Addr} {n' k' : Nat}
set_option maxRecDepth 100000 in
theorem put9_row {c0 : Cd} {B0 : Option Addr} {m0 l0 : Nat} {B1 : Option Addr} {m1 l1 : Nat} (h : CdRow w r c0 B0 m0 l0 B1 m1 l1) : CdRow (put9 w r c A n k A' n' k') r c A n k A' n' k' := by
  unfold CdRow cells9 at h
  generalize Value.int .i64 c0.fm = a0 at h
  generalize Value.int .i64 c0.kd = a1 at h
  generalize Value.int .i64 c0.ln = a2 at h
  generalize Value.int .i64 c0.sz = a3 at h
  generalize Value.slice B0 m0 l0 = a4 at h
  generalize Value.int .i64 c0.sg = a5 at h
  generalize Value.int .i64 c0.db = a6 at h
  generalize Value.slice B1 m1 l1 = a7 at h
  generalize Value.int .i64 c0.ov = a8 at h
  unfold put9
  have h : (w.setCell ⟨r, 0, none⟩ (.int .i64 c.fm)).heap[r]? = some (.cells #[.int .i64 c.fm, a1, a2, a3, a4, a5, a6, a7, a8] 40 (0, 0)) := row_set h rfl
  generalize (w.setCell ⟨r, 0, none⟩ (.int .i64 c.fm)) = w at *
  have h : (w.setCell ⟨r, 1, none⟩ (.int .i64 c.kd)).heap[r]? = some (.cells #[.int .i64 c.fm, .int .i64 c.kd, a2, a3, a4, a5, a6, a7, a8] 40 (0, 0)) := row_set h rfl
  generalize (w.setCell ⟨r, 1, none⟩ (.int .i64 c.kd)) = w at *
  have h : (w.setCell ⟨r, 2, none⟩ (.int .i64 c.ln)).heap[r]? = some (.cells #[.int .i64 c.fm, .int .i64 c.kd, .int .i64 c.ln, a3, a4, a5, a6, a7, a8] 40 (0, 0)) := row_set h rfl
  generalize (w.setCell ⟨r, 2, none⟩ (.int .i64 c.ln)) = w at *
  have h : (w.setCell ⟨r, 3, none⟩ (.int .i64 c.sz)).heap[r]? = some (.cells #[.int .i64 c.fm, .int .i64 c.kd, .int .i64 c.ln, .int .i64 c.sz, a4, a5, a6, a7, a8] 40 (0, 0)) := row_set h rfl
  generalize (w.setCell ⟨r, 3, none⟩ (.int .i64 c.sz)) = w at *
  have h : (w.setCell ⟨r, 4, none⟩ (.slice A n k)).heap[r]? = some (.cells #[.int .i64 c.fm, .int .i64 c.kd, .int .i64 c.ln, .int .i64 c.sz, .slice A n k, a5, a6, a7, a8] 40 (0, 0)) := row_set h rfl
  generalize (w.setCell ⟨r, 4, none⟩ (.slice A n k)) = w at *
  have h : (w.setCell ⟨r, 5, none⟩ (.int .i64 c.sg)).heap[r]? = some (.cells #[.int .i64 c.fm, .int .i64 c.kd, .int .i64 c.ln, .int .i64 c.sz, .slice A n k, .int .i64 c.sg, a6, a7, a8] 40 (0, 0)) := row_set h rfl
  generalize (w.setCell ⟨r, 5, none⟩ (.int .i64 c.sg)) = w at *
  have h : (w.setCell ⟨r, 6, none⟩ (.int .i64 c.db)).heap[r]? = some (.cells #[.int .i64 c.fm, .int .i64 c.kd, .int .i64 c.ln, .int .i64 c.sz, .slice A n k, .int .i64 c.sg, .int .i64 c.db, a7, a8] 40 (0, 0)) := row_set h rfl
  generalize (w.setCell ⟨r, 6, none⟩ (.int .i64 c.db)) = w at *
  have h : (w.setCell ⟨r, 7, none⟩ (.slice A' n' k')).heap[r]? = some (.cells #[.int .i64 c.fm, .int .i64 c.kd, .int .i64 c.ln, .int .i64 c.sz, .slice A n k, .int .i64 c.sg, .int .i64 c.db, .slice A' n' k', a8] 40 (0, 0)) := row_set h rfl
  generalize (w.setCell ⟨r, 7, none⟩ (.slice A' n' k')) = w at *
  have h : (w.setCell ⟨r, 8, none⟩ (.int .i64 c.ov)).heap[r]? = some (.cells #[.int .i64 c.fm, .int .i64 c.kd, .int .i64 c.ln, .int .i64 c.sz, .slice A n k, .int .i64 c.sg, .int .i64 c.db, .slice A' n' k', .int .i64 c.ov] 40 (0, 0)) := row_set h rfl
  generalize (w.setCell ⟨r, 8, none⟩ (.int .i64 c.ov)) = w at *
  exact h
set_option maxRecDepth 100000 in
theorem put9_below {B : Nat} {w0 : World} (h : Below B w0 w) (hr : B ≤ r) : Below B w0 (put9 w r c A n k A' n' k') := by
  unfold put9
  exact ((((((((h.setCell (p := ⟨r, 0, none⟩) hr _).setCell (p := ⟨r, 1, none⟩) hr _).setCell (p := ⟨r, 2, none⟩) hr _).setCell (p := ⟨r, 3, none⟩) hr _).setCell (p := ⟨r, 4, none⟩) hr _).setCell (p := ⟨r, 5, none⟩) hr _).setCell (p := ⟨r, 6, none⟩) hr _).setCell (p := ⟨r, 7, none⟩) hr _).setCell (p := ⟨r, 8, none⟩) hr _
set_option maxRecDepth 100000 in
theorem put9_other {q : Nat} (h : q ≠ r) : (put9 w r c A n k A' n' k').heap[q]? = w.heap[q]? := by
  have key : ∀ (w : World) (j : Nat) (v : Value), (w.setCell ⟨r, j, none⟩ v).heap[q]? = w.heap[q]? := fun w j v => by
    show (w.heap.modify r _)[q]? = _
    rw [Array.getElem?_modify, if_neg (by omega)]
  unfold put9
  rw [key, key, key, key, key, key, key, key, key]
set_option maxRecDepth 100000 in
theorem put9_size : (put9 w r c A n k A' n' k').heap.size = w.heap.size := by
  unfold put9; simp
set_option maxRecDepth 100000 in
theorem put9_own {base m sz : Nat} {e : TypeId} {v : Value} {xs : List Value} (h : w.ownsRow base e sz v m xs) (hq : r < base) : (put9 w r c A n k A' n' k').ownsRow base e sz v m xs := by
  unfold put9
  exact own_set (own_set (own_set (own_set (own_set (own_set (own_set (own_set (own_set h _ _ _ hq) _ _ _ hq) _ _ _ hq) _ _ _ hq) _ _ _ hq) _ _ _ hq) _ _ _ hq) _ _ _ hq) _ _ _ hq
set_option maxRecDepth 100000 in
/-- a card laid into block r: other blocks are as they were. -/
theorem CdAt.put9 {B : Nat} {v : Value} {c' : Cd} (h : CdAt w B v c') (hB : B ≤ r) : CdAt (put9 w r c A n k A' n' k') B v c' :=
  h.below (C := r) (put9_below (Below.refl r w) (Nat.le_refl r)) hB
end
end Go.Proofs.YtapjbffhihhnbaaGreat

namespace Go.Proofs.YtapjbffhihhnbaaGreat
open Go.RowKit

set_option maxRecDepth 100000 in
theorem runsD_succ (bs : List Int) (j : Nat) : runsD bs (j + 1) = runsD bs j ++ [runD bs j] := by simp [runsD, List.range_succ]
set_option maxRecDepth 100000 in
theorem runsD_len (bs : List Int) (j : Nat) : (runsD bs j).length = j := by simp [runsD]
set_option maxRecDepth 100000 in
theorem runsD_fit (bs : List Int) (hF : ∀ a n, n ≤ 4 → Fit (decF bs a n)) (j : Nat) : ∀ s ∈ runsD bs j, s.fit := by
  intro s hs
  obtain ⟨i, _, rfl⟩ := List.mem_map.1 hs
  exact ⟨hF _ _ (by omega), hF _ _ (by omega), hF _ _ (by omega)⟩
/-- what is so at the head of the loop over the runs. -/
def RunSt (w : World) (bs : List Int) (b o g m : Nat) (kd ln sz : Int) (u7 u58 : Value) (wr : World) : Prop :=
  ∃ j q n7 c7 A' k', j ≤ m ∧ u7 = .slice (some ⟨b, q, none⟩) n7 c7 ∧ u58 = .int .i64 (j : Int) ∧ Hid (q = o + 5 + 3 * j) ∧ n7 + 3 * j = 10 ∧ n7 ≤ c7 ∧
    CdRow wr g ⟨2, kd, ln, sz, [], 0, 0, [], 0⟩ none 0 0 A' j k' ∧ wr.ownsRow (g + 1) 121 3 (.slice A' j k') j (spsCells (runsD bs j)) ∧ CdRow wr w.heap.size zeroC none 0 0 none 0 0 ∧
    Hid (∀ k, k < 15 → wr.cell? ⟨b, o + k, none⟩ = some (.int .i64 ((fields2 bs).getD k 0))) ∧ Below w.heap.size w wr

section
variable {wr : World} {bs : List Int} {b o j : Nat}
set_option maxRecDepth 100000 in
theorem fld_run0 (h : ∀ k, k < 15 → wr.cell? ⟨b, o + k, none⟩ = some (.int .i64 ((fields2 bs).getD k 0))) (hj : j < 3) : wr.cell? ⟨b, o + (5 + 3 * j), none⟩ = some (.int .i64 (decF bs (9 + 6 * j) 2)) := by
  rw [h _ (by omega)]
  have : j = 0 ∨ j = 1 ∨ j = 2 := by omega
  rcases this with rfl | rfl | rfl <;> rfl
set_option maxRecDepth 100000 in
theorem fld_run1 (h : ∀ k, k < 15 → wr.cell? ⟨b, o + k, none⟩ = some (.int .i64 ((fields2 bs).getD k 0))) (hj : j < 3) : wr.cell? ⟨b, o + (6 + 3 * j), none⟩ = some (.int .i64 (decF bs (11 + 6 * j) 2)) := by
  rw [h _ (by omega)]
  have : j = 0 ∨ j = 1 ∨ j = 2 := by omega
  rcases this with rfl | rfl | rfl <;> rfl
set_option maxRecDepth 100000 in
theorem fld_run2 (h : ∀ k, k < 15 → wr.cell? ⟨b, o + k, none⟩ = some (.int .i64 ((fields2 bs).getD k 0))) (hj : j < 3) : wr.cell? ⟨b, o + (7 + 3 * j), none⟩ = some (.int .i64 (decF bs (13 + 6 * j) 2)) := by
  rw [h _ (by omega)]
  have : j = 0 ∨ j = 1 ∨ j = 2 := by omega
  rcases this with rfl | rfl | rfl <;> rfl
end

set_option maxRecDepth 100000 in
set_option maxHeartbeats 4000000 in
theorem card2_any (s : ByteArray) (w : World) (hs : s.size = 32) (h2 : decF (bytesOf s) 0 1 = 2) : Calls Tryz.prog 81 #[.string s] w (RetCd w (cardD (bytesOf s))) := by
  have hlen : (bytesOf s).length = 32 := by rw [bytesOf_len, hs]
  have HRD := Lib.hid (readR2 hlen)
  have hpos : 0 < s.size := by omega
  have HC : Hid (cardD (bytesOf s) = ⟨2, decF (bytesOf s) 1 1, decF (bytesOf s) 2 2, decF (bytesOf s) 4 4, [], 0, 0, runsD (bytesOf s) (cntD (bytesOf s)), decF (bytesOf s) 27 2⟩) := by
    show _ = _; unfold cardD; rw [if_neg (by rw [h2]; decide), if_pos h2]
  have hx : ((s[0].toNat : Nat) : Int) = 2 := (dec0 s hpos).symm.trans h2
  have HF : Hid (∀ a n, n ≤ 4 → Fit (decF (bytesOf s) a n)) := fun a n hn => cd_fit _ (bytesOf_bd s) a n hn
  have hcz := decF_bd (bytesOf s) (bytesOf_bd s) 1 8
  have HM : Hid (∃ m : Nat, m ≤ 3 ∧ cntD (bytesOf s) = m ∧ ((decF (bytesOf s) 8 1 = (m : Int)) ∨ (3 < decF (bytesOf s) 8 1 ∧ 3 ≤ m))) := by
    show ∃ m : Nat, _
    unfold cntD
    by_cases h : decF (bytesOf s) 8 1 ≤ 3
    · exact ⟨(decF (bytesOf s) 8 1).toNat, by omega, by omega, Or.inl (by omega)⟩
    · exact ⟨3, by omega, by omega, Or.inr ⟨by omega, by omega⟩⟩
  have HRA := Lib.hid (fun (A : Option Addr) (n c B : Nat) (v : World) (hr : IntsAt v B A n (widthsC 2)) (hB : B ≤ v.heap.size) (hn : n ≤ 20000000000000) => read_any A n c B (widthsC 2) s v hr hB hn (by omega))
  rw [HRD.out] at HRA
  have HX := Lib.hid hx
  have hcz1 : 0 ≤ decF (bytesOf s) 8 1 ∧ decF (bytesOf s) 8 1 ≤ 255 := ⟨hcz.1, by have := hcz.2; simp at this; omega⟩
  clear hlen hs h2 HRD hx hcz
  generalize bytesOf s = bs at *
  have HWID : Hid (∀ v : World, Calls Tryz.prog 84 #[.int .i64 2] v fun e w' => RetI v (widthsC 2) e w') := fun v => widths_any 2 v
  obtain ⟨m, hm3, hmc, hmm⟩ := HM.out
  have HMC := Lib.hid hmc
  clear HM hmc
  go_enter Tryz.func81, Tryz.ntmps81
  go_wp2_with fail
  rw [HX.out, show wrap64 2 = 2 by decide +kernel]
  refine (HWID.out _).mono ?_
  rintro e w1 ⟨A1, c1, rfl, i1, b1⟩
  have HR0 : Hid (CdRow w1 w.heap.size zeroC none 0 0 none 0 0) := (CdRow.new w zeroC none 0 0 none 0 0).below b1 (by simp)
  have HB1 : Hid (Below w.heap.size w w1) := ((Below.refl _ _).alloc (Nat.le_refl _) _).trans (b1.mono (by simp))
  have I1 := Lib.hid i1
  clear b1 i1
  go_wp2_with fail
  refine (HRA.out _ _ _ _ _ I1.out (Nat.le_refl _) (by decide)).mono ?_
  rintro e w2 ⟨A2, n2, c2, rfl, hc2, i2, b2⟩
  have hn2 : 15 = n2 := i2.len
  subst hn2
  obtain ⟨b, o, rfl, hbw, -⟩ := i2.at_ (k := 0) (by omega)
  have HCELL : Hid (∀ k, k < 15 → w2.cell? ⟨b, o + k, none⟩ = some (.int .i64 ((fields2 bs).getD k 0))) := fun k hk => by
    obtain ⟨b', o', e, _, h⟩ := i2.at_ hk
    cases e; exact h
  have HR2 := Lib.hid (HR0.out.below b2 HR0.out.lt)
  have HB2 := Lib.hid (HB1.out.trans (b2.mono HB1.out.size))
  have hg2 := HR2.out.lt
  have hw2 := HB2.out.size
  have hcne : ¬ (c2 = 4) := by omega
  have hcne1 : ¬ (c2 - 4 = 1) := by omega
  clear b2 i2 HR0 HB1 I1 HRA HWID
  have k1 : w2.cell? ⟨b, o + 1, none⟩ = some (.int .i64 (decF bs 1 1)) := HCELL.out 1 (by omega)
  have k2 : w2.cell? ⟨b, o + 2, none⟩ = some (.int .i64 (decF bs 2 2)) := HCELL.out 2 (by omega)
  have k3 : w2.cell? ⟨b, o + 3, none⟩ = some (.int .i64 (decF bs 4 4)) := HCELL.out 3 (by omega)
  go_wp2
  go_region
  have HG3 : Hid (CdRow (w2.alloc (.cells #[.int .i64 2, .int .i64 (decF bs 1 1), .int .i64 (decF bs 2 2), .int .i64 (decF bs 4 4), .slice none 0 0, .int .i64 0, .int .i64 0, .slice none 0 0, .int .i64 0] 40)).drew w2.heap.size ⟨2, decF bs 1 1, decF bs 2 2, decF bs 4 4, [], 0, 0, [], 0⟩ none 0 0 none 0 0) := CdRow.dr (CdRow.new w2 ⟨2, decF bs 1 1, decF bs 2 2, decF bs 4 4, [], 0, 0, [], 0⟩ none 0 0 none 0 0)
  have b3 : Below w2.heap.size w2 (w2.alloc (.cells #[.int .i64 2, .int .i64 (decF bs 1 1), .int .i64 (decF bs 2 2), .int .i64 (decF bs 4 4), .slice none 0 0, .int .i64 0, .int .i64 0, .slice none 0 0, .int .i64 0] 40)).drew := Below.dr ((Below.refl _ _).alloc (Nat.le_refl _) _)
  have HR3 := Lib.hid (HR2.out.below b3 hg2)
  have HB3 := Lib.hid (HB2.out.trans (b3.mono hw2))
  have HK : Hid (∀ k, k < 15 → (w2.alloc (.cells #[.int .i64 2, .int .i64 (decF bs 1 1), .int .i64 (decF bs 2 2), .int .i64 (decF bs 4 4), .slice none 0 0, .int .i64 0, .int .i64 0, .slice none 0 0, .int .i64 0] 40)).drew.cell? ⟨b, o + k, none⟩ = some (.int .i64 ((fields2 bs).getD k 0))) := fun k hk => (b3.cell (p := ⟨b, o + k, none⟩) hbw).trans (HCELL.out k hk)
  clear b3 k1 k2 k3 HCELL HR2 HB2
  generalize (w2.alloc (.cells #[.int .i64 2, .int .i64 (decF bs 1 1), .int .i64 (decF bs 2 2), .int .i64 (decF bs 4 4), .slice none 0 0, .int .i64 0, .int .i64 0, .slice none 0 0, .int .i64 0] 40)).drew = w3 at *
  generalize w2.heap.size = g at *
  have k4 : w3.cell? ⟨b, o + 4, none⟩ = some (.int .i64 (decF bs 8 1)) := HK.out 4 (by omega)
  go_wp2
  go_quiet (fail)
  have HINI : Hid (RunSt w bs b o g m (decF bs 1 1) (decF bs 2 2) (decF bs 4 4) (.slice (some ⟨b, o + 4 + 1, none⟩) 10 (c2 - 4 - 1)) (.int .i64 0) (w3.drewN nq)) :=
    ⟨0, o + 4 + 1, 10, c2 - 4 - 1, none, 0, Nat.zero_le _, rfl, rfl, (by show _ = _; omega), by omega, by omega, HG3.out, World.ownsRow_nil _ _ _ _, HR3.out, HK.out, Below.drews HB3.out ⟨nq, rfl⟩⟩
  have HKD := Lib.hid (HF.out 1 1 (by omega))
  have HLN := Lib.hid (HF.out 2 2 (by omega))
  have HSZ := Lib.hid (HF.out 4 4 (by omega))
  clear k4 HG3 HR3 HK HB3 hcne hcne1
  generalize w3.drewN nq = w4 at *
  generalize decF bs 1 1 = kd at *
  generalize decF bs 2 2 = ln at *
  generalize decF bs 4 4 = sz at *
  rcases hmm with hm | ⟨hm, h3⟩
  · rw [hm]
    clear hm hcz1
    have x1 : (m : Int) ≤ 3 := by omega
    go_wp2
    go_loopw [7, 58] (fun u7 u58 wr => RunSt w bs b o g m kd ln sz u7 u58 wr) (fun _ i _ => m - (intOf i).toNat)
    case atStart => exact HINI.out
    case round =>
      clear HINI
      obtain ⟨j, q, n7, c7, A', k', hj, rfl, rfl, HQ, hn7, hc7, hg4, ho4, hr4, HK4, hb4⟩ := hrel
      have HG4 := Lib.hid hg4
      have HO4 := Lib.hid ho4
      have HR4 := Lib.hid hr4
      have HB4 := Lib.hid hb4
      have hgl := HG4.out.lt
      clear hg4 ho4 hr4 hb4
      by_cases hlt : j < m
      · have y0 : wr.cell? ⟨b, q, none⟩ = some (.int .i64 (decF bs (9 + 6 * j) 2)) := by rw [HQ.out, show o + 5 + 3 * j = o + (5 + 3 * j) by omega]; exact fld_run0 HK4.out (by omega)
        have y1 : wr.cell? ⟨b, q + 1, none⟩ = some (.int .i64 (decF bs (11 + 6 * j) 2)) := by rw [HQ.out, show o + 5 + 3 * j + 1 = o + (6 + 3 * j) by omega]; exact fld_run1 HK4.out (by omega)
        have y2 : wr.cell? ⟨b, q + 2, none⟩ = some (.int .i64 (decF bs (13 + 6 * j) 2)) := by rw [HQ.out, show o + 5 + 3 * j + 2 = o + (7 + 3 * j) by omega]; exact fld_run2 HK4.out (by omega)
        have HRS : Hid (runsD bs (j + 1) = runsD bs j ++ [⟨decF bs (9 + 6 * j) 2, decF bs (11 + 6 * j) 2, decF bs (13 + 6 * j) 2⟩]) := runsD_succ bs j
        generalize decF bs (9 + 6 * j) 2 = x at *
        generalize decF bs (11 + 6 * j) 2 = y at *
        generalize decF bs (13 + 6 * j) 2 = z at *
        have t7 := HG4.out.cells.2.2.2.2.2.2.2.1
        have tz := HG4.out.fz 7
        have v0 : 0 < n7 := by omega
        have v1 : 1 < n7 := by omega
        have v2 : 2 < n7 := by omega
        have v3 : 3 ≤ n7 := by omega
        have v5 : (1 : Int) < (n7 : Int) := by omega
        have v6 : (2 : Int) < (n7 : Int) := by omega
        have v7 : (3 : Int) ≤ (n7 : Int) := by omega
        have v4 : ¬ c7 = 3 := by omega
        go_wp2
        have a0 : (wr.alloc (.cells #[.int .i64 x, .int .i64 y, .int .i64 z] 121)).cell? ⟨b, q, none⟩ = some (.int .i64 x) := (World.cell?_alloc_lt wr _ ⟨b, q, none⟩ (by show b < wr.heap.size; omega)).trans y0
        have a1 : (wr.alloc (.cells #[.int .i64 x, .int .i64 y, .int .i64 z] 121)).cell? ⟨b, q + 1, none⟩ = some (.int .i64 y) := (World.cell?_alloc_lt wr _ ⟨b, q + 1, none⟩ (by show b < wr.heap.size; omega)).trans y1
        have a2 : (wr.alloc (.cells #[.int .i64 x, .int .i64 y, .int .i64 z] 121)).cell? ⟨b, q + 2, none⟩ = some (.int .i64 z) := (World.cell?_alloc_lt wr _ ⟨b, q + 2, none⟩ (by show b < wr.heap.size; omega)).trans y2
        refine wp_region_held_drew (S := fun v => v.cell? ⟨b, q, none⟩ = some (.int .i64 x) ∧ v.cell? ⟨b, q + 1, none⟩ = some (.int .i64 y) ∧ v.cell? ⟨b, q + 2, none⟩ = some (.int .i64 z)) (by kernel_rfl) (⟨y0, y1, y2⟩) (fun hHeld => ?_)
        refine wpAnyH_take (i := 0) (oi := { dst := some 60, op := Op.fieldAddr 40 (Operand.tmp 6) 7, type := 0, pos := _, after := _, guard := none }) (v := ?va0) rfl (by kernel_rfl) (by kernel_rfl) (by kernel_rfl) (fun _ _ _ h => h) (Or.inl ⟨by rfl, ?hya0⟩) (by assumption) ?resta0
        case hya0 => (intro w hSw; (try dsimp only at hSw); go_simp <;> with_reducible rfl)
        simp only [Act.put, List.setIfInBounds_toArray, List.set_cons_zero, List.set_cons_succ]
        refine wpAnyH_take (i := 2) (oi := { dst := some 62, op := Op.move (Operand.tmp 7), type := 37, pos := _, after := _, guard := none }) (v := ?va2) rfl (by kernel_rfl) (by kernel_rfl) (by kernel_rfl) (fun _ _ _ h => h) (Or.inl ⟨by rfl, ?hya2⟩) (by assumption) ?resta2
        case hya2 => (intro w hSw; (try dsimp only at hSw); go_simp <;> with_reducible rfl)
        simp only [Act.put, List.setIfInBounds_toArray, List.set_cons_zero, List.set_cons_succ]
        refine wpAnyH_take (i := 3) (oi := { dst := some 63, op := Op.indexAddr 37 (Operand.tmp 62) (Operand.const (Value.int IntKind.i64 0)), type := 0, pos := _, after := _, guard := none }) (v := ?va3) rfl (by kernel_rfl) (by kernel_rfl) (by kernel_rfl) (fun _ _ _ h => h) (Or.inl ⟨by rfl, ?hya3⟩) (by assumption) ?resta3
        case hya3 => (intro w hSw; (try dsimp only at hSw); go_simp <;> with_reducible rfl)
        simp only [Act.put, List.setIfInBounds_toArray, List.set_cons_zero, List.set_cons_succ]
        refine wpAnyH_take (i := 4) (oi := { dst := some 64, op := Op.load 3 (Operand.tmp 63), type := 3, pos := _, after := _, guard := none }) (v := ?va4) rfl (by kernel_rfl) (by kernel_rfl) (by kernel_rfl) (fun _ _ _ h => h) (Or.inl ⟨by rfl, ?hya4⟩) (by assumption) ?resta4
        case hya4 => (intro w hSw; (try dsimp only at hSw); go_simp <;> with_reducible rfl)
        simp only [Act.put, List.setIfInBounds_toArray, List.set_cons_zero, List.set_cons_succ]
        refine wpAnyH_take (i := 5) (oi := { dst := some 65, op := Op.move (Operand.tmp 7), type := 37, pos := _, after := _, guard := none }) (v := ?va5) rfl (by kernel_rfl) (by kernel_rfl) (by kernel_rfl) (fun _ _ _ h => h) (Or.inl ⟨by rfl, ?hya5⟩) (by assumption) ?resta5
        case hya5 => (intro w hSw; (try dsimp only at hSw); go_simp <;> with_reducible rfl)
        simp only [Act.put, List.setIfInBounds_toArray, List.set_cons_zero, List.set_cons_succ]
        refine wpAnyH_take (i := 6) (oi := { dst := some 66, op := Op.indexAddr 37 (Operand.tmp 65) (Operand.const (Value.int IntKind.i64 1)), type := 0, pos := _, after := _, guard := none }) (v := ?va6) rfl (by kernel_rfl) (by kernel_rfl) (by kernel_rfl) (fun _ _ _ h => h) (Or.inl ⟨by rfl, ?hya6⟩) (by assumption) ?resta6
        case hya6 => (intro w hSw; (try dsimp only at hSw); go_simp <;> with_reducible rfl)
        simp only [Act.put, List.setIfInBounds_toArray, List.set_cons_zero, List.set_cons_succ]
        refine wpAnyH_take (i := 7) (oi := { dst := some 67, op := Op.load 3 (Operand.tmp 66), type := 3, pos := _, after := _, guard := none }) (v := ?va7) rfl (by kernel_rfl) (by kernel_rfl) (by kernel_rfl) (fun _ _ _ h => h) (Or.inl ⟨by rfl, ?hya7⟩) (by assumption) ?resta7
        case hya7 => (intro w hSw; (try dsimp only at hSw); go_simp <;> with_reducible rfl)
        simp only [Act.put, List.setIfInBounds_toArray, List.set_cons_zero, List.set_cons_succ]
        refine wpAnyH_take (i := 8) (oi := { dst := some 68, op := Op.move (Operand.tmp 7), type := 37, pos := _, after := _, guard := none }) (v := ?va8) rfl (by kernel_rfl) (by kernel_rfl) (by kernel_rfl) (fun _ _ _ h => h) (Or.inl ⟨by rfl, ?hya8⟩) (by assumption) ?resta8
        case hya8 => (intro w hSw; (try dsimp only at hSw); go_simp <;> with_reducible rfl)
        simp only [Act.put, List.setIfInBounds_toArray, List.set_cons_zero, List.set_cons_succ]
        refine wpAnyH_take (i := 9) (oi := { dst := some 69, op := Op.indexAddr 37 (Operand.tmp 68) (Operand.const (Value.int IntKind.i64 2)), type := 0, pos := _, after := _, guard := none }) (v := ?va9) rfl (by kernel_rfl) (by kernel_rfl) (by kernel_rfl) (fun _ _ _ h => h) (Or.inl ⟨by rfl, ?hya9⟩) (by assumption) ?resta9
        case hya9 => (intro w hSw; (try dsimp only at hSw); go_simp <;> with_reducible rfl)
        simp only [Act.put, List.setIfInBounds_toArray, List.set_cons_zero, List.set_cons_succ]
        refine wpAnyH_take (i := 10) (oi := { dst := some 70, op := Op.load 3 (Operand.tmp 69), type := 3, pos := _, after := _, guard := none }) (v := ?va10) rfl (by kernel_rfl) (by kernel_rfl) (by kernel_rfl) (fun _ _ _ h => h) (Or.inl ⟨by rfl, ?hya10⟩) (by assumption) ?resta10
        case hya10 => (intro w hSw; (try dsimp only at hSw); go_simp <;> with_reducible rfl)
        simp only [Act.put, List.setIfInBounds_toArray, List.set_cons_zero, List.set_cons_succ]
        refine wpAnyH_take (i := 11) (oi := { dst := some 71, op := Op.build 121 #[(0, Operand.tmp 64), (1, Operand.tmp 67), (2, Operand.tmp 70)], type := 121, pos := _, after := _, guard := none }) (v := ?va11) rfl (by kernel_rfl) (by kernel_rfl) (by kernel_rfl) (fun _ _ _ h => h) (Or.inl ⟨by rfl, ?hya11⟩) (by assumption) ?resta11
        case hya11 => (intro w hSw; (try dsimp only at hSw); go_simp <;> with_reducible rfl)
        simp only [Act.put, List.setIfInBounds_toArray, List.set_cons_zero, List.set_cons_succ]
        refine wpAnyH_ready (rs := [1, 12]) (by kernel_rfl) (by simp) ?_
        refine AllReadyH.cons (o := { dst := some 61, op := Op.load 38 (Operand.tmp 60), type := 38, pos := _, after := _, guard := none }) rfl (fun K' hK => ?_) (AllReadyH.cons (o := { dst := some 72, op := Op.buildSlice 38 1 #[(0, Operand.tmp 71)], type := 38, pos := _, after := _, guard := none }) rfl (fun K' hK => ?_) AllReadyH.nil)
        · go_simp
          refine hK.out _ _ (⟨y0, y1, y2⟩) (fun hHeld => ?_)
          clear hK K'
          refine wpAnyH_ready (rs := [12]) (by kernel_rfl) (by simp) ?_
          refine AllReadyH.cons (o := { dst := some 72, op := Op.buildSlice 38 1 #[(0, Operand.tmp 71)], type := 38, pos := _, after := _, guard := none }) rfl (fun K' hK => ?_) AllReadyH.nil
          go_simp
          refine hK.out _ _ (⟨a0, a1, a2⟩) (fun hHeld => ?_)
          clear hK K'
          refine wpAnyH_ready (rs := [13]) (by kernel_rfl) (by simp) ?_
          refine AllReadyH.cons (o := { dst := some 73, op := Op.call { callee := Callee.builtin Builtin.append, args := #[Operand.tmp 61, Operand.tmp 72], argTypes := #[38, 38] }, type := 38, pos := _, after := _, guard := none }) rfl (fun K' hK => ?_) AllReadyH.nil
          refine step_push rfl (.tmp 61) (.tmp 72) rfl (g + 1) wr.drew (.slice A' j k') (runsD bs j) ⟨x, y, z⟩ rfl rfl (by rw [runsD_len]; exact HO4.out) (by rw [runsD_len]; omega) (by show g + 1 ≤ wr.heap.size; omega) ?_
          intro u9 w6 ho6 hb6
          simp only [List.length_append, runsD_len, List.length_cons, List.length_nil, Nat.zero_add] at ho6
          obtain ⟨A6, c6, rfl, -⟩ := own_sps ho6
          have HG6 := Lib.hid (CdRow.below (w' := w6) HG4.out.dr hb6 (by omega))
          have t7' := HG6.out.cells.2.2.2.2.2.2.2.1
          have tz' := HG6.out.fz 7
          have y0' := (hb6.cell (p := ⟨b, q, none⟩) (by show b < g + 1; omega)).trans y0
          have y1' := (hb6.cell (p := ⟨b, q + 1, none⟩) (by show b < g + 1; omega)).trans y1
          have y2' := (hb6.cell (p := ⟨b, q + 2, none⟩) (by show b < g + 1; omega)).trans y2
          refine hK.out _ _ (⟨y0', y1', y2'⟩) (fun hHeld => ?_)
          clear hK K'
          refine wpAnyH_take (i := 14) (oi := { dst := some 74, op := Op.fieldAddr 40 (Operand.tmp 6) 7, type := 0, pos := _, after := _, guard := none }) (v := ?vq014) rfl (by kernel_rfl) (by kernel_rfl) (by kernel_rfl) (fun _ _ _ h => h) (Or.inl ⟨by rfl, ?hyq014⟩) (by assumption) ?restq014
          case hyq014 => (intro w hSw; (try dsimp only at hSw); go_simp <;> with_reducible rfl)
          simp only [Act.put, List.setIfInBounds_toArray, List.set_cons_zero, List.set_cons_succ]
          refine wpAnyH_ready (rs := [15]) (by kernel_rfl) (by simp) ?_
          refine AllReadyH.cons (o := { dst := none, op := Op.store 38 (Operand.tmp 74) (Operand.tmp 73), type := 0, pos := _, after := _, guard := none }) rfl (fun K' hK => ?_) AllReadyH.nil
          go_simp
          refine hK.out _ _ (⟨(((Below.refl g w6).setCell (p := ⟨g, 7, none⟩) (Nat.le_refl g) _).cell (p := ⟨b, q, none⟩) hbw).trans y0', (((Below.refl g w6).setCell (p := ⟨g, 7, none⟩) (Nat.le_refl g) _).cell (p := ⟨b, q + 1, none⟩) hbw).trans y1', (((Below.refl g w6).setCell (p := ⟨g, 7, none⟩) (Nat.le_refl g) _).cell (p := ⟨b, q + 2, none⟩) hbw).trans y2'⟩) (fun hHeld => ?_)
          clear hK K'
          refine wpAnyH_done (by kernel_rfl) ?_ _
          have HG7 : Hid (CdRow (w6.setCell ⟨g, 7, none⟩ (.slice A6 (j + 1) c6)) g ⟨2, kd, ln, sz, [], 0, 0, [], 0⟩ none 0 0 A6 (j + 1) c6) := row_set HG6.out rfl
          have hb7 : Below g wr (w6.setCell ⟨g, 7, none⟩ (.slice A6 (j + 1) c6)) := Below.setCell (p := ⟨g, 7, none⟩) (Below.und (hb6.mono (Nat.le_succ g))) (Nat.le_refl g) _
          have HO7 : Hid ((w6.setCell ⟨g, 7, none⟩ (.slice A6 (j + 1) c6)).ownsRow (g + 1) 121 3 (.slice A6 (j + 1) c6) (j + 1) (spsCells (runsD bs (j + 1)))) := by
            show World.ownsRow _ _ _ _ _ _ _
            rw [HRS.out]; exact own_set ho6 g 7 _ (Nat.lt_succ_self g)
          have HK7 : Hid (∀ k, k < 15 → (w6.setCell ⟨g, 7, none⟩ (.slice A6 (j + 1) c6)).cell? ⟨b, o + k, none⟩ = some (.int .i64 ((fields2 bs).getD k 0))) := fun k hk => (hb7.cell (p := ⟨b, o + k, none⟩) hbw).trans (HK4.out k hk)
          have HR7 := Lib.hid (HR4.out.below hb7 hg2)
          have HB7 := Lib.hid (HB4.out.trans (hb7.mono (Nat.le_of_lt hg2)))
          clear y0' y1' y2' t7' tz' hb6 hb7 ho6 hHeld
          generalize (w6.setCell ⟨g, 7, none⟩ (.slice A6 (j + 1) c6)) = w7 at *
          go_wp2
          go_roundw
          case rel => exact ⟨j + 1, q + 3, n7 - 3, c7 - 3, A6, c6, by omega, rfl, by go_num, (by show _ = _; have := HQ.out; omega), by omega, by omega, HG7.out, HO7.out, HR7.out, HK7.out, HB7.out⟩
          case measure => simp [intOf]; omega
        · go_simp
          refine hK.out _ _ (⟨a0, a1, a2⟩) (fun hHeld => ?_)
          clear hK K'
          refine wpAnyH_ready (rs := [1]) (by kernel_rfl) (by simp) ?_
          refine AllReadyH.cons (o := { dst := some 61, op := Op.load 38 (Operand.tmp 60), type := 38, pos := _, after := _, guard := none }) rfl (fun K' hK => ?_) AllReadyH.nil
          go_simp
          refine hK.out _ _ (⟨a0, a1, a2⟩) (fun hHeld => ?_)
          clear hK K'
          refine wpAnyH_ready (rs := [13]) (by kernel_rfl) (by simp) ?_
          refine AllReadyH.cons (o := { dst := some 73, op := Op.call { callee := Callee.builtin Builtin.append, args := #[Operand.tmp 61, Operand.tmp 72], argTypes := #[38, 38] }, type := 38, pos := _, after := _, guard := none }) rfl (fun K' hK => ?_) AllReadyH.nil
          refine step_push rfl (.tmp 61) (.tmp 72) rfl (g + 1) wr.drew (.slice A' j k') (runsD bs j) ⟨x, y, z⟩ rfl rfl (by rw [runsD_len]; exact HO4.out) (by rw [runsD_len]; omega) (by show g + 1 ≤ wr.heap.size; omega) ?_
          intro u9 w6 ho6 hb6
          simp only [List.length_append, runsD_len, List.length_cons, List.length_nil, Nat.zero_add] at ho6
          obtain ⟨A6, c6, rfl, -⟩ := own_sps ho6
          have HG6 := Lib.hid (CdRow.below (w' := w6) HG4.out.dr hb6 (by omega))
          have t7' := HG6.out.cells.2.2.2.2.2.2.2.1
          have tz' := HG6.out.fz 7
          have y0' := (hb6.cell (p := ⟨b, q, none⟩) (by show b < g + 1; omega)).trans y0
          have y1' := (hb6.cell (p := ⟨b, q + 1, none⟩) (by show b < g + 1; omega)).trans y1
          have y2' := (hb6.cell (p := ⟨b, q + 2, none⟩) (by show b < g + 1; omega)).trans y2
          refine hK.out _ _ (⟨y0', y1', y2'⟩) (fun hHeld => ?_)
          clear hK K'
          refine wpAnyH_take (i := 14) (oi := { dst := some 74, op := Op.fieldAddr 40 (Operand.tmp 6) 7, type := 0, pos := _, after := _, guard := none }) (v := ?vq114) rfl (by kernel_rfl) (by kernel_rfl) (by kernel_rfl) (fun _ _ _ h => h) (Or.inl ⟨by rfl, ?hyq114⟩) (by assumption) ?restq114
          case hyq114 => (intro w hSw; (try dsimp only at hSw); go_simp <;> with_reducible rfl)
          simp only [Act.put, List.setIfInBounds_toArray, List.set_cons_zero, List.set_cons_succ]
          refine wpAnyH_ready (rs := [15]) (by kernel_rfl) (by simp) ?_
          refine AllReadyH.cons (o := { dst := none, op := Op.store 38 (Operand.tmp 74) (Operand.tmp 73), type := 0, pos := _, after := _, guard := none }) rfl (fun K' hK => ?_) AllReadyH.nil
          go_simp
          refine hK.out _ _ (⟨(((Below.refl g w6).setCell (p := ⟨g, 7, none⟩) (Nat.le_refl g) _).cell (p := ⟨b, q, none⟩) hbw).trans y0', (((Below.refl g w6).setCell (p := ⟨g, 7, none⟩) (Nat.le_refl g) _).cell (p := ⟨b, q + 1, none⟩) hbw).trans y1', (((Below.refl g w6).setCell (p := ⟨g, 7, none⟩) (Nat.le_refl g) _).cell (p := ⟨b, q + 2, none⟩) hbw).trans y2'⟩) (fun hHeld => ?_)
          clear hK K'
          refine wpAnyH_done (by kernel_rfl) ?_ _
          have HG7 : Hid (CdRow (w6.setCell ⟨g, 7, none⟩ (.slice A6 (j + 1) c6)) g ⟨2, kd, ln, sz, [], 0, 0, [], 0⟩ none 0 0 A6 (j + 1) c6) := row_set HG6.out rfl
          have hb7 : Below g wr (w6.setCell ⟨g, 7, none⟩ (.slice A6 (j + 1) c6)) := Below.setCell (p := ⟨g, 7, none⟩) (Below.und (hb6.mono (Nat.le_succ g))) (Nat.le_refl g) _
          have HO7 : Hid ((w6.setCell ⟨g, 7, none⟩ (.slice A6 (j + 1) c6)).ownsRow (g + 1) 121 3 (.slice A6 (j + 1) c6) (j + 1) (spsCells (runsD bs (j + 1)))) := by
            show World.ownsRow _ _ _ _ _ _ _
            rw [HRS.out]; exact own_set ho6 g 7 _ (Nat.lt_succ_self g)
          have HK7 : Hid (∀ k, k < 15 → (w6.setCell ⟨g, 7, none⟩ (.slice A6 (j + 1) c6)).cell? ⟨b, o + k, none⟩ = some (.int .i64 ((fields2 bs).getD k 0))) := fun k hk => (hb7.cell (p := ⟨b, o + k, none⟩) hbw).trans (HK4.out k hk)
          have HR7 := Lib.hid (HR4.out.below hb7 hg2)
          have HB7 := Lib.hid (HB4.out.trans (hb7.mono (Nat.le_of_lt hg2)))
          clear y0' y1' y2' t7' tz' hb6 hb7 ho6 hHeld
          generalize (w6.setCell ⟨g, 7, none⟩ (.slice A6 (j + 1) c6)) = w7 at *
          go_wp2
          go_roundw
          case rel => exact ⟨j + 1, q + 3, n7 - 3, c7 - 3, A6, c6, by omega, rfl, by go_num, (by show _ = _; have := HQ.out; omega), by omega, by omega, HG7.out, HO7.out, HR7.out, HK7.out, HB7.out⟩
          case measure => simp [intOf]; omega
      · obtain rfl : j = m := by omega
        have yo : wr.cell? ⟨b, o + 14, none⟩ = some (.int .i64 (decF bs 27 2)) := HK4.out 14 (by omega)
        have HOV := Lib.hid (HF.out 27 2 (by omega))
        rw [HMC.out] at HC
        have HFI := Lib.hid (runsD_fit bs HF.out j)
        have HRL := Lib.hid (runsD_len bs j)
        generalize decF bs 27 2 = ov at *
        have t8 := HG4.out.cells.2.2.2.2.2.2.2.2
        have tz := HG4.out.fz 8
        go_upto_region 18 with fail
        have HG7 : Hid (CdRow (wr.setCell ⟨g, 8, none⟩ (.int .i64 ov)) g ⟨2, kd, ln, sz, [], 0, 0, runsD bs j, ov⟩ none 0 0 A' j k') := row_set HG4.out rfl
        have hb7 : Below g wr (wr.setCell ⟨g, 8, none⟩ (.int .i64 ov)) := Below.setCell (p := ⟨g, 8, none⟩) (Below.refl g wr) (Nat.le_refl g) _
        have HO7 : Hid ((wr.setCell ⟨g, 8, none⟩ (.int .i64 ov)).ownsRow (g + 1) 121 3 (.slice A' j k') j (spsCells (runsD bs j))) := own_set HO4.out g 8 _ (Nat.lt_succ_self g)
        have HR7 := Lib.hid (HR4.out.below hb7 hg2)
        have HB7 := Lib.hid (HB4.out.trans (hb7.mono (Nat.le_of_lt hg2)))
        clear hb7 t8 tz yo
        generalize wr.setCell ⟨g, 8, none⟩ (.int .i64 ov) = w7 at *
        obtain ⟨e0, e1, e2, e3, e4, e5, e6, e7, e8⟩ := HG7.out.cells
        obtain ⟨r0, r1, r2, r3, r4, r5, r6, r7, r8⟩ := HR7.out.cells
        have zr := HR7.out.fz
        generalize runsD bs j = rs at *
        go_wp2
        clear e0 e1 e2 e3 e4 e5 e6 e7 e8 r0 r1 r2 r3 r4 r5 r6 r7 r8 zr
        have HR8 : Hid (CdRow (put9 w7 w.heap.size ⟨2, kd, ln, sz, [], 0, 0, rs, ov⟩ none 0 0 A' j k') w.heap.size ⟨2, kd, ln, sz, [], 0, 0, rs, ov⟩ none 0 0 A' j k') := put9_row HR7.out
        have HO8 : Hid ((put9 w7 w.heap.size ⟨2, kd, ln, sz, [], 0, 0, rs, ov⟩ none 0 0 A' j k').ownsRow (g + 1) 121 3 (.slice A' j k') j (spsCells rs)) := put9_own HO7.out (by omega)
        have HB8 : Hid (Below w.heap.size w (put9 w7 w.heap.size ⟨2, kd, ln, sz, [], 0, 0, rs, ov⟩ none 0 0 A' j k')) := put9_below HB7.out (Nat.le_refl _)
        unfold put9 at HR8 HO8 HB8
        simp only at HR8 HO8 HB8
        generalize World.setCell _ ⟨w.heap.size, 8, none⟩ _ = w8 at *
        obtain ⟨r0, r1, r2, r3, r4, r5, r6, r7, r8⟩ := HR8.out.cells
        refine bodyPost_ret (v := cdv ⟨2, kd, ln, sz, [], 0, 0, rs, ov⟩ none 0 0 A' j k') (by simp [results, Tryz.results81, go_sem, r0, r1, r2, r3, r4, r5, r6, r7, r8]) rfl ?_
        rw [HC.out]
        exact ⟨_, rfl, ⟨none, 0, 0, A', j, k', Fresh.none _, own_fresh HO8.out (by omega), rfl, ⟨rfl, by simp, fun k hk => absurd hk (by omega)⟩, by
          have h := HO8.out
          have hl := HRL.out
          subst hl
          exact SpsAt.of_own h rfl HFI.out, by omega, by omega, (by show Fit 2; decide), HKD.out, HLN.out, HSZ.out, (by show Fit 0; decide), (by show Fit 0; decide), HOV.out⟩, HB8.out⟩
  · generalize decF bs 8 1 = cz at *
    clear hcz1
    go_wp2
    go_loopw [7, 58] (fun u7 u58 wr => RunSt w bs b o g m kd ln sz u7 u58 wr) (fun _ i _ => m - (intOf i).toNat)
    case atStart => exact HINI.out
    case round =>
      clear HINI
      obtain ⟨j, q, n7, c7, A', k', hj, rfl, rfl, HQ, hn7, hc7, hg4, ho4, hr4, HK4, hb4⟩ := hrel
      have HG4 := Lib.hid hg4
      have HO4 := Lib.hid ho4
      have HR4 := Lib.hid hr4
      have HB4 := Lib.hid hb4
      have hgl := HG4.out.lt
      clear hg4 ho4 hr4 hb4
      by_cases hlt : j < m
      · have y0 : wr.cell? ⟨b, q, none⟩ = some (.int .i64 (decF bs (9 + 6 * j) 2)) := by rw [HQ.out, show o + 5 + 3 * j = o + (5 + 3 * j) by omega]; exact fld_run0 HK4.out (by omega)
        have y1 : wr.cell? ⟨b, q + 1, none⟩ = some (.int .i64 (decF bs (11 + 6 * j) 2)) := by rw [HQ.out, show o + 5 + 3 * j + 1 = o + (6 + 3 * j) by omega]; exact fld_run1 HK4.out (by omega)
        have y2 : wr.cell? ⟨b, q + 2, none⟩ = some (.int .i64 (decF bs (13 + 6 * j) 2)) := by rw [HQ.out, show o + 5 + 3 * j + 2 = o + (7 + 3 * j) by omega]; exact fld_run2 HK4.out (by omega)
        have HRS : Hid (runsD bs (j + 1) = runsD bs j ++ [⟨decF bs (9 + 6 * j) 2, decF bs (11 + 6 * j) 2, decF bs (13 + 6 * j) 2⟩]) := runsD_succ bs j
        generalize decF bs (9 + 6 * j) 2 = x at *
        generalize decF bs (11 + 6 * j) 2 = y at *
        generalize decF bs (13 + 6 * j) 2 = z at *
        have t7 := HG4.out.cells.2.2.2.2.2.2.2.1
        have tz := HG4.out.fz 7
        have v0 : 0 < n7 := by omega
        have v1 : 1 < n7 := by omega
        have v2 : 2 < n7 := by omega
        have v3 : 3 ≤ n7 := by omega
        have v5 : (1 : Int) < (n7 : Int) := by omega
        have v6 : (2 : Int) < (n7 : Int) := by omega
        have v7 : (3 : Int) ≤ (n7 : Int) := by omega
        have v4 : ¬ c7 = 3 := by omega
        go_wp2
        have a0 : (wr.alloc (.cells #[.int .i64 x, .int .i64 y, .int .i64 z] 121)).cell? ⟨b, q, none⟩ = some (.int .i64 x) := (World.cell?_alloc_lt wr _ ⟨b, q, none⟩ (by show b < wr.heap.size; omega)).trans y0
        have a1 : (wr.alloc (.cells #[.int .i64 x, .int .i64 y, .int .i64 z] 121)).cell? ⟨b, q + 1, none⟩ = some (.int .i64 y) := (World.cell?_alloc_lt wr _ ⟨b, q + 1, none⟩ (by show b < wr.heap.size; omega)).trans y1
        have a2 : (wr.alloc (.cells #[.int .i64 x, .int .i64 y, .int .i64 z] 121)).cell? ⟨b, q + 2, none⟩ = some (.int .i64 z) := (World.cell?_alloc_lt wr _ ⟨b, q + 2, none⟩ (by show b < wr.heap.size; omega)).trans y2
        refine wp_region_held_drew (S := fun v => v.cell? ⟨b, q, none⟩ = some (.int .i64 x) ∧ v.cell? ⟨b, q + 1, none⟩ = some (.int .i64 y) ∧ v.cell? ⟨b, q + 2, none⟩ = some (.int .i64 z)) (by kernel_rfl) (⟨y0, y1, y2⟩) (fun hHeld => ?_)
        refine wpAnyH_take (i := 0) (oi := { dst := some 60, op := Op.fieldAddr 40 (Operand.tmp 6) 7, type := 0, pos := _, after := _, guard := none }) (v := ?vza0) rfl (by kernel_rfl) (by kernel_rfl) (by kernel_rfl) (fun _ _ _ h => h) (Or.inl ⟨by rfl, ?hyza0⟩) (by assumption) ?restza0
        case hyza0 => (intro w hSw; (try dsimp only at hSw); go_simp <;> with_reducible rfl)
        simp only [Act.put, List.setIfInBounds_toArray, List.set_cons_zero, List.set_cons_succ]
        refine wpAnyH_take (i := 2) (oi := { dst := some 62, op := Op.move (Operand.tmp 7), type := 37, pos := _, after := _, guard := none }) (v := ?vza2) rfl (by kernel_rfl) (by kernel_rfl) (by kernel_rfl) (fun _ _ _ h => h) (Or.inl ⟨by rfl, ?hyza2⟩) (by assumption) ?restza2
        case hyza2 => (intro w hSw; (try dsimp only at hSw); go_simp <;> with_reducible rfl)
        simp only [Act.put, List.setIfInBounds_toArray, List.set_cons_zero, List.set_cons_succ]
        refine wpAnyH_take (i := 3) (oi := { dst := some 63, op := Op.indexAddr 37 (Operand.tmp 62) (Operand.const (Value.int IntKind.i64 0)), type := 0, pos := _, after := _, guard := none }) (v := ?vza3) rfl (by kernel_rfl) (by kernel_rfl) (by kernel_rfl) (fun _ _ _ h => h) (Or.inl ⟨by rfl, ?hyza3⟩) (by assumption) ?restza3
        case hyza3 => (intro w hSw; (try dsimp only at hSw); go_simp <;> with_reducible rfl)
        simp only [Act.put, List.setIfInBounds_toArray, List.set_cons_zero, List.set_cons_succ]
        refine wpAnyH_take (i := 4) (oi := { dst := some 64, op := Op.load 3 (Operand.tmp 63), type := 3, pos := _, after := _, guard := none }) (v := ?vza4) rfl (by kernel_rfl) (by kernel_rfl) (by kernel_rfl) (fun _ _ _ h => h) (Or.inl ⟨by rfl, ?hyza4⟩) (by assumption) ?restza4
        case hyza4 => (intro w hSw; (try dsimp only at hSw); go_simp <;> with_reducible rfl)
        simp only [Act.put, List.setIfInBounds_toArray, List.set_cons_zero, List.set_cons_succ]
        refine wpAnyH_take (i := 5) (oi := { dst := some 65, op := Op.move (Operand.tmp 7), type := 37, pos := _, after := _, guard := none }) (v := ?vza5) rfl (by kernel_rfl) (by kernel_rfl) (by kernel_rfl) (fun _ _ _ h => h) (Or.inl ⟨by rfl, ?hyza5⟩) (by assumption) ?restza5
        case hyza5 => (intro w hSw; (try dsimp only at hSw); go_simp <;> with_reducible rfl)
        simp only [Act.put, List.setIfInBounds_toArray, List.set_cons_zero, List.set_cons_succ]
        refine wpAnyH_take (i := 6) (oi := { dst := some 66, op := Op.indexAddr 37 (Operand.tmp 65) (Operand.const (Value.int IntKind.i64 1)), type := 0, pos := _, after := _, guard := none }) (v := ?vza6) rfl (by kernel_rfl) (by kernel_rfl) (by kernel_rfl) (fun _ _ _ h => h) (Or.inl ⟨by rfl, ?hyza6⟩) (by assumption) ?restza6
        case hyza6 => (intro w hSw; (try dsimp only at hSw); go_simp <;> with_reducible rfl)
        simp only [Act.put, List.setIfInBounds_toArray, List.set_cons_zero, List.set_cons_succ]
        refine wpAnyH_take (i := 7) (oi := { dst := some 67, op := Op.load 3 (Operand.tmp 66), type := 3, pos := _, after := _, guard := none }) (v := ?vza7) rfl (by kernel_rfl) (by kernel_rfl) (by kernel_rfl) (fun _ _ _ h => h) (Or.inl ⟨by rfl, ?hyza7⟩) (by assumption) ?restza7
        case hyza7 => (intro w hSw; (try dsimp only at hSw); go_simp <;> with_reducible rfl)
        simp only [Act.put, List.setIfInBounds_toArray, List.set_cons_zero, List.set_cons_succ]
        refine wpAnyH_take (i := 8) (oi := { dst := some 68, op := Op.move (Operand.tmp 7), type := 37, pos := _, after := _, guard := none }) (v := ?vza8) rfl (by kernel_rfl) (by kernel_rfl) (by kernel_rfl) (fun _ _ _ h => h) (Or.inl ⟨by rfl, ?hyza8⟩) (by assumption) ?restza8
        case hyza8 => (intro w hSw; (try dsimp only at hSw); go_simp <;> with_reducible rfl)
        simp only [Act.put, List.setIfInBounds_toArray, List.set_cons_zero, List.set_cons_succ]
        refine wpAnyH_take (i := 9) (oi := { dst := some 69, op := Op.indexAddr 37 (Operand.tmp 68) (Operand.const (Value.int IntKind.i64 2)), type := 0, pos := _, after := _, guard := none }) (v := ?vza9) rfl (by kernel_rfl) (by kernel_rfl) (by kernel_rfl) (fun _ _ _ h => h) (Or.inl ⟨by rfl, ?hyza9⟩) (by assumption) ?restza9
        case hyza9 => (intro w hSw; (try dsimp only at hSw); go_simp <;> with_reducible rfl)
        simp only [Act.put, List.setIfInBounds_toArray, List.set_cons_zero, List.set_cons_succ]
        refine wpAnyH_take (i := 10) (oi := { dst := some 70, op := Op.load 3 (Operand.tmp 69), type := 3, pos := _, after := _, guard := none }) (v := ?vza10) rfl (by kernel_rfl) (by kernel_rfl) (by kernel_rfl) (fun _ _ _ h => h) (Or.inl ⟨by rfl, ?hyza10⟩) (by assumption) ?restza10
        case hyza10 => (intro w hSw; (try dsimp only at hSw); go_simp <;> with_reducible rfl)
        simp only [Act.put, List.setIfInBounds_toArray, List.set_cons_zero, List.set_cons_succ]
        refine wpAnyH_take (i := 11) (oi := { dst := some 71, op := Op.build 121 #[(0, Operand.tmp 64), (1, Operand.tmp 67), (2, Operand.tmp 70)], type := 121, pos := _, after := _, guard := none }) (v := ?vza11) rfl (by kernel_rfl) (by kernel_rfl) (by kernel_rfl) (fun _ _ _ h => h) (Or.inl ⟨by rfl, ?hyza11⟩) (by assumption) ?restza11
        case hyza11 => (intro w hSw; (try dsimp only at hSw); go_simp <;> with_reducible rfl)
        simp only [Act.put, List.setIfInBounds_toArray, List.set_cons_zero, List.set_cons_succ]
        refine wpAnyH_ready (rs := [1, 12]) (by kernel_rfl) (by simp) ?_
        refine AllReadyH.cons (o := { dst := some 61, op := Op.load 38 (Operand.tmp 60), type := 38, pos := _, after := _, guard := none }) rfl (fun K' hK => ?_) (AllReadyH.cons (o := { dst := some 72, op := Op.buildSlice 38 1 #[(0, Operand.tmp 71)], type := 38, pos := _, after := _, guard := none }) rfl (fun K' hK => ?_) AllReadyH.nil)
        · go_simp
          refine hK.out _ _ (⟨y0, y1, y2⟩) (fun hHeld => ?_)
          clear hK K'
          refine wpAnyH_ready (rs := [12]) (by kernel_rfl) (by simp) ?_
          refine AllReadyH.cons (o := { dst := some 72, op := Op.buildSlice 38 1 #[(0, Operand.tmp 71)], type := 38, pos := _, after := _, guard := none }) rfl (fun K' hK => ?_) AllReadyH.nil
          go_simp
          refine hK.out _ _ (⟨a0, a1, a2⟩) (fun hHeld => ?_)
          clear hK K'
          refine wpAnyH_ready (rs := [13]) (by kernel_rfl) (by simp) ?_
          refine AllReadyH.cons (o := { dst := some 73, op := Op.call { callee := Callee.builtin Builtin.append, args := #[Operand.tmp 61, Operand.tmp 72], argTypes := #[38, 38] }, type := 38, pos := _, after := _, guard := none }) rfl (fun K' hK => ?_) AllReadyH.nil
          refine step_push rfl (.tmp 61) (.tmp 72) rfl (g + 1) wr.drew (.slice A' j k') (runsD bs j) ⟨x, y, z⟩ rfl rfl (by rw [runsD_len]; exact HO4.out) (by rw [runsD_len]; omega) (by show g + 1 ≤ wr.heap.size; omega) ?_
          intro u9 w6 ho6 hb6
          simp only [List.length_append, runsD_len, List.length_cons, List.length_nil, Nat.zero_add] at ho6
          obtain ⟨A6, c6, rfl, -⟩ := own_sps ho6
          have HG6 := Lib.hid (CdRow.below (w' := w6) HG4.out.dr hb6 (by omega))
          have t7' := HG6.out.cells.2.2.2.2.2.2.2.1
          have tz' := HG6.out.fz 7
          have y0' := (hb6.cell (p := ⟨b, q, none⟩) (by show b < g + 1; omega)).trans y0
          have y1' := (hb6.cell (p := ⟨b, q + 1, none⟩) (by show b < g + 1; omega)).trans y1
          have y2' := (hb6.cell (p := ⟨b, q + 2, none⟩) (by show b < g + 1; omega)).trans y2
          refine hK.out _ _ (⟨y0', y1', y2'⟩) (fun hHeld => ?_)
          clear hK K'
          refine wpAnyH_take (i := 14) (oi := { dst := some 74, op := Op.fieldAddr 40 (Operand.tmp 6) 7, type := 0, pos := _, after := _, guard := none }) (v := ?vzq014) rfl (by kernel_rfl) (by kernel_rfl) (by kernel_rfl) (fun _ _ _ h => h) (Or.inl ⟨by rfl, ?hyzq014⟩) (by assumption) ?restzq014
          case hyzq014 => (intro w hSw; (try dsimp only at hSw); go_simp <;> with_reducible rfl)
          simp only [Act.put, List.setIfInBounds_toArray, List.set_cons_zero, List.set_cons_succ]
          refine wpAnyH_ready (rs := [15]) (by kernel_rfl) (by simp) ?_
          refine AllReadyH.cons (o := { dst := none, op := Op.store 38 (Operand.tmp 74) (Operand.tmp 73), type := 0, pos := _, after := _, guard := none }) rfl (fun K' hK => ?_) AllReadyH.nil
          go_simp
          refine hK.out _ _ (⟨(((Below.refl g w6).setCell (p := ⟨g, 7, none⟩) (Nat.le_refl g) _).cell (p := ⟨b, q, none⟩) hbw).trans y0', (((Below.refl g w6).setCell (p := ⟨g, 7, none⟩) (Nat.le_refl g) _).cell (p := ⟨b, q + 1, none⟩) hbw).trans y1', (((Below.refl g w6).setCell (p := ⟨g, 7, none⟩) (Nat.le_refl g) _).cell (p := ⟨b, q + 2, none⟩) hbw).trans y2'⟩) (fun hHeld => ?_)
          clear hK K'
          refine wpAnyH_done (by kernel_rfl) ?_ _
          have HG7 : Hid (CdRow (w6.setCell ⟨g, 7, none⟩ (.slice A6 (j + 1) c6)) g ⟨2, kd, ln, sz, [], 0, 0, [], 0⟩ none 0 0 A6 (j + 1) c6) := row_set HG6.out rfl
          have hb7 : Below g wr (w6.setCell ⟨g, 7, none⟩ (.slice A6 (j + 1) c6)) := Below.setCell (p := ⟨g, 7, none⟩) (Below.und (hb6.mono (Nat.le_succ g))) (Nat.le_refl g) _
          have HO7 : Hid ((w6.setCell ⟨g, 7, none⟩ (.slice A6 (j + 1) c6)).ownsRow (g + 1) 121 3 (.slice A6 (j + 1) c6) (j + 1) (spsCells (runsD bs (j + 1)))) := by
            show World.ownsRow _ _ _ _ _ _ _
            rw [HRS.out]; exact own_set ho6 g 7 _ (Nat.lt_succ_self g)
          have HK7 : Hid (∀ k, k < 15 → (w6.setCell ⟨g, 7, none⟩ (.slice A6 (j + 1) c6)).cell? ⟨b, o + k, none⟩ = some (.int .i64 ((fields2 bs).getD k 0))) := fun k hk => (hb7.cell (p := ⟨b, o + k, none⟩) hbw).trans (HK4.out k hk)
          have HR7 := Lib.hid (HR4.out.below hb7 hg2)
          have HB7 := Lib.hid (HB4.out.trans (hb7.mono (Nat.le_of_lt hg2)))
          clear y0' y1' y2' t7' tz' hb6 hb7 ho6 hHeld
          generalize (w6.setCell ⟨g, 7, none⟩ (.slice A6 (j + 1) c6)) = w7 at *
          go_wp2
          go_roundw
          case rel => exact ⟨j + 1, q + 3, n7 - 3, c7 - 3, A6, c6, by omega, rfl, by go_num, (by show _ = _; have := HQ.out; omega), by omega, by omega, HG7.out, HO7.out, HR7.out, HK7.out, HB7.out⟩
          case measure => simp [intOf]; omega
        · go_simp
          refine hK.out _ _ (⟨a0, a1, a2⟩) (fun hHeld => ?_)
          clear hK K'
          refine wpAnyH_ready (rs := [1]) (by kernel_rfl) (by simp) ?_
          refine AllReadyH.cons (o := { dst := some 61, op := Op.load 38 (Operand.tmp 60), type := 38, pos := _, after := _, guard := none }) rfl (fun K' hK => ?_) AllReadyH.nil
          go_simp
          refine hK.out _ _ (⟨a0, a1, a2⟩) (fun hHeld => ?_)
          clear hK K'
          refine wpAnyH_ready (rs := [13]) (by kernel_rfl) (by simp) ?_
          refine AllReadyH.cons (o := { dst := some 73, op := Op.call { callee := Callee.builtin Builtin.append, args := #[Operand.tmp 61, Operand.tmp 72], argTypes := #[38, 38] }, type := 38, pos := _, after := _, guard := none }) rfl (fun K' hK => ?_) AllReadyH.nil
          refine step_push rfl (.tmp 61) (.tmp 72) rfl (g + 1) wr.drew (.slice A' j k') (runsD bs j) ⟨x, y, z⟩ rfl rfl (by rw [runsD_len]; exact HO4.out) (by rw [runsD_len]; omega) (by show g + 1 ≤ wr.heap.size; omega) ?_
          intro u9 w6 ho6 hb6
          simp only [List.length_append, runsD_len, List.length_cons, List.length_nil, Nat.zero_add] at ho6
          obtain ⟨A6, c6, rfl, -⟩ := own_sps ho6
          have HG6 := Lib.hid (CdRow.below (w' := w6) HG4.out.dr hb6 (by omega))
          have t7' := HG6.out.cells.2.2.2.2.2.2.2.1
          have tz' := HG6.out.fz 7
          have y0' := (hb6.cell (p := ⟨b, q, none⟩) (by show b < g + 1; omega)).trans y0
          have y1' := (hb6.cell (p := ⟨b, q + 1, none⟩) (by show b < g + 1; omega)).trans y1
          have y2' := (hb6.cell (p := ⟨b, q + 2, none⟩) (by show b < g + 1; omega)).trans y2
          refine hK.out _ _ (⟨y0', y1', y2'⟩) (fun hHeld => ?_)
          clear hK K'
          refine wpAnyH_take (i := 14) (oi := { dst := some 74, op := Op.fieldAddr 40 (Operand.tmp 6) 7, type := 0, pos := _, after := _, guard := none }) (v := ?vzq114) rfl (by kernel_rfl) (by kernel_rfl) (by kernel_rfl) (fun _ _ _ h => h) (Or.inl ⟨by rfl, ?hyzq114⟩) (by assumption) ?restzq114
          case hyzq114 => (intro w hSw; (try dsimp only at hSw); go_simp <;> with_reducible rfl)
          simp only [Act.put, List.setIfInBounds_toArray, List.set_cons_zero, List.set_cons_succ]
          refine wpAnyH_ready (rs := [15]) (by kernel_rfl) (by simp) ?_
          refine AllReadyH.cons (o := { dst := none, op := Op.store 38 (Operand.tmp 74) (Operand.tmp 73), type := 0, pos := _, after := _, guard := none }) rfl (fun K' hK => ?_) AllReadyH.nil
          go_simp
          refine hK.out _ _ (⟨(((Below.refl g w6).setCell (p := ⟨g, 7, none⟩) (Nat.le_refl g) _).cell (p := ⟨b, q, none⟩) hbw).trans y0', (((Below.refl g w6).setCell (p := ⟨g, 7, none⟩) (Nat.le_refl g) _).cell (p := ⟨b, q + 1, none⟩) hbw).trans y1', (((Below.refl g w6).setCell (p := ⟨g, 7, none⟩) (Nat.le_refl g) _).cell (p := ⟨b, q + 2, none⟩) hbw).trans y2'⟩) (fun hHeld => ?_)
          clear hK K'
          refine wpAnyH_done (by kernel_rfl) ?_ _
          have HG7 : Hid (CdRow (w6.setCell ⟨g, 7, none⟩ (.slice A6 (j + 1) c6)) g ⟨2, kd, ln, sz, [], 0, 0, [], 0⟩ none 0 0 A6 (j + 1) c6) := row_set HG6.out rfl
          have hb7 : Below g wr (w6.setCell ⟨g, 7, none⟩ (.slice A6 (j + 1) c6)) := Below.setCell (p := ⟨g, 7, none⟩) (Below.und (hb6.mono (Nat.le_succ g))) (Nat.le_refl g) _
          have HO7 : Hid ((w6.setCell ⟨g, 7, none⟩ (.slice A6 (j + 1) c6)).ownsRow (g + 1) 121 3 (.slice A6 (j + 1) c6) (j + 1) (spsCells (runsD bs (j + 1)))) := by
            show World.ownsRow _ _ _ _ _ _ _
            rw [HRS.out]; exact own_set ho6 g 7 _ (Nat.lt_succ_self g)
          have HK7 : Hid (∀ k, k < 15 → (w6.setCell ⟨g, 7, none⟩ (.slice A6 (j + 1) c6)).cell? ⟨b, o + k, none⟩ = some (.int .i64 ((fields2 bs).getD k 0))) := fun k hk => (hb7.cell (p := ⟨b, o + k, none⟩) hbw).trans (HK4.out k hk)
          have HR7 := Lib.hid (HR4.out.below hb7 hg2)
          have HB7 := Lib.hid (HB4.out.trans (hb7.mono (Nat.le_of_lt hg2)))
          clear y0' y1' y2' t7' tz' hb6 hb7 ho6 hHeld
          generalize (w6.setCell ⟨g, 7, none⟩ (.slice A6 (j + 1) c6)) = w7 at *
          go_wp2
          go_roundw
          case rel => exact ⟨j + 1, q + 3, n7 - 3, c7 - 3, A6, c6, by omega, rfl, by go_num, (by show _ = _; have := HQ.out; omega), by omega, by omega, HG7.out, HO7.out, HR7.out, HK7.out, HB7.out⟩
          case measure => simp [intOf]; omega
      · obtain rfl : j = m := by omega
        have yo : wr.cell? ⟨b, o + 14, none⟩ = some (.int .i64 (decF bs 27 2)) := HK4.out 14 (by omega)
        have HOV := Lib.hid (HF.out 27 2 (by omega))
        rw [HMC.out] at HC
        have HFI := Lib.hid (runsD_fit bs HF.out j)
        have HRL := Lib.hid (runsD_len bs j)
        generalize decF bs 27 2 = ov at *
        have t8 := HG4.out.cells.2.2.2.2.2.2.2.2
        have tz := HG4.out.fz 8
        go_upto_region 18 with fail
        have HG7 : Hid (CdRow (wr.setCell ⟨g, 8, none⟩ (.int .i64 ov)) g ⟨2, kd, ln, sz, [], 0, 0, runsD bs j, ov⟩ none 0 0 A' j k') := row_set HG4.out rfl
        have hb7 : Below g wr (wr.setCell ⟨g, 8, none⟩ (.int .i64 ov)) := Below.setCell (p := ⟨g, 8, none⟩) (Below.refl g wr) (Nat.le_refl g) _
        have HO7 : Hid ((wr.setCell ⟨g, 8, none⟩ (.int .i64 ov)).ownsRow (g + 1) 121 3 (.slice A' j k') j (spsCells (runsD bs j))) := own_set HO4.out g 8 _ (Nat.lt_succ_self g)
        have HR7 := Lib.hid (HR4.out.below hb7 hg2)
        have HB7 := Lib.hid (HB4.out.trans (hb7.mono (Nat.le_of_lt hg2)))
        clear hb7 t8 tz yo
        generalize wr.setCell ⟨g, 8, none⟩ (.int .i64 ov) = w7 at *
        obtain ⟨e0, e1, e2, e3, e4, e5, e6, e7, e8⟩ := HG7.out.cells
        obtain ⟨r0, r1, r2, r3, r4, r5, r6, r7, r8⟩ := HR7.out.cells
        have zr := HR7.out.fz
        generalize runsD bs j = rs at *
        go_wp2
        clear e0 e1 e2 e3 e4 e5 e6 e7 e8 r0 r1 r2 r3 r4 r5 r6 r7 r8 zr
        have HR8 : Hid (CdRow (put9 w7 w.heap.size ⟨2, kd, ln, sz, [], 0, 0, rs, ov⟩ none 0 0 A' j k') w.heap.size ⟨2, kd, ln, sz, [], 0, 0, rs, ov⟩ none 0 0 A' j k') := put9_row HR7.out
        have HO8 : Hid ((put9 w7 w.heap.size ⟨2, kd, ln, sz, [], 0, 0, rs, ov⟩ none 0 0 A' j k').ownsRow (g + 1) 121 3 (.slice A' j k') j (spsCells rs)) := put9_own HO7.out (by omega)
        have HB8 : Hid (Below w.heap.size w (put9 w7 w.heap.size ⟨2, kd, ln, sz, [], 0, 0, rs, ov⟩ none 0 0 A' j k')) := put9_below HB7.out (Nat.le_refl _)
        unfold put9 at HR8 HO8 HB8
        simp only at HR8 HO8 HB8
        generalize World.setCell _ ⟨w.heap.size, 8, none⟩ _ = w8 at *
        obtain ⟨r0, r1, r2, r3, r4, r5, r6, r7, r8⟩ := HR8.out.cells
        refine bodyPost_ret (v := cdv ⟨2, kd, ln, sz, [], 0, 0, rs, ov⟩ none 0 0 A' j k') (by simp [results, Tryz.results81, go_sem, r0, r1, r2, r3, r4, r5, r6, r7, r8]) rfl ?_
        rw [HC.out]
        exact ⟨_, rfl, ⟨none, 0, 0, A', j, k', Fresh.none _, own_fresh HO8.out (by omega), rfl, ⟨rfl, by simp, fun k hk => absurd hk (by omega)⟩, by
          have h := HO8.out
          have hl := HRL.out
          subst hl
          exact SpsAt.of_own h rfl HFI.out, by omega, by omega, (by show Fit 2; decide), HKD.out, HLN.out, HSZ.out, (by show Fit 0; decide), (by show Fit 0; decide), HOV.out⟩, HB8.out⟩
end Go.Proofs.YtapjbffhihhnbaaGreat
