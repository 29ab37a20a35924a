/-
  WALKS: Save where there is room; Drop. Condition: a deal on a calm slab, a file's card.
-/
import Derived.Test.YtppbonjhckakiaaGreatHI
set_option linter.unusedVariables false
set_option linter.unusedSimpArgs false
set_option maxRecDepth 100000
set_option maxHeartbeats 8000000
namespace Go.Proofs.YtppbonjhckakiaaGreat.Dl
open Go.RowKit
open Mk
open Sl (Turns)
open Kr (crv rightK kf kb kc KBox cells3 I64 inB)
open La (OwnLst nilS NewLst DblSt)
section
variable {w0 w w' : World} {B d q p pd pm k c : Nat} {E F : Bxs} {N : Nat} {D V : List ByteArray} {b : Nat} {m : ByteArray}
/-- a box of F is written. -/
theorem Dk.setH {j : Nat} {cs : Array Value} {ty : TypeId} (h : Dk w0 w B d q p pd pm k c ((j, cs, ty) :: F) N D V) (hj : B ≤ j) (hne : ∀ x ∈ F, x.1 ≠ j) (i : Nat) (u : Value) : Dk w0 (w.setCell ⟨j, i, none⟩ u) B d q p pd pm k c ((j, cs.setIfInBounds i u, ty) :: F) N D V := by
  have hb := h.box
  have ht := (h.fx _ (List.mem_cons_self ..)).2
  have h1 := h.drop.turns (Turns.setCell w (L := [j]) (p := ⟨j, i, none⟩) (by simp) u) (fun j' hj' => by
    rw [List.mem_singleton] at hj'
    subst hj'
    exact ⟨hj, ⟨cs, ty, hb, ht⟩, hne⟩)
  exact h1.add (Sl.heap_setCell_same w j i u hb) ht
theorem put9_turns (W : World) (r : Nat) (c : Cd) (A : Option Addr) (n k : Nat) (A' : Option Addr) (n' k' : Nat) : Turns [r] W (put9 W r c A n k A' n' k') := by
  unfold put9
  have s : ∀ (W : World) (j : Nat) (u : Value), Turns [r] W (W.setCell ⟨r, j, none⟩ u) := fun W j u => Turns.setCell W (by simp) u
  exact ((((((((s _ _ _).trans (s _ _ _)).trans (s _ _ _)).trans (s _ _ _)).trans (s _ _ _)).trans (s _ _ _)).trans (s _ _ _)).trans (s _ _ _)).trans (s _ _ _)
/-- a slice of ints in a box of F. -/
theorem ints_box {W W' : World} {g Bl n : Nat} {cur : Array Value} {L : List Int} (h : IntsAt W Bl (some ⟨g, 0, none⟩) n L) (h1 : W.heap[g]? = some (.cells cur 3 (0, 0))) (h2 : W'.heap[g]? = some (.cells cur 3 (0, 0))) : IntsAt W' W'.heap.size (some ⟨g, 0, none⟩) n L := by
  refine ⟨h.1, h.2.1, fun t ht => ?_⟩
  obtain ⟨bb, o, e, _, hc⟩ := h.2.2 t ht
  injection e with e
  injection e with e1 e2
  subst e1
  subst e2
  refine ⟨g, 0, rfl, (Array.getElem?_eq_some_iff.1 h2).1, ?_⟩
  rw [← hc, cell_of_row W' g _ _ 3 _ h2, cell_of_row W g _ _ 3 _ h1]
end
/-- what is stored fits. -/
theorem store_fit {b : Nat} {V : List ByteArray} {m : ByteArray} (hc : Crd V b m) {zs : List Int} (hp : ptsOk b zs = true) (hf : La.blocksN ((La.optP zs 1).getD []).length (La.dblOf zs).length (La.dblOf zs) ≤ fcn m b) (h0 : (La.dblOf zs).length ≠ 0) :
    ∀ t, t ≤ 8 → ∀ z ∈ (stT (rnV (stL V ((La.optP zs 1).getD [])).1 1) (La.dblOf zs) t).2, La.Fit z := by
  intro t ht z hz
  unfold La.blocksN at hf
  obtain ⟨m1, top1, T1, t1, a1, a2, a3, a4⟩ := Tkn.single hc (optP_ok hp 1 (by omega) (by omega)) (by omega)
  obtain ⟨h8, _⟩ := anyB_some h0
  rw [if_pos (show 0 < (La.dblOf zs).length by omega)] at hf
  have hc1 := t1.cnt
  obtain ⟨n, n1, n2, n3, n4, n5, n6, n7⟩ := t1.take (by omega)
  have hc2 := n6.cnt
  rw [List.length_append, List.length_singleton] at hc2
  have hmono : ∀ i j, i ≤ j → La.cntTo (La.dblOf zs) i ≤ La.cntTo (La.dblOf zs) j := by
    intro i j hij
    induction hij with
    | refl => exact Nat.le_refl _
    | step _ ih => exact Nat.le_trans ih (by rw [La.cntTo]; omega)
  have hm8 := hmono t (La.dblOf zs).length (by omega)
  obtain ⟨m2, top2, T2, t2, c1, c2, c3, c4, c5, c6⟩ := n6.stores (ls := La.dblOf zs) (dbl_ok hp) t (by omega) (by omega)
  have hb2 := hc.b2
  unfold La.Fit
  rcases c6 z hz with e | e
  · omega
  · have := t2.lt z (List.mem_append_right _ e); omega
section
variable {w0 w : World} {B d q p pd pm k c : Nat} {F : Bxs} {N : Nat} {D V : List ByteArray} {b : Nat} {m : ByteArray}
theorem save_ok (h : Dk w0 w B d q p pd pm k c F N D V) (hc : Crd V b m) {Bc : Nat} {x : Cd} {A : Option Addr} {kp : Nat} {zs L : List Int} (hf : OneAt w Bc V b m x A kp zs L) (A2 : Option Addr) (n cp B2 : Nat) (ms : List Int) (hm : IntsAt w B2 A2 n ms) (hB2 : B2 ≤ w.heap.size) (hn : n ≤ 1000) (hcp : n ≤ cp) (hE : La.fitsE ms = 0) (hp : ptsOk b ms = true) (hr : need ms ≤ fcn m b + L.length) :
    Calls Tryz.prog 13 #[.pointer (some ⟨d, 0, none⟩), cdv x A 4 kp none 0 0, .slice A2 n cp] w fun e w' => ∃ b1, e = .returned (.tuple #[cdv { x with ps := La.pieceOf ms 0, sg := (svP V L ms).2, db := (svQ V L ms).2 } (some ⟨b1, 0, none⟩) 4 4 none 0 0, .int .i64 0]) ∧ Dk w0 w' B d q p pd pm k c ((b1, (La.ints (La.pieceOf ms 0)).toArray, 3) :: F) N D (svQ V L ms).1 := by
  have HB1 : Below w.heap.size w (w.alloc (.cells (cells9 x A 4 kp none 0 0) 30)) := (Below.refl _ _).alloc (Nat.le_refl _) _
  have HB2 := Lib.hid (HB1.alloc HB1.size (.cells (cells9 zeroC none 0 0 none 0 0) 30))
  have HC2 : Hid (CdRow ((w.alloc (.cells (cells9 x A 4 kp none 0 0) 30)).alloc (.cells (cells9 zeroC none 0 0 none 0 0) 30)) w.heap.size x A 4 kp none 0 0) := (CdRow.new w x A 4 kp none 0 0).below ((Below.refl (w.alloc (.cells (cells9 x A 4 kp none 0 0) 30)).heap.size _).alloc (Nat.le_refl _) _) (by simp)
  have HR2 : Hid (CdRow ((w.alloc (.cells (cells9 x A 4 kp none 0 0) 30)).alloc (.cells (cells9 zeroC none 0 0 none 0 0) 30)) (w.heap.size + 1) zeroC none 0 0 none 0 0) := by
    have h1 := CdRow.new (w.alloc (.cells (cells9 x A 4 kp none 0 0) 30)) zeroC none 0 0 none 0 0
    rwa [show (w.alloc (.cells (cells9 x A 4 kp none 0 0) 30)).heap.size = w.heap.size + 1 by simp] at h1
  have HLS := Lib.hid (fun W (hW : Below w.heap.size w W) => lists_of (h.below hW) hc (hf.below hW))
  have HOF := Lib.hid (fun W (hW : Below w.heap.size w W) => La.of_ok A2 n cp B2 ms W (hm.below hW hB2) (Nat.le_trans hB2 hW.size) hn hcp hE)
  unfold La.RetOf at HOF
  have hk : rightK (crF V) (b : Int) (crC V) = true := by have := (cr_b hc.ok).1; rwa [hc.cb] at this
  have HCR := Lib.hid (fun W (hW : Below w.heap.size w W) => crown_dk (h.below hW) hc)
  have HAB := Lib.hid (fun W (hW : Below w.heap.size w W) => areblocks_any (crF V) b (crC V) A2 n cp B2 ms W hk (hm.below hW hB2) (Nat.le_trans hB2 hW.size) hn)
  rw [hp] at HAB
  have HLA := Lib.hid hf.fl.asc
  have HLL : Hid (L.length ≤ 10) := by have h1 := hf.fl.ln; have h2 := need_le zs; unfold need at h2; show _ ≤ _; omega
  have HCN := Lib.hid (fun W (hW : Below w.heap.size w W) A n cp Bl hA hBl hn => canrep_any (h.below hW) hc A n cp Bl L (need ms) hA hBl hn (by have := need_le ms; omega) hf.fl.us)
  have HNE : Hid (need ms = (if 0 < ((La.optP ms 1).getD []).length then 1 else 0) + (if 0 < (La.dblOf ms).length then 1 else 0) + La.cntTo (La.dblOf ms) (La.dblOf ms).length) := rfl
  have HFO : Hid (∀ k l, La.optP ms k = some l → ∀ z ∈ l, La.Fit z) := fun k l e => La.optP_fit ms hm.2.1 k l e
  have HD8 : Hid ((La.dblOf ms).length ≤ 1000) := by have h1 := La.dblL_len (fun j => La.optP ms (j + 2)); show _ ≤ _; rw [h1]; split <;> omega
  have HRM : Hid ((if fcn m b + L.length < need ms then (10 : Int) else 0) = 0) := if_neg (by omega)
  have HDK := Lib.hid (fun W (hW : Below w.heap.size w W) => h.below hW)
  have HFX : Hid (∀ y ∈ F, y.1 < w.heap.size) := fun y hy => h.fx.lt hy
  have HBB : Hid (B ≤ w.heap.size) := h.hBs
  have HUS : Hid (∀ y ∈ L, 51 ≤ y ∧ y < 400) := fun y hy => by have := hf.fl.us y hy; have := hc.b2; omega
  have HSF : Hid ((La.dblOf ms).length ≠ 0 → ∀ t, t ≤ 8 → ∀ z ∈ (stT (rnV (svP V L ms).1 1) (La.dblOf ms) t).2, La.Fit z) := by
    obtain ⟨m1, dd⟩ := dp_all hc hf.fl.asc hf.fl.us L.length (Nat.le_refl _)
    have hd := dd.cnt
    rw [List.take_length] at hd
    exact fun h0 => store_fit dd.cr hp (by unfold need at hr; omega) h0
  have HFO2 : Hid (∀ k l, La.optP ms k = some l → (∀ z ∈ l, La.Fit z) ∧ l.length ≤ 1000) := fun k l e => ⟨HFO.out k l e, by
    have : l.length = (La.pieceOf ms k).length := by unfold La.optP at e; split at e; cases e; cases e; rfl
    rw [this]; unfold La.pieceOf; rw [List.length_take]; unfold La.lenP; split <;> omega⟩
  clear h hc hf hm hE hp hB2 hn hcp hk hr HB1
  unfold cells9 zeroC at HB2 HC2 HR2
  simp only at HB2 HC2 HR2
  unfold crv at HCR HAB
  generalize crF V = f at *
  generalize crC V = u at *
  go_enter Tryz.func13, Tryz.ntmps13
  go_upto_region 1 with fail
  generalize hW2 : (w.alloc _).alloc _ = W2 at *
  clear hW2
  obtain ⟨e0, e1, e2, e3, e4, e5, e6, e7, e8⟩ := HC2.out.cells
  go_wp2_with (first
    | (go_at_call 17; refine (HLS.out W2 HB2.out).mono ?_; rintro e w3 ⟨gd, c2, rfl, ⟨hgd, cur, hcur⟩, hL3, b3⟩
       have HB3 := Lib.hid (HB2.out.trans (b3.mono HB2.out.size))
       have HR3 := Lib.hid (HR2.out.below b3 HR2.out.lt)
       have HC3 := Lib.hid (HC2.out.below b3 HC2.out.lt)
       have HL3 := Lib.hid hL3
       have HU3 := Lib.hid hcur
       have HS3 : Hid (w.heap.size + 2 ≤ w3.heap.size ∧ w.heap.size + 2 ≤ gd) := by have := HR2.out.lt; have := b3.size; exact ⟨by omega, by omega⟩
       clear b3 hL3 hcur hgd e0 e1 e2 e3 e4 e5 e6 e7 e8)
    | (go_at_call 33; refine (HOF.out w3 HB3.out).mono ?_; rintro e w4 ⟨v1, v2, v3, rfl, n1, n2, n3, b4⟩
       have HB4' := HB3.out.trans (b4.mono HB3.out.size)
       obtain ⟨X1, y1, rfl⟩ := newlst_form n1
       obtain ⟨X2, y2, rfl⟩ := newlst_form n2
       have HLT4 := Lib.hid (n3.lists (fun j l _ => HFO.out (j + 2) l))
       obtain ⟨X3, y3, rfl, _⟩ := HLT4.out
       have HN1 := Lib.hid n1
       have HN2 := Lib.hid n2
       have HN3 := Lib.hid n3
       have e4 : (((some (La.pieceOf ms 0) : Option (List Int))).getD []).length = 4 := La.pieceOf_len ms 0 (by omega)
       rw [e4] at HN1 ⊢
       have hal := (Below.refl w4.heap.size w4).alloc (Nat.le_refl _) (.cells #[.slice X1 4 y1, .slice X2 ((La.optP ms 1).getD []).length y2, .slice X3 (La.dblOf ms).length y3] 74)
       have HB4 := Lib.hid (HB4'.trans (hal.mono HB4'.size))
       have HR4 := Lib.hid ((HR3.out.below b4 HR3.out.lt).below hal (HR3.out.below b4 HR3.out.lt).lt)
       have HC4 := Lib.hid ((HC3.out.below b4 HC3.out.lt).below hal (HC3.out.below b4 HC3.out.lt).lt)
       have HL4 := Lib.hid (((HL3.out.below b4 (Nat.le_refl _)).below hal b4.size))
       have HU4 : Hid ((w4.alloc (.cells #[.slice X1 4 y1, .slice X2 ((La.optP ms 1).getD []).length y2, .slice X3 (La.dblOf ms).length y3] 74)).heap[gd]? = some (.cells cur 3 (0, 0))) := by
         have hlt := (Array.getElem?_eq_some_iff.1 HU3.out).1
         have hz4 := b4.size
         exact (hal.block gd (by omega)).trans ((b4.block gd hlt).trans HU3.out)
       have HG4 : Hid (Rg3 (w4.alloc (.cells #[.slice X1 4 y1, .slice X2 ((La.optP ms 1).getD []).length y2, .slice X3 (La.dblOf ms).length y3] 74)) w4.heap.size (.slice X1 4 y1) (.slice X2 ((La.optP ms 1).getD []).length y2) (.slice X3 (La.dblOf ms).length y3)) := Rg3.new w4 _ _ _
       have HZ4 : Hid (w3.heap.size ≤ w4.heap.size) := b4.size
       have HAL4 := Lib.hid hal
       clear b4 HB4' n1 n2 n3 hal e4)
    | (go_at_call 34; refine (HCR.out _ HB4.out).mono ?_; rintro e w5 ⟨rfl, b5⟩
       have hal := (Below.refl w5.heap.size w5).alloc (Nat.le_refl _) (.cells #[.int .i64 f, .int .i64 b, .int .i64 u] 62)
       have HX5 := Lib.hid (b5.trans (hal.mono b5.size))
       have HB5 := Lib.hid (HB4.out.trans (HX5.out.mono HB4.out.size))
       obtain ⟨y0, y1', y2'⟩ := (KBox.new3 w5 f b u).row
       clear b5 hal)
    | (go_at_call 35; refine (HAB.out _ HB5.out).mono ?_; rintro e w6 ⟨rfl, b6⟩
       have HX6 := Lib.hid (HX5.out.trans (b6.mono HX5.out.size))
       clear b6 y0 y1' y2'
       have hL6 := HL4.out.below HX6.out (Nat.le_trans HZ4.out HAL4.out.size)
       have hsz := Nat.le_trans (Nat.le_trans HZ4.out HAL4.out.size) HX6.out.size
       have HSO := Lib.hid (sort_any (some ⟨gd, 0, none⟩) L.length c2 w3.heap.size L w6 hL6 hsz HLA.out (by have := HLL.out; omega))
       clear hL6 hsz)
    | (go_at_call 36; refine HSO.out.mono ?_; rintro e w7 ⟨rfl, b7⟩
       have HX7 := Lib.hid (HX6.out.trans (b7.mono HX6.out.size))
       clear b7
       have hL7 := HL4.out.below HX7.out (Nat.le_trans HZ4.out HAL4.out.size)
       have hsz := Nat.le_trans (Nat.le_trans HZ4.out HAL4.out.size) HX7.out.size
       have HCO := Lib.hid (compact_any (some ⟨gd, 0, none⟩) L.length c2 w3.heap.size L w7 hL7 hsz HLA.out (by have := HLL.out; omega))
       clear hL7 hsz)
    | (go_at_call 37; refine HCO.out.mono ?_; rintro e w8 ⟨rfl, b8⟩
       have HX8 := Lib.hid (HX7.out.trans (b8.mono HX7.out.size))
       clear b8
       obtain ⟨q0, q1, q2⟩ := (HG4.out.below HX8.out HG4.out.lt).cells
       have HBN : Hid (Calls Tryz.prog 39 #[.agg #[.slice X1 4 y1, .slice X2 ((La.optP ms 1).getD []).length y2, .slice X3 (La.dblOf ms).length y3]] w8 fun e w' => e = .returned (.int .i64 ((need ms : Nat) : Int)) ∧ Below w8.heap.size w8 w') := by
         obtain ⟨X, y, e, _, hl, _⟩ := HLT4.out
         injection e with e1 e2 e3
         subst e1
         rw [HNE.out]
         exact La.blocks_base _ X1 X2 X3 4 _ _ y1 y2 y3 w4.heap.size (La.dblOf ms) w8 ((hl.below HAL4.out (Nat.le_refl _)).below HX8.out HAL4.out.size) (Nat.le_trans HAL4.out.size HX8.out.size) HD8.out rfl)
    | (go_at_call 39; refine HBN.out.mono ?_; rintro e w9 ⟨rfl, b9⟩
       have HX9 := Lib.hid (HX8.out.trans (b9.mono HX8.out.size))
       clear b9 q0 q1 q2
       have HB9 := Lib.hid (HB4.out.trans (HX9.out.mono HB4.out.size))
       have hL9 := HL4.out.below HX9.out (Nat.le_trans HZ4.out HAL4.out.size)
       have hsz := Nat.le_trans (Nat.le_trans HZ4.out HAL4.out.size) HX9.out.size
       have HCR9 := Lib.hid (HCN.out w9 HB9.out (some ⟨gd, 0, none⟩) L.length c2 w3.heap.size hL9 hsz (by have := HLL.out; omega))
       simp only [HRM.out] at HCR9
       clear hL9 hsz)
    | (go_at_call 38; refine HCR9.out.mono ?_; rintro e w10 ⟨rfl, b10⟩
       have HX10 := Lib.hid (HX9.out.trans (b10.mono HX9.out.size))
       have HB10 := Lib.hid (HB9.out.trans (b10.mono HB9.out.size))
       have HR10 := Lib.hid (HR4.out.below HX10.out HR4.out.lt)
       clear b10
       clear HLS HOF HCR HAB HCN HSO HCO HBN HCR9 HX5 HX6 HX7 HX8 HX9 HB5 HB9 HR4 HB3 HR3 HC3 HC2 HR2 HB2))
  obtain ⟨b1, hb1, e1, hrow1⟩ := HN1.out
  have hl4 : (La.pieceOf ms 0).length = 4 := La.pieceOf_len ms 0 (by omega)
  rw [hl4] at e1
  injection e1 with e1 _ e3
  subst e1
  subst e3
  have HSX := Lib.hid (⟨HS3.out.1, HS3.out.2, HZ4.out, HR10.out.lt⟩ : w.heap.size + 2 ≤ w3.heap.size ∧ w.heap.size + 2 ≤ gd ∧ w3.heap.size ≤ w4.heap.size ∧ w.heap.size + 1 < w10.heap.size)
  obtain ⟨R, hRf, hRn, hR1, hR2, hR3, hR4, hR5, hR6, hR7⟩ : ∃ R : Bxs, Bxs.fit R w10 ∧ (∀ y ∈ R, y.1 ≠ w.heap.size) ∧ (w.heap.size + 1, cells9 zeroC none 0 0 none 0 0, 30) ∈ R ∧ (w4.heap.size, #[.slice (some ⟨b1, 0, none⟩) 4 4, .slice X2 ((La.optP ms 1).getD []).length y2, .slice X3 (La.dblOf ms).length y3], 74) ∈ R ∧ (gd, cur, 3) ∈ R ∧ (b1, (La.ints (La.pieceOf ms 0)).toArray, 3) ∈ R ∧ InF R (.slice X2 ((La.optP ms 1).getD []).length y2) (La.optP ms 1) ∧ DblF R (.slice X3 (La.dblOf ms).length y3) (fun j => La.optP ms (j + 2)) ∧ ∀ y ∈ F, y ∈ R := by
    obtain ⟨G2, g2f, g2i, g2b⟩ := InF.of_new HN2.out
    obtain ⟨G3, g3f, g3i, g3b⟩ := DblF.of_new HN3.out
    have hx4 := HAL4.out.size
    have up : ∀ {G : Bxs}, Bxs.fit G w4 → Bxs.fit G w10 := fun hg => (hg.below HAL4.out).below HX10.out
    have f1 : Bxs.fit [(w.heap.size + 1, cells9 zeroC none 0 0 none 0 0, (30 : TypeId))] w10 := Bxs.one HR10.out (by decide)
    have f2 : Bxs.fit [(w4.heap.size, #[.slice (some ⟨b1, 0, none⟩) 4 4, .slice X2 ((La.optP ms 1).getD []).length y2, .slice X3 (La.dblOf ms).length y3], (74 : TypeId))] w10 := (Bxs.one HG4.out (by decide)).below HX10.out
    have f3 : Bxs.fit [(gd, cur, (3 : TypeId))] w10 := (Bxs.one HU4.out (by decide)).below HX10.out
    have f4 : Bxs.fit [(b1, (La.ints (La.pieceOf ms 0)).toArray, (3 : TypeId))] w10 := up (Bxs.one hrow1 (by decide))
    have f5 : Bxs.fit F w10 := (HDK.out w10 HB10.out).fx
    have hs := HSX.out
    refine ⟨[(w.heap.size + 1, cells9 zeroC none 0 0 none 0 0, (30 : TypeId))] ++ ([(w4.heap.size, #[.slice (some ⟨b1, 0, none⟩) 4 4, .slice X2 ((La.optP ms 1).getD []).length y2, .slice X3 (La.dblOf ms).length y3], (74 : TypeId))] ++ ([(gd, cur, (3 : TypeId))] ++ ([(b1, (La.ints (La.pieceOf ms 0)).toArray, (3 : TypeId))] ++ (G2 ++ (G3 ++ F))))), f1.app (f2.app (f3.app (f4.app ((up g2f).app ((up g3f).app f5))))), ?_, ?_, ?_, ?_, ?_, g2i.mono ?_, g3i.mono ?_, ?_⟩
    · intro y hy
      simp only [List.mem_append, List.mem_singleton] at hy
      rcases hy with rfl | rfl | rfl | rfl | hy | hy | hy
      · show w.heap.size + 1 ≠ _; omega
      · show w4.heap.size ≠ _; omega
      · show gd ≠ _; omega
      · show b1 ≠ _; omega
      · have := g2b y hy; omega
      · have := g3b y hy; omega
      · have := HFX.out y hy; omega
    · simp
    · simp
    · simp
    · simp
    · intro y hy; simp only [List.mem_append]; exact .inr (.inr (.inr (.inr (.inl hy))))
    · intro y hy; simp only [List.mem_append]; exact .inr (.inr (.inr (.inr (.inr (.inl hy)))))
    · intro y hy; simp only [List.mem_append]; exact .inr (.inr (.inr (.inr (.inr (.inr hy)))))
  have HRN := Lib.hid hRn
  have HM1 := Lib.hid hR1
  have HM2 := Lib.hid hR2
  have HM3 := Lib.hid hR3
  have HM4 := Lib.hid hR4
  have HI2 := Lib.hid hR5
  have HI3 := Lib.hid hR6
  have HM7 := Lib.hid hR7
  have HBS : Hid (B ≤ w.heap.size) := HBB.out
  have HFL : Hid (∀ y ∈ F, y.1 < w.heap.size) := HFX.out
  have HB1N : Hid (b1 ≠ w.heap.size + 1) := by show _ ≠ _; have := HSX.out; omega
  have HD0 : Hid (Dk w0 w10 B d q p pd pm k c ((w.heap.size, cells9 x A 4 kp none 0 0, 30) :: R) N D (dpT V L 0)) := by
    show Dk _ _ _ _ _ _ _ _ _ _ _ _ _ _
    exact ((HDK.out w10 HB10.out).with hRf).add (show w10.heap[w.heap.size]? = _ from HC4.out.below HX10.out HC4.out.lt) (by decide)
  have HLG : Hid (∀ W, Bxs.fit R W → IntsAt W W.heap.size (some ⟨gd, 0, none⟩) L.length L) := fun W hW => ints_box HL4.out HU4.out (hW _ HM3.out).1
  have HI64 : Hid (∀ t, t < L.length → I64 (L.getD t 0)) := fun t ht => by
    have := HUS.out (L.getD t 0) (by rw [show L.getD t 0 = L[t] by simp [List.getD, List.getElem?_eq_getElem ht]]; exact List.getElem_mem _)
    unfold I64; omega
  have HDV : Hid (∀ t, dpV (dpT V L t) (L.getD t 0) = dpT V L (t + 1)) := fun t => rfl
  have HVV : Hid (svP V L ms = stL (dpT V L L.length) ((La.optP ms 1).getD []) ∧ svQ V L ms = stD (svP V L ms).1 (La.dblOf ms)) := ⟨rfl, rfl⟩
  clear hRf hRn hR1 hR2 hR3 hR4 hR5 hR6 hR7 hrow1 hb1 hl4 HN1 HN2 HN3 HLT4 HDK HFX HBB HUS HFO HNE HD8 HLA HRM HL3 HU3 HL4 HU4 HG4 HZ4 HAL4 HS3 HB4 HC4 HX10 HB10 HR10
  go_loopw [15, 60] (fun _ i wr => ∃ t : Nat, t ≤ L.length ∧ i = .int .i64 (t : Int) ∧ Hid (Dk w0 wr B d q p pd pm k c ((w.heap.size, cells9 x A 4 kp none 0 0, 30) :: R) N D (dpT V L t))) (fun _ i _ => L.length - (intOf i).toNat)
  case atStart => exact ⟨0, by omega, rfl, HD0.out⟩
  case round =>
    obtain ⟨t, ht, rfl, hd⟩ := hrel
    by_cases hlt : t < L.length
    · have hlt2 : (t : Int) < (L.length : Int) := by omega
      have hll := HLL.out
      obtain ⟨bb, o, e, hbB, h1⟩ := (HLG.out wr hd.out.drop.fx).at_ hlt
      injection e with e
      injection e with e1 e2
      subst e1
      subst e2
      rw [Nat.zero_add] at h1
      have HDR := Lib.hid (drop_dk (L.getD t 0) hd.out (HI64.out t hlt))
      rw [HDV.out t] at HDR
      generalize L.getD t 0 = z at *
      generalize dpE (dpT V L t) z = zz at *
      clear hd
      go_wp2_with (go_at_call 40; refine HDR.out.mono ?_; rintro e w11 ⟨rfl, d11⟩; have HD11 := Lib.hid d11; clear d11)
      go_roundw
      case rel => exact ⟨t + 1, by omega, by go_num, HD11.out⟩
      case measure => simp [intOf]; omega
    · obtain rfl : t = L.length := by omega
      have hlt2 : ¬ (L.length : Int) < (L.length : Int) := by omega
      have HVQ := Lib.hid HVV.out.2
      have HVP := Lib.hid HVV.out.1
      have HSL := Lib.hid (fun W V' (hW : Dk w0 W B d q p pd pm k c ((w.heap.size, (cells9 x A 4 kp none 0 0).setIfInBounds 4 (.slice (some ⟨b1, 0, none⟩) 4 4), 30) :: R) N D V') => storelist_any hW (.slice X2 ((La.optP ms 1).getD []).length y2) (La.optP ms 1) (HI2.out.mono fun y hy => List.mem_cons_of_mem _ hy) (HFO2.out 1))
      have HSD := Lib.hid (fun W cs (hW : Dk w0 W B d q p pd pm k c ((w.heap.size, cs, 30) :: R) N D (svP V L ms).1) => storedouble_any hW (.slice X3 (La.dblOf ms).length y3) (fun j => La.optP ms (j + 2)) (HI3.out.mono fun y hy => List.mem_cons_of_mem _ hy) (fun j _ => HFO2.out (j + 2)) HSF.out)
      have HDA := Lib.hid (hd.out.setH HBS.out HRN.out 4 (.slice (some ⟨b1, 0, none⟩) 4 4))
      have HCW : Hid (CdRow wr w.heap.size x A 4 kp none 0 0) := hd.out.box
      have hSL := HSL.out _ _ HDA.out
      rw [← HVP.out] at hSL
      have HSLA := Lib.hid hSL
      obtain ⟨e0, e1, e2, e3, e4, e5, e6, e7, e8⟩ := HCW.out.cells
      have zc := HCW.out.fz
      have hg0 : wr.cell? ⟨w4.heap.size, 0, none⟩ = some (.slice (some ⟨b1, 0, none⟩) 4 4) := by rw [cell_of_row wr _ _ _ 74 _ (hd.out.drop.fx _ HM2.out).1]; rfl
      have hg1 : (wr.setCell ⟨w.heap.size, 4, none⟩ (.slice (some ⟨b1, 0, none⟩) 4 4)).cell? ⟨w4.heap.size, 1, none⟩ = some (.slice X2 ((La.optP ms 1).getD []).length y2) := by rw [cell_of_row _ _ _ _ 74 _ (HDA.out.drop.fx _ HM2.out).1]; rfl
      clear hd hSL HSL HLG HI64 HDV HD0 HCW
      go_wp2_with (first
        | (go_at_call 41; refine HSLA.out.mono ?_; rintro e w11 ⟨rfl, d11⟩
           clear e0 e1 e2 e3 e4 e5 e6 e7 e8 zc hg0 hg1
           have HDB := Lib.hid (d11.setH HBS.out HRN.out 5 (.int .i64 (svP V L ms).2))
           have HC11 : Hid (CdRow w11 w.heap.size { x with ps := La.pieceOf ms 0 } (some ⟨b1, 0, none⟩) 4 4 none 0 0) := d11.box
           have hSD := HSD.out _ _ HDB.out
           have eQ : stD (svP V L ms).1 (La.dblL fun j => La.optP ms (j + 2)) = svQ V L ms := HVQ.out.symm
           rw [eQ] at hSD
           have HSDA := Lib.hid hSD
           obtain ⟨e0, e1, e2, e3, e4, e5, e6, e7, e8⟩ := HC11.out.cells
           have zc := HC11.out.fz
           have hg2 : (w11.setCell ⟨w.heap.size, 5, none⟩ (.int .i64 (svP V L ms).2)).cell? ⟨w4.heap.size, 2, none⟩ = some (.slice X3 (La.dblOf ms).length y3) := by rw [cell_of_row _ _ _ _ 74 _ (HDB.out.drop.fx _ HM2.out).1]; rfl
           clear d11 hSD HC11)
        | (go_at_call 42; refine HSDA.out.mono ?_; rintro e w12 ⟨rfl, d12⟩
           clear e0 e1 e2 e3 e4 e5 e6 e7 e8 zc hg2
           have HQ := Lib.hid HVQ.out
           have HC12 : Hid (CdRow w12 w.heap.size { x with ps := La.pieceOf ms 0, sg := (svP V L ms).2 } (some ⟨b1, 0, none⟩) 4 4 none 0 0) := d12.box
           have HD12 := Lib.hid d12
           obtain ⟨e0, e1, e2, e3, e4, e5, e6, e7, e8⟩ := HC12.out.cells
           have zc := HC12.out.fz
           have HDC := Lib.hid ((d12.setH HBS.out HRN.out 6 (.int .i64 (svQ V L ms).2)).setH HBS.out HRN.out 7 (.slice none 0 0))
           have HR9 : Hid (CdRow ((w12.setCell ⟨w.heap.size, 6, none⟩ (.int .i64 (svQ V L ms).2)).setCell ⟨w.heap.size, 7, none⟩ (.slice none 0 0)) (w.heap.size + 1) zeroC none 0 0 none 0 0) := (HDC.out.drop.fx _ HM1.out).1
           obtain ⟨r0, r1, r2, r3, r4, r5, r6, r7, r8⟩ := HR9.out.cells
           have zr := HR9.out.fz
           clear d12))
      clear e0 e1 e2 e3 e4 e5 e6 e7 e8 zc r0 r1 r2 r3 r4 r5 r6 r7 r8 zr
      have HR8 : Hid (CdRow (put9 ((w12.setCell ⟨w.heap.size, 6, none⟩ (.int .i64 (svQ V L ms).2)).setCell ⟨w.heap.size, 7, none⟩ (.slice none 0 0)) (w.heap.size + 1) { x with ps := La.pieceOf ms 0, sg := (svP V L ms).2, db := (svQ V L ms).2 } (some ⟨b1, 0, none⟩) 4 4 none 0 0) (w.heap.size + 1) { x with ps := La.pieceOf ms 0, sg := (svP V L ms).2, db := (svQ V L ms).2 } (some ⟨b1, 0, none⟩) 4 4 none 0 0) := put9_row HR9.out
      have HTZ := Lib.hid (put9_turns ((w12.setCell ⟨w.heap.size, 6, none⟩ (.int .i64 (svQ V L ms).2)).setCell ⟨w.heap.size, 7, none⟩ (.slice none 0 0)) (w.heap.size + 1) { x with ps := La.pieceOf ms 0, sg := (svP V L ms).2, db := (svQ V L ms).2 } (some ⟨b1, 0, none⟩) 4 4 none 0 0)
      have HDF : Hid (Dk w0 (put9 ((w12.setCell ⟨w.heap.size, 6, none⟩ (.int .i64 (svQ V L ms).2)).setCell ⟨w.heap.size, 7, none⟩ (.slice none 0 0)) (w.heap.size + 1) { x with ps := La.pieceOf ms 0, sg := (svP V L ms).2, db := (svQ V L ms).2 } (some ⟨b1, 0, none⟩) 4 4 none 0 0) B d q p pd pm k c ((b1, (La.ints (La.pieceOf ms 0)).toArray, 3) :: F) N D (svQ V L ms).1) := by
        have h1 := HDC.out.with (E := (b1, (La.ints (La.pieceOf ms 0)).toArray, 3) :: F) (HDC.out.drop.fx.sub fun y hy => by
          rcases List.mem_cons.1 hy with rfl | hy
          · exact HM4.out
          · exact HM7.out y hy)
        refine h1.turns HTZ.out fun j hj => ?_
        rw [List.mem_singleton] at hj
        subst hj
        refine ⟨Nat.le_trans HBS.out (Nat.le_succ _), ⟨_, 30, HR9.out, by decide, by decide⟩, fun y hy => ?_⟩
        rcases List.mem_cons.1 hy with rfl | hy
        · exact HB1N.out
        · have := HFL.out y hy; omega
      unfold put9 at HR8 HDF
      simp only at HR8 HDF
      generalize World.setCell _ ⟨w.heap.size + 1, 8, none⟩ _ = wz at *
      obtain ⟨r0, r1, r2, r3, r4, r5, r6, r7, r8⟩ := HR8.out.cells
      simp only at r0 r1 r2 r3 r4 r5 r6 r7 r8
      refine bodyPost_ret (v := .tuple #[cdv { x with ps := La.pieceOf ms 0, sg := (svP V L ms).2, db := (svQ V L ms).2 } (some ⟨b1, 0, none⟩) 4 4 none 0 0, .int .i64 0]) (by simp [results, Tryz.results13, go_sem, r0, r1, r2, r3, r4, r5, r6, r7, r8]) rfl ?_
      exact ⟨b1, rfl, HDF.out⟩
end
end Go.Proofs.YtppbonjhckakiaaGreat.Dl
