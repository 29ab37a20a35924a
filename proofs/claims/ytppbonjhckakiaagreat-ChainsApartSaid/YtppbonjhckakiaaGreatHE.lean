/-
  WALK: rungs, on a deal with a crown. Condition: a deal on a calm slab.
-/
import Derived.Test.YtppbonjhckakiaaGreatHD
import Derived.Test.YtppbonjhckakiaaGreatBJ
set_option linter.unusedVariables false
set_option linter.unusedSimpArgs false
set_option maxRecDepth 100000
set_option maxHeartbeats 4000000
namespace Go.Proofs.YtppbonjhckakiaaGreat.Dl
open Go.RowKit
open Mk
open Sl (Turns)
open Kr (crv rightK kf kb kc KBox cells3 I64 inB)
open La (OwnLst nilS)

/-! ### three values in a block -/
def Rg3 (W : World) (g : Nat) (v0 v1 v2 : Value) : Prop := W.heap[g]? = some (.cells #[v0, v1, v2] 74 (0, 0))
def put3v (W : World) (g : Nat) (v0 v1 v2 : Value) : World := ((W.setCell ⟨g, 0, none⟩ v0).setCell ⟨g, 1, none⟩ v1).setCell ⟨g, 2, none⟩ v2
section
variable {W W' : World} {g : Nat} {v0 v1 v2 u0 u1 u2 : Value}
theorem Rg3.lt (h : Rg3 W g v0 v1 v2) : g < W.heap.size := (Array.getElem?_eq_some_iff.1 h).1
theorem Rg3.cells (h : Rg3 W g v0 v1 v2) : W.cell? ⟨g, 0, none⟩ = some v0 ∧ W.cell? ⟨g, 1, none⟩ = some v1 ∧ W.cell? ⟨g, 2, none⟩ = some v2 := by
  refine ⟨?_, ?_, ?_⟩ <;> (rw [cell_of_row W _ _ _ 74 _ h]; rfl)
theorem Rg3.fz (h : Rg3 W g v0 v1 v2) (k : Nat) : W.frozen? ⟨g, k, none⟩ = false := by unfold World.frozen?; rw [h]; simp
theorem Rg3.below {C : Nat} (h : Rg3 W g v0 v1 v2) (hb : Below C W W') (hq : g < C) : Rg3 W' g v0 v1 v2 := (hb.block g hq).trans h
theorem Rg3.new (W : World) (v0 v1 v2 : Value) : Rg3 (W.alloc (.cells #[v0, v1, v2] 74)) W.heap.size v0 v1 v2 := heap_alloc_new W _
theorem Rg3.set2 (h : Rg3 W g v0 v1 v2) (u : Value) : Rg3 (W.setCell ⟨g, 2, none⟩ u) g v0 v1 u := by
  unfold Rg3
  rw [Sl.heap_setCell_same W g _ _ h]; rfl
theorem Rg3.put (h : Rg3 W g v0 v1 v2) : Rg3 (put3v W g u0 u1 u2) g u0 u1 u2 := by
  unfold Rg3 put3v
  rw [Sl.heap_setCell_same _ g _ _ (Sl.heap_setCell_same _ g _ _ (Sl.heap_setCell_same W g _ _ h))]; rfl
theorem put3v_turns (W : World) (g : Nat) (u0 u1 u2 : Value) : Turns [g] W (put3v W g u0 u1 u2) := ((Turns.setCell W (by simp) _).trans (Turns.setCell _ (by simp) _)).trans (Turns.setCell _ (by simp) _)
theorem own_put3 {base n sz : Nat} {e : TypeId} {v : Value} {xs : List Value} (h : W.ownsRow base e sz v n xs) (hg : g < base) : (put3v W g u0 u1 u2).ownsRow base e sz v n xs := own_set (own_set (own_set h g 0 u0 hg) g 1 u1 hg) g 2 u2 hg
theorem _root_.Go.Proofs.YtppbonjhckakiaaGreat.La.OwnLst.setc {base : Nat} {v : Value} {o : Option (List Int)} (h : OwnLst base W v o) (q j : Nat) (u : Value) (hq : q < base) : OwnLst base (W.setCell ⟨q, j, none⟩ u) v o := by
  cases o with
  | none => exact h
  | some l => exact ⟨own_set h.1 q j u hq, h.2⟩
theorem ownlst_put3 {base : Nat} {v : Value} {o : Option (List Int)} (h : OwnLst base W v o) (hg : g < base) : OwnLst base (put3v W g u0 u1 u2) v o := ((h.setc g 0 u0 hg).setc g 1 u1 hg).setc g 2 u2 hg
end
theorem ownlst_ints {base : Nat} {w : World} {A : Option Addr} {n c : Nat} {o : Option (List Int)} (h : OwnLst base w (.slice A n c) o) : IntsAt w w.heap.size A (o.getD []).length (o.getD []) := by
  cases o with
  | none =>
    have h : Value.slice A n c = nilS := h
    injection h with h1 h2 h3
    subst h1
    exact La.IntsAt.nil _ _ _
  | some l =>
    obtain ⟨A', c', e, _⟩ := La.own_slice h.1
    have e2 := e
    injection e with e1 e3 e4
    subst e1
    exact La.IntsAt.of_own h.1 e2 h.2.2
/-- the answer of rungs. -/
def RetRg (w : World) (V : List ByteArray) (b : Int) (d : List Int) (sg db : Int) (e : Ending) (w' : World) : Prop :=
  if rgOk V b sg db = true then ∃ A1 A2 A3 Ad n2 n3 nd c1 c2 c3 cd, e = .returned (.tuple #[.agg #[.slice A1 4 c1, .slice A2 n2 c2, .slice A3 n3 c3], .slice Ad nd cd, .int .i64 0]) ∧ La.Rungs3 w' w'.heap.size A1 A2 A3 4 n2 n3 d ((rlV V sg).getD []) (lsV V db) ∧ IntsAt w' w'.heap.size Ad nd (dblV V db) ∧ Below w.heap.size w w'
  else e = .returned (.tuple #[.agg #[nilS, nilS, nilS], nilS, .int .i64 15]) ∧ Below w.heap.size w w'
theorem ret_rg {w w' : World} {V : List ByteArray} {b : Int} {d : List Int} {sg db : Int} {e : Ending} (h : rgOk V b sg db = false) (he : e = .returned (.tuple #[.agg #[nilS, nilS, nilS], nilS, .int .i64 15])) (hb : Below w.heap.size w w') : RetRg w V b d sg db e w' := by
  unfold RetRg
  rw [if_neg (by rw [h]; decide)]
  exact ⟨he, hb⟩
section
variable {w0 w : World} {B d q p pd pm k c : Nat} {F : Bxs} {N : Nat} {D V : List ByteArray} {b : Nat} {m : ByteArray}
theorem rungs_any (h : Dk w0 w B d q p pd pm k c F N D V) (hc : Crd V b m) (f u : Int) (hk : rightK f b u = true) (x : Cd) (A : Option Addr) (kp : Nat) (A' : Option Addr) (n' k' Bc : Nat) (hx : IntsAt w Bc A 4 x.ps) (hBc : Bc ≤ w.heap.size) :
    Calls Tryz.prog 79 #[.pointer (some ⟨d, 0, none⟩), crv f b u, cdv x A 4 kp A' n' k'] w (RetRg w V b x.ps x.sg x.db) := by
  have HRL := Lib.hid (fun W (hW : Below w.heap.size w W) i => readlist_any (h.below hW) hc f u hk i)
  unfold RetRl at HRL
  have HB1 : Below w.heap.size w (w.alloc (.cells (cells3 f b u) 62)) := (Below.refl _ _).alloc (Nat.le_refl _) _
  have HB2 := HB1.alloc HB1.size (.cells (cells9 x A 4 kp A' n' k') 30)
  have HB3 := Lib.hid (HB2.alloc HB2.size (.cells #[nilS, nilS, nilS] 74))
  have HX3 : Hid (KBox (((w.alloc (.cells (cells3 f b u) 62)).alloc (.cells (cells9 x A 4 kp A' n' k') 30)).alloc (.cells #[nilS, nilS, nilS] 74)) w.heap.size f b u) := ((KBox.new w f b u).below ((Below.refl (w.alloc (.cells (cells3 f b u) 62)).heap.size _).alloc (Nat.le_refl _) _) (by simp)).below ((Below.refl ((w.alloc (.cells (cells3 f b u) 62)).alloc (.cells (cells9 x A 4 kp A' n' k') 30)).heap.size _).alloc (Nat.le_refl _) _) (by simp; omega)
  have HC3 : Hid (CdRow (((w.alloc (.cells (cells3 f b u) 62)).alloc (.cells (cells9 x A 4 kp A' n' k') 30)).alloc (.cells #[nilS, nilS, nilS] 74)) (w.heap.size + 1) x A 4 kp A' n' k') := by
    have h1 := CdRow.new (w.alloc (.cells (cells3 f b u) 62)) x A 4 kp A' n' k'
    rw [show (w.alloc (.cells (cells3 f b u) 62)).heap.size = w.heap.size + 1 by simp] at h1
    exact h1.below ((Below.refl ((w.alloc (.cells (cells3 f b u) 62)).alloc (.cells (cells9 x A 4 kp A' n' k') 30)).heap.size _).alloc (Nat.le_refl _) _) (by simp)
  have HR3 : Hid (Rg3 (((w.alloc (.cells (cells3 f b u) 62)).alloc (.cells (cells9 x A 4 kp A' n' k') 30)).alloc (.cells #[nilS, nilS, nilS] 74)) (w.heap.size + 1 + 1) nilS nilS nilS) := by
    have h1 := Rg3.new ((w.alloc (.cells (cells3 f b u) 62)).alloc (.cells (cells9 x A 4 kp A' n' k') 30)) nilS nilS nilS
    rwa [show ((w.alloc (.cells (cells3 f b u) 62)).alloc (.cells (cells9 x A 4 kp A' n' k') 30)).heap.size = w.heap.size + 1 + 1 by simp] at h1
  have HPS := Lib.hid hx
  have HBC := Lib.hid hBc
  clear h hc hk HB1 HB2 hx hBc
  unfold crv cells3 cells9 nilS at *
  go_enter Tryz.func79, Tryz.ntmps79
  go_upto_region 1 with fail
  generalize hW3 : ((w.alloc (.cells #[.int .i64 f, .int .i64 b, .int .i64 u] 62)).alloc _).alloc _ = W3 at *
  clear hW3
  have HR1 := HRL.out W3 HB3.out x.sg
  obtain ⟨y0, y1, y2⟩ := HX3.out.row
  obtain ⟨e0, e1, e2, e3, e4, e5, e6, e7, e8⟩ := HC3.out.cells
  cases hs1 : rlOk V b x.sg with
  | false =>
    rw [hs1] at HR1
    simp only [Bool.false_eq_true, if_false] at HR1
    have HRET : Hid (rgOk V b x.sg x.db = false) := by show _ = _; unfold rgOk; rw [hs1]; rfl
    clear hs1
    go_wp2_with fail
    refine HR1.mono ?_
    rintro e w4 ⟨v1, rfl, rfl, b4⟩
    have HB4 := Lib.hid (HB3.out.trans (b4.mono HB3.out.size))
    have HR4 := Lib.hid (HR3.out.below b4 HR3.out.lt)
    clear b4 y0 y1 y2 e0 e1 e2 e3 e4 e5 e6 e7 e8 HRL HR1 HX3 HC3 HR3 HB3 HPS
    obtain ⟨z0, z1, z2⟩ := HR4.out.cells
    have zr := HR4.out.fz
    unfold nilS at *
    go_wp2
    clear z0 z1 z2 zr
    have HRZ : Hid (Rg3 (put3v w4 (w.heap.size + 1 + 1) (.slice none 0 0) (.slice none 0 0) (.slice none 0 0)) (w.heap.size + 1 + 1) (.slice none 0 0) (.slice none 0 0) (.slice none 0 0)) := HR4.out.put
    have HBZ : Hid (Below w.heap.size w (put3v w4 (w.heap.size + 1 + 1) (.slice none 0 0) (.slice none 0 0) (.slice none 0 0))) := HB4.out.trans ((put3v_turns _ _ _ _ _).below HB4.out.size (by simp; omega))
    unfold put3v at HRZ HBZ
    generalize World.setCell _ ⟨w.heap.size + 1 + 1, 2, none⟩ _ = w5 at *
    obtain ⟨r0, r1, r2⟩ := HRZ.out.cells
    refine bodyPost_ret (v := .tuple #[.agg #[.slice none 0 0, .slice none 0 0, .slice none 0 0], .slice none 0 0, .int .i64 15]) (by simp [results, Tryz.results79, go_sem, r0, r1, r2]) rfl ?_
    exact ret_rg HRET.out rfl HBZ.out
  | true =>
    rw [hs1] at HR1
    simp only [if_pos] at HR1
    have HS1 := Lib.hid hs1
    clear hs1
    go_wp2_with fail
    refine HR1.mono ?_
    rintro e w4 ⟨v1, rfl, o1, b4⟩
    have HB4 := Lib.hid (HB3.out.trans (b4.mono HB3.out.size))
    have HR4 := Lib.hid (HR3.out.below b4 HR3.out.lt)
    have HX4 := Lib.hid (HX3.out.below b4 HX3.out.lt)
    have HC4 := Lib.hid (HC3.out.below b4 HC3.out.lt)
    have HS4 := Lib.hid (HR3.out.lt)
    have HO1 := Lib.hid (o1.less (base' := w.heap.size + 3) (by have := HS4.out; omega))
    obtain ⟨Q1, q1, rfl⟩ := o1.form
    clear b4 y0 y1 y2 e0 e1 e2 e3 e4 e5 e6 e7 e8 HR1 HX3 HC3 HR3 HB3 o1 HS4
    have HR2 := HRL.out w4 HB4.out x.db
    obtain ⟨y0, y1, y2⟩ := HX4.out.row
    obtain ⟨e0, e1, e2, e3, e4, e5, e6, e7, e8⟩ := HC4.out.cells
    cases hs2 : rlOk V b x.db with
    | false =>
      rw [hs2] at HR2
      simp only [Bool.false_eq_true, if_false] at HR2
      have HRET : Hid (rgOk V b x.sg x.db = false) := by show _ = _; unfold rgOk; rw [HS1.out, hs2]; rfl
      clear hs2
      go_wp2_with fail
      refine HR2.mono ?_
      rintro e w5 ⟨v2, rfl, rfl, b5⟩
      have HB5 := Lib.hid (HB4.out.trans (b5.mono HB4.out.size))
      have HR5 := Lib.hid (HR4.out.below b5 HR4.out.lt)
      clear b5 y0 y1 y2 e0 e1 e2 e3 e4 e5 e6 e7 e8 HRL HR2 HX4 HC4 HR4 HB4 HPS
      obtain ⟨z0, z1, z2⟩ := HR5.out.cells
      have zr := HR5.out.fz
      unfold nilS at *
      go_wp2
      clear z0 z1 z2 zr
      have HRZ : Hid (Rg3 (put3v w5 (w.heap.size + 1 + 1) (.slice none 0 0) (.slice none 0 0) (.slice none 0 0)) (w.heap.size + 1 + 1) (.slice none 0 0) (.slice none 0 0) (.slice none 0 0)) := HR5.out.put
      have HBZ : Hid (Below w.heap.size w (put3v w5 (w.heap.size + 1 + 1) (.slice none 0 0) (.slice none 0 0) (.slice none 0 0))) := HB5.out.trans ((put3v_turns _ _ _ _ _).below HB5.out.size (by simp; omega))
      unfold put3v at HRZ HBZ
      generalize World.setCell _ ⟨w.heap.size + 1 + 1, 2, none⟩ _ = w6 at *
      obtain ⟨r0, r1, r2⟩ := HRZ.out.cells
      refine bodyPost_ret (v := .tuple #[.agg #[.slice none 0 0, .slice none 0 0, .slice none 0 0], .slice none 0 0, .int .i64 15]) (by simp [results, Tryz.results79, go_sem, r0, r1, r2]) rfl ?_
      exact ret_rg HRET.out rfl HBZ.out
    | true =>
      rw [hs2] at HR2
      simp only [if_pos] at HR2
      have HS2 := Lib.hid hs2
      clear hs2
      go_wp2_with fail
      refine HR2.mono ?_
      rintro e w5 ⟨v2, rfl, o2, b5⟩
      have HB5 := Lib.hid (HB4.out.trans (b5.mono HB4.out.size))
      have HR5 := Lib.hid (HR4.out.below b5 HR4.out.lt)
      have HX5 := Lib.hid (HX4.out.below b5 HX4.out.lt)
      have HC5 := Lib.hid (HC4.out.below b5 HC4.out.lt)
      have HO15 := Lib.hid (HO1.out.below b5 (Nat.le_refl _))
      have HS5 := Lib.hid (HR4.out.lt)
      have HO2 := Lib.hid (o2.less (base' := w.heap.size + 3) (by have := HS5.out; omega))
      obtain ⟨Q2, q2, rfl⟩ := o2.form
      have HLA := Lib.hid (La.LstAt.read o2.lst)
      clear b5 y0 y1 y2 e0 e1 e2 e3 e4 e5 e6 e7 e8 HR2 HX4 HC4 HR4 HB4 HO1 o2 HS5
      have HRB : Hid (Rg3 (w5.alloc (.cells #[.slice A 4 kp, .slice Q1 ((rlV V x.sg).getD []).length q1, nilS] 74)) w5.heap.size (.slice A 4 kp) (.slice Q1 ((rlV V x.sg).getD []).length q1) nilS) := Rg3.new w5 _ _ _
      have HBB : Hid (Below w5.heap.size w5 (w5.alloc (.cells #[.slice A 4 kp, .slice Q1 ((rlV V x.sg).getD []).length q1, nilS] 74))) := (Below.refl w5.heap.size w5).alloc (Nat.le_refl _) _
      have HI2 : Hid (IntsAt w5 w5.heap.size Q2 (dblV V x.db).length (dblV V x.db)) := ownlst_ints HO2.out
      have HN8 : (dblV V x.db).length ≤ 8 := rlV_len V x.db
      have HLV : Hid (lsV V x.db = (dblV V x.db).map (rlV V)) := rfl
      have HRG : Hid ((∀ y ∈ dblV V x.db, rlOk V b y = true) → rgOk V b x.sg x.db = true) := fun hh => by unfold rgOk; rw [HS1.out, HS2.out, List.all_eq_true.2 hh]; rfl
      have HRF : Hid (∀ t, t < (dblV V x.db).length → rlOk V b ((dblV V x.db).getD t 0) = false → rgOk V b x.sg x.db = false) := fun t ht hh => by
        unfold rgOk
        rw [HS1.out, HS2.out, Bool.true_and, Bool.true_and, List.all_eq_false]
        refine ⟨(dblV V x.db).getD t 0, ?_, by rw [hh]; decide⟩
        rw [show (dblV V x.db).getD t 0 = (dblV V x.db)[t] by simp [List.getD, List.getElem?_eq_getElem ht]]
        exact List.getElem_mem ht
      have e9 : ((rlV V x.db).getD []).length = (dblV V x.db).length := rfl
      rw [e9]
      obtain ⟨e0, e1, e2, e3, e4, e5, e6, e7, e8⟩ := HC5.out.cells
      unfold nilS at HRB HBB
      generalize hdl : dblV V x.db = dl at *
      have HDL : Hid ((rlV V x.db).getD [] = dl) := hdl
      clear hdl
      obtain ⟨nd, hnd⟩ : ∃ nd, dl.length = nd := ⟨_, rfl⟩
      have HND := Lib.hid hnd
      rw [hnd] at HI2 HN8 HRF ⊢
      clear e9 hnd HLA
      go_wp2_with fail
      clear e0 e1 e2 e3 e4 e5 e6 e7 e8
      go_loopw [14, 15, 16, 47] (fun _ _ _ i wr => ∃ (t : Nat) (v3 : Value) (us : List Value), t ≤ nd ∧ i = .int .i64 (t : Int) ∧ Hid (us.length = t) ∧ Hid (Rg3 wr w5.heap.size (.slice A 4 kp) (.slice Q1 ((rlV V x.sg).getD []).length q1) v3) ∧ Hid (wr.ownsRow (w5.heap.size + 1) 27 1 v3 us.length us) ∧ Hid (Below w5.heap.size w5 wr) ∧ Hid (∀ j, j < t → OwnLst (w5.heap.size + 1) wr (us.getD j nilS) (rlV V (dl.getD j 0)) ∧ rlOk V b (dl.getD j 0) = true)) (fun _ _ _ i _ => nd - (intOf i).toNat)
      case atStart => exact ⟨0, _, [], by omega, rfl, rfl, HRB.out, World.ownsRow_nil _ _ _ _, HBB.out, fun j hj => absurd hj (Nat.not_lt_zero _)⟩
      case round =>
        obtain ⟨t, v3, us, ht, rfl, hul, hrg, hown, hbl, hus⟩ := hrel
        obtain ⟨A3, c3, rfl, hc3⟩ := La.own_slice hown.out
        clear HRB HBB
        have HBW := Lib.hid (HB5.out.trans (hbl.out.mono HB5.out.size))
        have HRW := Lib.hid (HR5.out.below hbl.out HR5.out.lt)
        have HXW := Lib.hid (HX5.out.below hbl.out HX5.out.lt)
        have HSW := Lib.hid hrg.out.lt
        by_cases hlt : t < nd
        · have hlt2 : (t : Int) < (nd : Int) := by omega
          obtain ⟨bb, o, rfl, hbB, h1⟩ := (HI2.out.below hbl.out (Nat.le_refl _)).at_ hlt
          have HRT := HRL.out wr HBW.out (dl.getD t 0)
          obtain ⟨y0, y1, y2⟩ := HXW.out.row
          cases hok : rlOk V b (dl.getD t 0) with
          | false =>
            have HRET := Lib.hid (HRF.out t hlt hok)
            rw [hok] at HRT
            simp only [Bool.false_eq_true, if_false] at HRT
            clear hok HRG HRF
            generalize dl.getD t 0 = z at *
            go_wp2_with fail
            refine HRT.mono ?_
            rintro e w7 ⟨v, rfl, rfl, b7⟩
            have HB7 := Lib.hid (HBW.out.trans (b7.mono HBW.out.size))
            have HR7 := Lib.hid (HRW.out.below b7 HRW.out.lt)
            clear b7 y0 y1 y2 h1 HRT hrg hown hbl hus HRW HXW HBW HSW
            obtain ⟨z0, z1, z2⟩ := HR7.out.cells
            have zr := HR7.out.fz
            unfold nilS at *
            go_wp2
            clear z0 z1 z2 zr
            have HRZ : Hid (Rg3 (put3v w7 (w.heap.size + 1 + 1) (.slice none 0 0) (.slice none 0 0) (.slice none 0 0)) (w.heap.size + 1 + 1) (.slice none 0 0) (.slice none 0 0) (.slice none 0 0)) := HR7.out.put
            have HBZ : Hid (Below w.heap.size w (put3v w7 (w.heap.size + 1 + 1) (.slice none 0 0) (.slice none 0 0) (.slice none 0 0))) := HB7.out.trans ((put3v_turns _ _ _ _ _).below HB7.out.size (by simp; omega))
            unfold put3v at HRZ HBZ
            generalize World.setCell _ ⟨w.heap.size + 1 + 1, 2, none⟩ _ = w8 at *
            obtain ⟨r0, r1, r2⟩ := HRZ.out.cells
            refine bodyPost_ret (v := .tuple #[.agg #[.slice none 0 0, .slice none 0 0, .slice none 0 0], .slice none 0 0, .int .i64 15]) (by simp [results, Tryz.results79, go_sem, r0, r1, r2]) rfl ?_
            exact ret_rg HRET.out rfl HBZ.out
          | true =>
            have HOK := Lib.hid hok
            rw [hok] at HRT
            simp only [if_pos] at HRT
            clear hok HRF
            have HUS := Lib.hid hus.out
            generalize hz : dl.getD t 0 = z at *
            have HZ := Lib.hid hz
            clear hz hus
            go_wp2_with (first
              | (go_at_call 122
                 refine HRT.mono ?_
                 rintro e w7 ⟨v, rfl, ov, b7⟩
                 have HRG7 := Lib.hid (hrg.out.below b7 HSW.out)
                 have HOV := Lib.hid (ov.less (base' := w5.heap.size + 1) (by have := HSW.out; omega))
                 have HOW7 := Lib.hid (La.own_below hown.out b7 (Nat.le_refl _))
                 have HBL7 := Lib.hid (hbl.out.trans (b7.mono (by have := HSW.out; omega)))
                 have HU7 : Hid (∀ j, j < t → OwnLst (w5.heap.size + 1) w7 (us.getD j nilS) (rlV V (dl.getD j 0)) ∧ rlOk V b (dl.getD j 0) = true) := fun j hj => ⟨(HUS.out j hj).1.below b7 (Nat.le_refl _), (HUS.out j hj).2⟩
                 have HS7 : Hid (w5.heap.size + 1 ≤ w7.heap.size) := by have := HRG7.out.lt; show _ ≤ _; omega
                 obtain ⟨Av, cv, rfl⟩ := ov.form
                 obtain ⟨z0, z1, z2⟩ := HRG7.out.cells
                 clear b7 ov y0 y1 y2 h1)
              | (at_builtin
                 refine La.pushL_law rfl (.tmp 63) (.tmp 65) rfl (w5.heap.size + 1) _ (.slice A3 us.length c3) us Av ((rlV V z).getD []).length cv rfl rfl HOW7.out (by have := hul.out; omega) HS7.out ?_
                 intro v' w8 hown8 hb8 hk8
                 rw [List.length_append, List.length_singleton] at hown8
                 obtain ⟨A8, c8, rfl, hc8⟩ := La.own_slice hown8
                 have HO8 := Lib.hid hown8
                 have HB8 := Lib.hid hb8
                 have HK8 := Lib.hid hk8
                 have HRG8 := Lib.hid (HRG7.out.below hb8 (by omega))
                 have zr := HRG8.out.fz
                 clear z0 z1 z2
                 obtain ⟨z0, z1, z2⟩ := HRG8.out.cells
                 clear hown8 hb8 hk8))
            have HRG9 := Lib.hid (HRG8.out.set2 (.slice A8 (us.length + 1) c8))
            have HO9 := Lib.hid (own_set HO8.out w5.heap.size 2 (.slice A8 (us.length + 1) c8) (by omega))
            have HBL9 := Lib.hid ((HBL7.out.trans (HB8.out.mono (by omega))).setCell (Nat.le_refl _) (p := ⟨w5.heap.size, 2, none⟩) (.slice A8 (us.length + 1) c8))
            have HU9 : Hid (∀ j, j < t + 1 → OwnLst (w5.heap.size + 1) (w8.setCell ⟨w5.heap.size, 2, none⟩ (.slice A8 (us.length + 1) c8)) ((us ++ [Value.slice Av ((rlV V z).getD []).length cv]).getD j nilS) (rlV V (dl.getD j 0)) ∧ rlOk V b (dl.getD j 0) = true) := fun j hj => by
              by_cases e : j = t
              · subst e
                have e1 : (us ++ [Value.slice Av ((rlV V z).getD []).length cv]).getD j nilS = Value.slice Av ((rlV V z).getD []).length cv := by simp [List.getD, ← hul.out]
                rw [e1, HZ.out]
                exact ⟨(HK8.out _ _ HOV.out).setc _ _ _ (by omega), HOK.out⟩
              · have e1 : (us ++ [Value.slice Av ((rlV V z).getD []).length cv]).getD j nilS = us.getD j nilS := by
                  simp only [List.getD]
                  rw [List.getElem?_append_left (by have := hul.out; omega)]
                rw [e1]
                exact ⟨(HK8.out _ _ (HU7.out j (by omega)).1).setc _ _ _ (by omega), (HU7.out j (by omega)).2⟩
            go_roundw
            case rel => exact ⟨t + 1, .slice A8 (us.length + 1) c8, us ++ [Value.slice Av ((rlV V z).getD []).length cv], by omega, by go_num, (by show _ = _; rw [List.length_append, hul.out]; rfl), HRG9.out, (by show World.ownsRow _ _ _ _ _ _ _; rw [List.length_append, List.length_singleton]; exact HO9.out), HBL9.out, HU9.out⟩
            case measure => simp [intOf]; omega
        · obtain rfl : t = nd := by omega
          have hlt2 : ¬ (t : Int) < (t : Int) := by omega
          have HRET : Hid (rgOk V b x.sg x.db = true) := HRG.out (fun y hy => by
            obtain ⟨j, hj, rfl⟩ := List.getElem_of_mem hy
            have := (hus.out j (by rw [← HND.out]; exact hj)).2
            rwa [show dl.getD j 0 = dl[j] by simp [List.getD, List.getElem?_eq_getElem hj]] at this)
          have HUS := Lib.hid hus.out
          have HOWN := Lib.hid hown.out
          have HBLD := Lib.hid hbl.out
          have HO1w := Lib.hid (HO15.out.below hbl.out (Nat.le_refl _))
          have HO2w := Lib.hid (HO2.out.below hbl.out (Nat.le_refl _))
          have HS6 : Hid (w.heap.size + 1 + 1 < w5.heap.size) := HR5.out.lt
          obtain ⟨q0, q1', q2'⟩ := hrg.out.cells
          obtain ⟨z0, z1, z2⟩ := HRW.out.cells
          have zr := HRW.out.fz
          clear hrg hown hbl hus HRG HRF HRL
          go_wp2
          clear q0 q1' q2' z0 z1 z2 zr
          have HRZ : Hid (Rg3 (put3v wr (w.heap.size + 1 + 1) (.slice A 4 kp) (.slice Q1 ((rlV V x.sg).getD []).length q1) (.slice A3 us.length c3)) (w.heap.size + 1 + 1) (.slice A 4 kp) (.slice Q1 ((rlV V x.sg).getD []).length q1) (.slice A3 us.length c3)) := HRW.out.put
          have HTZ := Lib.hid (put3v_turns wr (w.heap.size + 1 + 1) (.slice A 4 kp) (.slice Q1 ((rlV V x.sg).getD []).length q1) (.slice A3 us.length c3))
          have HBZ : Hid (Below w.heap.size w (put3v wr (w.heap.size + 1 + 1) (.slice A 4 kp) (.slice Q1 ((rlV V x.sg).getD []).length q1) (.slice A3 us.length c3))) := HBW.out.trans (HTZ.out.below HBW.out.size (by simp; omega))
          have HOZ := Lib.hid (own_put3 (g := w.heap.size + 1 + 1) (u0 := .slice A 4 kp) (u1 := .slice Q1 ((rlV V x.sg).getD []).length q1) (u2 := .slice A3 us.length c3) HOWN.out (by have := HS6.out; omega))
          have HO1Z := Lib.hid (ownlst_put3 (g := w.heap.size + 1 + 1) (u0 := .slice A 4 kp) (u1 := .slice Q1 ((rlV V x.sg).getD []).length q1) (u2 := .slice A3 us.length c3) HO1w.out (by omega))
          have HO2Z := Lib.hid (ownlst_put3 (g := w.heap.size + 1 + 1) (u0 := .slice A 4 kp) (u1 := .slice Q1 ((rlV V x.sg).getD []).length q1) (u2 := .slice A3 us.length c3) HO2w.out (by omega))
          have HUZ : Hid (∀ j, j < t → OwnLst (w5.heap.size + 1) (put3v wr (w.heap.size + 1 + 1) (.slice A 4 kp) (.slice Q1 ((rlV V x.sg).getD []).length q1) (.slice A3 us.length c3)) (us.getD j nilS) (rlV V (dl.getD j 0))) := fun j hj => ownlst_put3 (HUS.out j hj).1 (by have := HS6.out; omega)
          unfold put3v at HRZ HBZ HOZ HO1Z HO2Z HUZ
          clear HTZ
          generalize World.setCell _ ⟨w.heap.size + 1 + 1, 2, none⟩ _ = w6 at *
          obtain ⟨r0, r1, r2⟩ := HRZ.out.cells
          refine bodyPost_ret (v := .tuple #[.agg #[.slice A 4 kp, .slice Q1 ((rlV V x.sg).getD []).length q1, .slice A3 us.length c3], .slice Q2 t q2, .int .i64 0]) (by simp [results, Tryz.results79, go_sem, r0, r1, r2]) rfl ?_
          unfold RetRg
          rw [if_pos HRET.out]
          refine ⟨A, Q1, A3, Q2, _, us.length, t, kp, q1, c3, q2, rfl, ⟨(HPS.out.below HBZ.out HBC.out).more (Nat.le_trans HBC.out HBZ.out.size), ownlst_ints HO1Z.out, ?_⟩, ?_, HBZ.out⟩
          · rw [HLV.out, hul.out]
            refine ⟨by rw [List.length_map, HND.out], fun j hj => ?_⟩
            obtain ⟨g, cap, e, _, hlt⟩ := HOZ.out.form (by rw [hul.out]; omega)
            injection e with e1 e2 e3
            subst e1
            have hcell := HOZ.out.cells (g := g) rfl j (us.getD j nilS) (by simp [List.getD, List.getElem?_eq_getElem (show j < us.length by rw [hul.out]; exact hj)])
            rw [Go.WideShapes.add_plain] at hcell
            refine ⟨g, 0, _, rfl, hlt, hcell, ?_⟩
            have e2 : ((dl.map (rlV V)).getD j none) = rlV V (dl.getD j 0) := by simp [List.getD, List.getElem?_eq_getElem (show j < dl.length by rw [HND.out]; exact hj)]
            rw [e2]
            exact (HUZ.out j hj).lst
          · have h9 := ownlst_ints HO2Z.out
            have e9 : (rlV V x.db).getD [] = dl := HDL.out
            rw [e9, HND.out] at h9
            rw [show dblV V x.db = dl from HDL.out]
            exact h9
end
end Go.Proofs.YtppbonjhckakiaaGreat.Dl
