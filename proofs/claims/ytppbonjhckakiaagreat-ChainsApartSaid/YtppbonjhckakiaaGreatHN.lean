/-
  WALKS: a file among blocks that a deal doesn't touch: Save, Load, Lists, Drop of it; the law's lives. Condition: a deal on a calm slab.
-/
import Derived.Test.YtppbonjhckakiaaGreatHL
set_option linter.unusedVariables false
set_option linter.unusedSimpArgs false
set_option maxRecDepth 100000
set_option maxHeartbeats 8000000
namespace Go.Proofs.YtppbonjhckakiaaGreat.Dl
open Go.RowKit
open Mk
open Sl (Turns SlabAt)
open Lg (FS LogAt Whole newD newD_len newD_whole newD_get)
open Kr (crv rightK blockK kf kb kc KBox cells3 I64 inB marksK bit_marks marks_size)
open La (OwnLst nilS NewLst DblSt)

/-- a file's card, as New and Save leave it. -/
def mkC (zs : List Int) (sg db : Int) : Cd := ⟨1, 1, 1, 0, La.pieceOf zs 0, sg, db, [], 0⟩
theorem frC_is : frC = mkC [] 0 0 := by
  have : La.pieceOf [] 0 = [0, 0, 0, 0] := by decide
  unfold frC mkC; rw [this]
abbrev fbox (g : Nat) (zs : List Int) : Nat × Array Value × TypeId := (g, (La.ints (La.pieceOf zs 0)).toArray, 3)
/-- a file: its card's row is in block g, its pointers say zs, its lists are the blocks L. -/
structure FlAt (V : List ByteArray) (b : Nat) (m : ByteArray) (zs : List Int) (sg db : Int) (L : List Int) : Prop where
  fl : FileAt V b m sg db zs L
  pt : ptsOk b zs = true
  b2 : b ≤ 400
theorem piece_pts {b : Int} {zs : List Int} (h : ptsOk b zs = true) : ptsOk b (La.pieceOf zs 0) = true := by
  unfold ptsOk
  rw [List.all_eq_true]
  intro x hx
  obtain ⟨j, hj, rfl⟩ := List.getElem_of_mem hx
  have hl := La.pieceOf_len zs 0 (by omega)
  rw [show (La.pieceOf zs 0)[j] = (La.pieceOf zs 0).getD j 0 by simp [List.getD, List.getElem?_eq_getElem hj], La.pieceOf_get zs 0 j (by omega) (by omega)]
  rcases getD_or zs (La.offP 0 + j) with e | e
  · rw [e]; rfl
  · exact List.all_eq_true.1 h _ e
theorem rl_range {V : List ByteArray} {b : Nat} (hb : b ≤ 400) {i : Int} (h : rlOk V b i = true) : 0 ≤ i ∧ i ≤ 65535 := by
  rcases rlOk_t.1 h with e | ⟨e1, e2, _⟩ <;> omega
section
variable {V W : List ByteArray} {b : Nat} {m m' : ByteArray} {zs L : List Int} {sg db : Int}
theorem FlAt.one (h : FlAt V b m zs sg db L) : isOne (mkC zs sg db) = true := by
  have h1 := rl_range h.b2 h.fl.os
  have h2 := rl_range h.b2 h.fl.od
  have h3 : oneB (mkC zs sg db) = true := oneB_iff.2 ⟨rfl, by show 0 ≤ (0 : Int) ∧ (0 : Int) ≤ 9728; omega, La.pieceOf_len zs 0 (by omega), fun z hz => blkB_iff.2 (pts_range (by have := h.b2; omega) (piece_pts h.pt) z hz), blkB_iff.2 h1, blkB_iff.2 h2, rfl, rfl⟩
  have h4 : headB (mkC zs sg db) = true := by show headB ⟨1, 1, 1, 0, La.pieceOf zs 0, sg, db, [], 0⟩ = true; unfold headB; simp
  unfold isOne rightC
  rw [h3, h4]
  simp [mkC]
theorem FlAt.right (h : FlAt V b m zs sg db L) : rightC (mkC zs sg db) = true := (isOne_t h.one).1
theorem FlAt.cd (h : FlAt V b m zs sg db L) {w : World} {g : Nat} (hx : w.heap[g]? = some (.cells (La.ints (La.pieceOf zs 0)).toArray 3 (0, 0))) : CdAt w w.heap.size (cdv (mkC zs sg db) (some ⟨g, 0, none⟩) 4 4 none 0 0) (mkC zs sg db) := by
  have hr : La.IntRow w g (La.pieceOf zs 0) := hx
  have h1 := rl_range h.b2 h.fl.os
  have h2 := rl_range h.b2 h.fl.od
  have hf : ∀ z ∈ La.pieceOf zs 0, La.Fit z := fun z hz => by have := pts_range (by have := h.b2; omega) (piece_pts h.pt) z hz; unfold La.Fit; omega
  have h4 := hr.ints hf hr.lt
  rw [La.pieceOf_len zs 0 (by omega)] at h4
  refine ⟨some ⟨g, 0, none⟩, 4, 4, none, 0, 0, rfl, h4, ⟨rfl, by simp [mkC], fun k hk => absurd hk (Nat.not_lt_zero _)⟩, by omega, by omega, ?_⟩
  unfold Cd.fit mkC Fit
  simp only
  omega
theorem FlAt.at_ (h : FlAt V b m zs sg db L) {w : World} {g : Nat} (hx : w.heap[g]? = some (.cells (La.ints (La.pieceOf zs 0)).toArray 3 (0, 0))) : OneAt w w.heap.size V b m (mkC zs sg db) (some ⟨g, 0, none⟩) 4 zs L := ⟨h.cd hx, Nat.le_refl _, h.one, rfl, h.fl, h.pt⟩
theorem FlAt.lnn (h : FlAt V b m zs sg db L) : L.length = need zs := h.fl.ln
theorem FlAt.new (V : List ByteArray) (m : ByteArray) (hb : b ≤ 400) : FlAt V b m [] 0 0 [] := by
  have e1 : La.optP [] 1 = none := by decide
  have e2 : La.dblOf [] = [] := by decide
  refine ⟨⟨rfl, e1.symm, rfl, by rw [e2]; rfl, (fun x hx => by cases hx), rfl, .nil, fun x hx => (by cases hx), ?_⟩, rfl, hb⟩
  rw [e1, e2]; rfl
theorem fits_two {ms : List Int} (hb : b ≤ 400) (h : ptsOk b ms = true) : La.fitsE ms = 0 ∨ La.fitsE ms = 12 := by
  cases hz : La.zeroB (ms.drop 76) with
  | false => exact .inr (La.fitsE_large hz)
  | true =>
    refine .inl (La.fitsE_ok hz (La.rangeB_t fun k hk => ?_))
    rcases getD_or ms k with e | e
    · omega
    · exact pts_range (by omega) h _ e
end
section
variable {w0 w : World} {B d q p pd pm k c : Nat} {F : Bxs} {N : Nat} {D V : List ByteArray} {b : Nat} {m : ByteArray} {zs L : List Int} {sg db : Int} {g : Nat}
/-- Save of a file, where there is room. -/
def RetSv (w0 w : World) (B d q p pd pm k c : Nat) (F : Bxs) (N : Nat) (D V : List ByteArray) (b : Nat) (m : ByteArray) (L ms : List Int) (e : Ending) (w' : World) : Prop :=
  ∃ g' sg' db' L' V' m', e = .returned (.tuple #[cdv (mkC ms sg' db') (some ⟨g', 0, none⟩) 4 4 none 0 0, .int .i64 0]) ∧ Dk w0 w' B d q p pd pm k c (fbox g' ms :: F) N D V' ∧ Crd V' b m' ∧ FlAt V' b m' ms sg' db' L' ∧ fcn m' b + need ms = fcn m b + L.length ∧
    ∀ i : Int, 51 ≤ i → bitN m i.toNat = true → i ∉ L → bitN m' i.toNat = true ∧ i ∉ L' ∧ bA V' i = bA V i
theorem ret_sv (hc : Crd V b m) (hf : FlAt V b m zs sg db L) {ms : List Int} (hp : ptsOk b ms = true) (hr : need ms ≤ fcn m b + L.length) {g' : Nat} {w' : World} (hd : Dk w0 w' B d q p pd pm k c (fbox g' ms :: F) N D (svQ V L ms).1) {e : Ending} (he : e = .returned (.tuple #[cdv { mkC zs sg db with ps := La.pieceOf ms 0, sg := (svP V L ms).2, db := (svQ V L ms).2 } (some ⟨g', 0, none⟩) 4 4 none 0 0, .int .i64 0])) : RetSv w0 w B d q p pd pm k c F N D V b m L ms e w' := by
  obtain ⟨m', L', h1, h2, h3, h4⟩ := save_is hc hf.fl.asc hf.fl.us hp hr
  exact ⟨g', (svP V L ms).2, (svQ V L ms).2, L', _, m', he, hd, h1, ⟨h2, hp, hf.b2⟩, h3, h4⟩
theorem save_fl (h : Dk w0 w B d q p pd pm k c F N D V) (hc : Crd V b m) (hf : FlAt V b m zs sg db L) (hg : w.heap[g]? = some (.cells (La.ints (La.pieceOf zs 0)).toArray 3 (0, 0))) (A2 : Option Addr) (n cp B2 : Nat) (ms : List Int) (hm : IntsAt w B2 A2 n ms) (hB2 : B2 ≤ w.heap.size) (hn : n ≤ 1000) (hcp : n ≤ cp) (hE : La.fitsE ms = 0) (hp : ptsOk b ms = true) (hr : need ms ≤ fcn m b + L.length) :
    Calls Tryz.prog 13 #[.pointer (some ⟨d, 0, none⟩), cdv (mkC zs sg db) (some ⟨g, 0, none⟩) 4 4 none 0 0, .slice A2 n cp] w (RetSv w0 w B d q p pd pm k c F N D V b m L ms) :=
  (save_ok h hc (hf.at_ hg) A2 n cp B2 ms hm hB2 hn hcp hE hp hr).mono fun e w' ⟨g', he, hd⟩ => ret_sv hc hf hp hr hd he
theorem drop_fl (h : Dk w0 w B d q p pd pm k c F N D V) (hc : Crd V b m) (hf : FlAt V b m zs sg db L) (hg : w.heap[g]? = some (.cells (La.ints (La.pieceOf zs 0)).toArray 3 (0, 0))) :
    Calls Tryz.prog 21 #[.pointer (some ⟨d, 0, none⟩), cdv (mkC zs sg db) (some ⟨g, 0, none⟩) 4 4 none 0 0] w (RetSv w0 w B d q p pd pm k c F N D V b m L []) :=
  (drop_any h hc (hf.at_ hg)).mono fun e w' ⟨g', he, hd⟩ => ret_sv hc hf rfl (by rw [show need [] = 0 by decide]; exact Nat.zero_le _) hd he
theorem free_fl (h : Dk w0 w B d q p pd pm k c F N D V) (hc : Crd V b m) :
    Calls Tryz.prog 12 #[.pointer (some ⟨d, 0, none⟩)] w fun e w' => e = .returned (.tuple #[.int .i64 (fcn m b : Nat), .int .i64 0]) ∧ Below w.heap.size w w' := by
  have := free_dk h
  obtain ⟨c1, c2⟩ := hc.free
  rwa [c1, c2] at this
theorem changed_dk (h : Dk w0 w B d q p pd pm k c F N D V) :
    Calls Tryz.prog 11 #[.pointer (some ⟨d, 0, none⟩)] w fun e w' => ∃ g, e = .returned (.slice (some ⟨g, 0, none⟩) (diffL V D).length (diffL V D).length) ∧ w.heap.size ≤ g ∧ La.IntRow w' g (diffL V D) ∧ Below w.heap.size w w' := by
  obtain ⟨v, dv⟩ := h.ex
  exact changed_dv B d q p pd pm k c D V v w dv
end

/-! ### lives -/
def lvZ : List Int := [60, 0, 61, 0, 0, 62]
theorem lv_fit : La.fitsE lvZ = 0 := by decide
theorem lv_pts : ptsOk ((100 : Nat) : Int) lvZ = true := by decide
theorem lv_need : need lvZ = 1 := by decide
theorem lv_whole : (La.wholeOf lvZ).getD 0 0 = 60 ∧ (La.wholeOf lvZ).getD 2 0 = 61 ∧ (La.wholeOf lvZ).getD 5 0 = 62 := by decide
theorem lv_sg : (svP (V0 100) [] lvZ).2 = 51 := by
  have hcr := V0_crd (n := 100) (by omega) (by omega)
  have hfn : fcn (marksK (100 : Nat)) 100 = 49 := fcn_new 100 (by omega) 49 (by omega)
  obtain ⟨n, n1, n2, n3, n4, n5, _⟩ := (Tkn.start hcr).take (by rw [hfn]; omega)
  have e1 : ((La.optP lvZ 1).getD []).length = 8 := by decide
  unfold svP stL
  rw [if_neg (by rw [e1]; decide)]
  show rnA (V0 100) 1 = 51
  rw [n4]
  rcases Nat.lt_or_ge 51 n with h | h
  · have := n5 51 (Nat.le_refl _) h
    rw [bit_marks _ _ (by omega)] at this
    simp at this
  · omega
def RetLv (w0 w : World) (B d q p pd pm : Nat) (e : Ending) (w' : World) : Prop :=
  ∃ g' db' L' V' m', e = .returned (.tuple #[cdv (mkC lvZ 51 db') (some ⟨g', 0, none⟩) 4 4 none 0 0, .int .i64 0]) ∧ Dk w0 w' B d q p pd pm 0 0 [fbox g' lvZ] 100 (newD 100) V' ∧ Crd V' 100 m' ∧ FlAt V' 100 m' lvZ 51 db' L'
theorem save_lv {w0 w : World} {B d q p pd pm : Nat} (h : Dk w0 w B d q p pd pm 0 0 [] 100 (newD 100) (V0 100)) {g : Nat} (hg : La.IntRow w g [0, 0, 0, 0]) (A2 : Option Addr) (hm : IntsAt w w.heap.size A2 6 lvZ) :
    Calls Tryz.prog 13 #[.pointer (some ⟨d, 0, none⟩), cdv (mkC [] 0 0) (some ⟨g, 0, none⟩) 4 4 none 0 0, .slice A2 6 6] w (RetLv w0 w B d q p pd pm) := by
  have hcr := V0_crd (n := 100) (by omega) (by omega)
  have hfn : fcn (marksK (100 : Nat)) 100 = 49 := fcn_new 100 (by omega) 49 (by omega)
  have hf := FlAt.new (b := 100) (V0 100) (marksK (100 : Nat)) (by omega)
  have e0 : La.pieceOf [] 0 = [0, 0, 0, 0] := by decide
  have hr : need lvZ ≤ fcn (marksK (100 : Nat)) 100 + ([] : List Int).length := by rw [hfn, lv_need]; decide
  refine (save_ok h hcr (hf.at_ (g := g) (by rw [e0]; exact hg)) A2 6 6 w.heap.size lvZ hm (Nat.le_refl _) (by omega) (by omega) lv_fit lv_pts hr).mono fun e w' ⟨g', he, hd⟩ => ?_
  obtain ⟨m', L', h1, h2, h3, h4⟩ := save_is hcr hf.fl.asc hf.fl.us lv_pts hr
  rw [lv_sg] at he h2
  exact ⟨g', _, L', _, m', he, hd, h1, ⟨h2, lv_pts, hf.b2⟩⟩
theorem lives14_any (w : World) : Calls Tryz.prog 7 #[] w fun e w' => e = .returned (.bool true) ∧ Below w.heap.size w w' := by
  have HBG := Lib.hid (begin14_any 100 w (by omega) (by omega))
  unfold RetBg at HBG
  rw [show ((100 : Nat) : Int) = 100 from rfl] at HBG
  have HFR := Lib.hid fresh_any
  rw [frC_is] at HFR
  have e6 : (La.ints lvZ).toArray = #[.int .i64 60, .int .i64 0, .int .i64 61, .int .i64 0, .int .i64 0, .int .i64 62] := rfl
  have HWH := Lib.hid lv_whole
  have HLN := Lib.hid (La.wholeOf_len lvZ)
  go_enter Tryz.func7, Tryz.ntmps7
  go_wp2_with (first
    | (go_at_call 8; refine HBG.out.mono ?_; rintro e w2 ⟨B, d, q, p, pd, pm, rfl, d2⟩
       have HD2 := Lib.hid d2
       clear d2)
    | (go_at_call 9; refine (HFR.out w2).mono ?_; rintro e w3 ⟨g, hg, rfl, row, b3⟩
       have hal := (Below.refl w3.heap.size w3).alloc (Nat.le_refl _) (.cells (La.ints lvZ).toArray 3)
       have hrow := La.IntRow.new w3 lvZ
       have HSV := Lib.hid (save_lv ((HD2.out.below b3).below hal) (row.below hal row.lt) (some ⟨w3.heap.size, 0, none⟩) (hrow.ints (by unfold La.Fit lvZ; decide) hrow.lt))
       rw [e6] at HSV
       clear b3 row hal hrow hg)
    | (go_at_call 13; refine HSV.out.mono ?_; rintro e w5 ⟨g', db', L', V', m', rfl, d5, c5, f5⟩
       have hal := (Below.refl w5.heap.size w5).alloc (Nat.le_refl _) (.cells (cells9 (mkC lvZ 51 db') (some ⟨g', 0, none⟩) 4 4 none 0 0) 30)
       have HC6 : Hid (CdRow (w5.alloc (.cells (cells9 (mkC lvZ 51 db') (some ⟨g', 0, none⟩) 4 4 none 0 0) 30)) w5.heap.size (mkC lvZ 51 db') (some ⟨g', 0, none⟩) 4 4 none 0 0) := CdRow.new _ _ _ _ _ _ _ _
       have d6 := d5.below hal
       have HL6 := Lib.hid (load_of d6 c5 (f5.at_ d6.box))
       have HD6 := Lib.hid d6.hb
       unfold cells9 mkC at HC6 HL6 HD6
       simp only at HC6 HL6 HD6
       obtain ⟨e0, e1, e2, e3, e4, e5, e6', e7, e8⟩ := HC6.out.cells
       clear d5 c5 f5 hal d6)
    | (go_at_call 16; refine HL6.out.mono ?_; rintro e w7 ⟨g2, hg2, rfl, row, b7⟩
       have HB7 := Lib.hid (HD6.out.trans (b7.mono HD6.out.size))
       have HC7 := Lib.hid (HC6.out.below b7 HC6.out.lt)
       clear e0 e1 e2 e3 e4 e5 e6' e7 e8
       obtain ⟨e0, e1, e2, e3, e4, e5, e6', e7, e8⟩ := HC7.out.cells
       have m0 := row.cell 0 (by rw [HLN.out]; omega)
       have m2 := row.cell 2 (by rw [HLN.out]; omega)
       have m5 := row.cell 5 (by rw [HLN.out]; omega)
       rw [HWH.out.1] at m0
       rw [HWH.out.2.1] at m2
       rw [HWH.out.2.2] at m5
       clear b7 row))
  go_ret
  exact ⟨rfl, HB7.out⟩
end Go.Proofs.YtppbonjhckakiaaGreat.Dl
