import Derived.Test.YtppbonjhckakiaaGreatHG
/-
  WALK: storeDouble, on a deal with a crown. Condition: a deal on a calm slab.
-/
set_option linter.unusedVariables false
set_option linter.unusedSimpArgs false
set_option maxRecDepth 100000
set_option maxHeartbeats 4000000
namespace Go.Proofs.YtppbonjhckakiaaGreat.Dl
open Go.RowKit
open Mk
open Sl (Turns)
open Kr (crv rightK kf kb kc KBox cells3 I64 inB)
open La (OwnLst nilS NewLst DblSt)
section
variable {w0 w : World} {B d q p pd pm k c : Nat} {F : Bxs} {N : Nat} {D V : List ByteArray} {b : Nat} {m : ByteArray}
theorem stT_len (V : List ByteArray) (ls : List (Option (List Int))) : ∀ t, (stT V ls t).2.length = t
  | 0 => rfl
  | t + 1 => by show ((stT V ls t).2 ++ [_]).length = _; rw [List.length_append, stT_len V ls t]; rfl
theorem storedouble_any (h : Dk w0 w B d q p pd pm k c F N D V) (v : Value) (st : Nat → Option (List Int)) (hv : DblF F v st) (hz : ∀ j, j < 8 → ∀ l, st j = some l → (∀ z ∈ l, La.Fit z) ∧ l.length ≤ 1000) (hI : (La.dblL st).length ≠ 0 → ∀ t, t ≤ 8 → ∀ z ∈ (stT (rnV V 1) (La.dblL st) t).2, La.Fit z) :
    Calls Tryz.prog 42 #[.pointer (some ⟨d, 0, none⟩), v] w fun e w' => e = .returned (.int .i64 (stD V (La.dblL st)).2) ∧ Dk w0 w' B d q p pd pm k c F N D (stD V (La.dblL st)).1 := by
  have hdl := La.dblL_len st
  rcases hv with ⟨rfl, hn⟩ | ⟨g, us, rfl, hus, hg, hin, hex⟩
  · have ha : La.anyB st = false := by
      cases e : La.anyB st with
      | false => rfl
      | true => obtain ⟨j, hj, hx⟩ := (La.anyB_iff st).1 e; exact absurd (hn j hj) hx
    rw [ha] at hdl
    have hdl : (La.dblL st).length = 0 := hdl
    have e : stD V (La.dblL st) = (V, 0) := by unfold stD; rw [if_pos hdl]
    rw [e]
    simp only
    have HD := Lib.hid h
    clear h hn hz hI hdl ha e
    unfold nilS
    go_enter Tryz.func42, Tryz.ntmps42
    go_wp2
    go_ret
    exact ⟨rfl, HD.out⟩
  · have ha : La.anyB st = true := (La.anyB_iff st).2 hex
    rw [ha, if_pos rfl] at hdl
    have e : stD V (La.dblL st) = (wrV (stT (rnV V 1) (La.dblL st) 8).1 (rnA V 1) (La.writeL (stT (rnV V 1) (La.dblL st) 8).2).1, rnA V 1) := by unfold stD; rw [hdl]; rfl
    rw [e]
    simp only
    have HT := Lib.hid (take_dk h)
    have HG : Hid ((g, us.toArray, 27) ∈ F) := hg
    have HST : Hid (∀ W V', Dk w0 W B d q p pd pm k c F N D V' → ∀ E, Bxs.fit E W → ∀ t, t < 8 → Calls Tryz.prog 41 #[.pointer (some ⟨d, 0, none⟩), us.getD t nilS] W fun e w' => e = .returned (.int .i64 (stL V' ((st t).getD [])).2) ∧ Dk w0 w' B d q p pd pm k c (E ++ F) N D (stL V' ((st t).getD [])).1) := fun W V' hd E hE t ht =>
      storelist_any (hd.with (hE.app hd.fx)) _ (st t) ((hin t ht).mono fun x hx => List.mem_append_right _ hx) (hz t ht)
    have HFM : Hid (∀ t, t < 8 → ∃ A cp, us.getD t nilS = .slice A ((st t).getD []).length cp) := fun t ht => (hin t ht).form
    have HS1 : Hid (∀ t, t < 8 → stT (rnV V 1) (La.dblL st) (t + 1) = ((stL (stT (rnV V 1) (La.dblL st) t).1 ((st t).getD [])).1, (stT (rnV V 1) (La.dblL st) t).2 ++ [(stL (stT (rnV V 1) (La.dblL st) t).1 ((st t).getD [])).2])) := fun t ht => by
      show (_, _) = _
      rw [La.dblL_get st t ht]
    have HI := Lib.hid (hI (by rw [hdl]; decide))
    have HLN := Lib.hid (stT_len (rnV V 1) (La.dblL st))
    have HUL := Lib.hid hus
    have HV1 : Hid ((stT (rnV V 1) (La.dblL st) 0).1 = rnV V 1 ∧ (stT (rnV V 1) (La.dblL st) 0).2 = []) := ⟨rfl, rfl⟩
    clear h hz hI hdl ha e hin hex hg hus
    generalize stT (rnV V 1) (La.dblL st) = S at *
    generalize rnV V 1 = V1 at *
    generalize rnA V 1 = a at *
    generalize rnE V 1 = z at *
    go_enter Tryz.func42, Tryz.ntmps42
    go_wp2_with (go_at_call 75; refine HT.out.mono ?_; rintro e w2 ⟨rfl, d2⟩; have HD2 := Lib.hid d2; clear d2)
    go_loopw [7, 9, 20] (fun dv _ i wr => ∃ t : Nat, t ≤ 8 ∧ i = .int .i64 (t : Int) ∧ Hid (wr.ownsRow (bsF F B) 3 1 dv (S t).2.length (La.ints (S t).2)) ∧ Hid (Dk w0 wr B d q p pd pm k c F N D (S t).1)) (fun _ _ i _ => 8 - (intOf i).toNat)
    case atStart => exact ⟨0, by omega, rfl, by rw [HV1.out.2]; exact World.ownsRow_nil _ _ _ _, by rw [HV1.out.1]; exact HD2.out⟩
    case round =>
      obtain ⟨t, ht, rfl, hown, hd⟩ := hrel
      obtain ⟨A1, c1, rfl, hc1⟩ := La.own_slice hown.out
      by_cases hlt : t < 8
      · have hlt2 : (t : Int) < 8 := by omega
        have hcell : wr.cell? ⟨g, t, none⟩ = some (us.getD t nilS) := by
          rw [cell_of_row wr g t _ 27 _ (hd.out.fx _ HG.out).1, List.getElem?_toArray]
          simp [List.getD, List.getElem?_eq_getElem (show t < us.length by rw [HUL.out]; exact hlt)]
        obtain ⟨A2, c2, e2⟩ := HFM.out t hlt
        rw [e2] at hcell
        obtain ⟨E, hE1, hE2, hE3⟩ := own_fr hown.out
        have HST2 := Lib.hid (HST.out wr _ hd.out E hE1 t hlt)
        rw [e2] at HST2
        have HE3 := Lib.hid hE3
        have HS2 := Lib.hid (HS1.out t hlt)
        have HLT := Lib.hid (HLN.out t)
        generalize hx : stL (S t).1 ((st t).getD []) = x at *
        obtain ⟨V2, xn⟩ := x
        simp only at HST2 HS2
        generalize hbs : (S t).2 = bs at *
        have HBS := Lib.hid hbs
        have hbl : bs.length ≤ 8 := by have := HLT.out; omega
        generalize ((st t).getD []).length = ln at *
        clear hx hbs hE1 hE2 hE3 hd e2
        go_wp2_with (first
          | (go_at_call 41; refine HST2.out.mono ?_; rintro e w7 ⟨rfl, d7⟩
             have HO7 := Lib.hid (HE3.out w7 (d7.fx.sub fun x hx => List.mem_append_left _ hx))
             have HD7 := Lib.hid (d7.with (E := F) (d7.fx.sub fun x hx => List.mem_append_right _ hx))
             have HB7 := Lib.hid HD7.out.bs
             clear d7 hcell)
          | (at_builtin
             refine pushT_law rfl (.tmp 24) (.tmp 28) rfl (bsF F B) _ (.slice A1 bs.length c1) bs xn rfl rfl HO7.out (by omega) HB7.out ?_
             intro v' w8 hown8 hown7 hg8
             have HO8 := Lib.hid hown8
             have HD8 := Lib.hid ((HD7.out.below ((Below.refl w7.heap.size w7).alloc (Nat.le_refl _) _)).grown hown7 hg8 (bsF_B F B) (bsF_lt F B))
             clear hown8 hown7 hg8))
        go_roundw
        case rel => exact ⟨t + 1, by omega, by go_num, by show World.ownsRow _ _ _ _ _ _ _; rw [HS2.out]; exact HO8.out, by show Dk _ _ _ _ _ _ _ _ _ _ _ _ _ _; rw [HS2.out]; exact HD8.out⟩
        case measure => simp [intOf]; omega
      · obtain rfl : t = 8 := by omega
        rw [show ((8 : Nat) : Int) = 8 from rfl]
        have HIT := Lib.hid (La.IntsAt.of_own hown.out rfl (HI.out 8 (Nat.le_refl _)))
        have hl8 := HLN.out 8
        have HWR := Lib.hid (writelist_any hd.out a A1 (S 8).2.length c1 wr.heap.size (S 8).2 HIT.out (Nat.le_refl _) (by omega))
        clear hd hown
        obtain ⟨n8, hn8⟩ : ∃ n8, (S 8).2.length = n8 := ⟨_, rfl⟩
        rw [hn8] at HWR ⊢
        clear HIT hl8 HST HFM HS1 HUL HLN HI HV1 hn8
        generalize hq2 : (S 8).2 = bs at *
        generalize hq1 : (S 8).1 = V3 at *
        have HQ : Hid ((S 8).2 = bs ∧ (S 8).1 = V3) := ⟨hq2, hq1⟩
        clear HT HD2 HG hq1 hq2
        go_wp2_with (go_at_call 76; refine HWR.out.mono ?_; rintro e w9 ⟨rfl, d9⟩)
        go_ret
        rw [HQ.out.1, HQ.out.2]
        exact ⟨rfl, d9⟩
end
end Go.Proofs.YtppbonjhckakiaaGreat.Dl

/-
  WALK: Save where it has an error: the map is too large, or there is no room. Condition: a deal on a calm slab, a file's card.
-/
set_option linter.unusedVariables false
set_option linter.unusedSimpArgs false
set_option maxRecDepth 100000
set_option maxHeartbeats 4000000
namespace Go.Proofs.YtppbonjhckakiaaGreat.Dl
open Go.RowKit
open Mk
open Sl (Turns)
open Kr (crv rightK kf kb kc KBox cells3 I64 inB)
open La (OwnLst nilS NewLst DblSt)

/-- a file's card: a card of format One whose pointers say a map. -/
structure OneAt (w : World) (Bc : Nat) (V : List ByteArray) (b : Nat) (m : ByteArray) (x : Cd) (A : Option Addr) (kp : Nat) (zs L : List Int) : Prop where
  cd : CdAt w Bc (cdv x A 4 kp none 0 0) x
  hB : Bc ≤ w.heap.size
  one : isOne x = true
  ps : x.ps = La.pieceOf zs 0
  fl : FileAt V b m x.sg x.db zs L
  pt : ptsOk b zs = true
section
variable {w w' : World} {Bc : Nat} {V : List ByteArray} {b : Nat} {m : ByteArray} {x : Cd} {A : Option Addr} {kp : Nat} {zs L : List Int}
theorem OneAt.below (h : OneAt w Bc V b m x A kp zs L) (hb : Below w.heap.size w w') : OneAt w' Bc V b m x A kp zs L := ⟨h.cd.below hb h.hB, Nat.le_trans h.hB hb.size, h.one, h.ps, h.fl, h.pt⟩
end
section
variable {w0 w : World} {B d q p pd pm k c : Nat} {F : Bxs} {N : Nat} {D V : List ByteArray} {b : Nat} {m : ByteArray}
/-- Lists of a file's card. -/
theorem lists_of (h : Dk w0 w B d q p pd pm k c F N D V) (hc : Crd V b m) {Bc : Nat} {x : Cd} {A : Option Addr} {kp : Nat} {zs L : List Int} (hf : OneAt w Bc V b m x A kp zs L) :
    Calls Tryz.prog 17 #[.pointer (some ⟨d, 0, none⟩), cdv x A 4 kp none 0 0] w fun e w' => ∃ gd c2, e = .returned (.tuple #[.slice (some ⟨gd, 0, none⟩) L.length c2, .int .i64 0]) ∧ (w.heap.size ≤ gd ∧ ∃ cur, w'.heap[gd]? = some (.cells cur 3 (0, 0))) ∧ IntsAt w' w'.heap.size (some ⟨gd, 0, none⟩) L.length L ∧ Below w.heap.size w w' := by
  have h1 := lists_any h hc x A 4 kp none 0 0 Bc hf.cd hf.hB
  unfold RetLists at h1
  have h2 := hf.fl.load hf.pt
  rw [← hf.ps] at h2
  simp only [if_pos hf.one, if_pos h2.1, hf.fl.eL] at h1
  exact h1
/-- Load of a file's card. -/
theorem load_of (h : Dk w0 w B d q p pd pm k c F N D V) (hc : Crd V b m) {Bc : Nat} {x : Cd} {A : Option Addr} {kp : Nat} {zs L : List Int} (hf : OneAt w Bc V b m x A kp zs L) :
    Calls Tryz.prog 16 #[.pointer (some ⟨d, 0, none⟩), cdv x A 4 kp none 0 0] w fun e w' => ∃ g, w.heap.size ≤ g ∧ e = .returned (.tuple #[.slice (some ⟨g, 0, none⟩) 76 76, .int .i64 0]) ∧ La.IntRow w' g (La.wholeOf zs) ∧ Below w.heap.size w w' := by
  have h1 := loadf_any h hc x A 4 kp none 0 0 Bc hf.cd hf.hB
  unfold RetLoad at h1
  have h2 := hf.fl.load hf.pt
  rw [← hf.ps] at h2
  simp only [if_pos hf.one, if_pos h2.1, h2.2] at h1
  exact h1
theorem save_err (h : Dk w0 w B d q p pd pm k c F N D V) (hc : Crd V b m) {Bc : Nat} {x : Cd} {A : Option Addr} {kp : Nat} {zs L : List Int} (hf : OneAt w Bc V b m x A kp zs L) (A2 : Option Addr) (n cp B2 : Nat) (ms : List Int) (hm : IntsAt w B2 A2 n ms) (hB2 : B2 ≤ w.heap.size) (hn : n ≤ 1000) (hcp : n ≤ cp) (E : Int) (hE : La.fitsE ms = E) (h0 : E = 3 ∨ E = 12) :
    Calls Tryz.prog 13 #[.pointer (some ⟨d, 0, none⟩), cdv x A 4 kp none 0 0, .slice A2 n cp] w fun e w' => e = .returned (.tuple #[cdv zeroC none 0 0 none 0 0, .int .i64 E]) ∧ Below w.heap.size w w' := by
  have HB1 : Below w.heap.size w (w.alloc (.cells (cells9 x A 4 kp none 0 0) 30)) := (Below.refl _ _).alloc (Nat.le_refl _) _
  have HB2 := Lib.hid (HB1.alloc HB1.size (.cells (cells9 zeroC none 0 0 none 0 0) 30))
  have HC2 : Hid (CdRow ((w.alloc (.cells (cells9 x A 4 kp none 0 0) 30)).alloc (.cells (cells9 zeroC none 0 0 none 0 0) 30)) w.heap.size x A 4 kp none 0 0) := (CdRow.new w x A 4 kp none 0 0).below ((Below.refl (w.alloc (.cells (cells9 x A 4 kp none 0 0) 30)).heap.size _).alloc (Nat.le_refl _) _) (by simp)
  have HR2 : Hid (CdRow ((w.alloc (.cells (cells9 x A 4 kp none 0 0) 30)).alloc (.cells (cells9 zeroC none 0 0 none 0 0) 30)) (w.heap.size + 1) zeroC none 0 0 none 0 0) := by
    have h1 := CdRow.new (w.alloc (.cells (cells9 x A 4 kp none 0 0) 30)) zeroC none 0 0 none 0 0
    rwa [show (w.alloc (.cells (cells9 x A 4 kp none 0 0) 30)).heap.size = w.heap.size + 1 by simp] at h1
  have HLS := Lib.hid (fun W (hW : Below w.heap.size w W) => lists_of (h.below hW) hc (hf.below hW))
  have HOF := Lib.hid (fun W (hW : Below w.heap.size w W) => La.of_err E A2 n cp B2 ms W (hm.below hW hB2) (Nat.le_trans hB2 hW.size) hn hcp hE h0)
  have hE0 : (E != 0) = true := bne_iff_ne.2 (by omega)
  clear h hc hf hm hE h0 HB1 hB2 hn hcp
  unfold cells9 zeroC at HB2 HC2 HR2
  simp only at HB2 HC2 HR2
  unfold nilS at HOF
  go_enter Tryz.func13, Tryz.ntmps13
  go_upto_region 1 with fail
  generalize hW2 : (w.alloc _).alloc _ = W2 at *
  clear hW2
  obtain ⟨e0, e1, e2, e3, e4, e5, e6, e7, e8⟩ := HC2.out.cells
  go_wp2_with (first
    | (go_at_call 17; refine (HLS.out W2 HB2.out).mono ?_; rintro e w3 ⟨gd, c2, rfl, -, -, b3⟩
       have HB3 := Lib.hid (HB2.out.trans (b3.mono HB2.out.size))
       have HR3 := Lib.hid (HR2.out.below b3 HR2.out.lt)
       clear b3 e0 e1 e2 e3 e4 e5 e6 e7 e8)
    | (go_at_call 33; refine (HOF.out w3 HB3.out).mono ?_; rintro e w4 ⟨rfl, b4⟩
       have HB4' := HB3.out.trans (b4.mono HB3.out.size)
       have HB4 := Lib.hid (HB4'.alloc HB4'.size (.cells #[.slice none 0 0, .slice none 0 0, .slice none 0 0] 74))
       have HR4 := Lib.hid ((HR3.out.below b4 HR3.out.lt).below ((Below.refl w4.heap.size w4).alloc (Nat.le_refl _) (.cells #[.slice none 0 0, .slice none 0 0, .slice none 0 0] 74)) (HR3.out.below b4 HR3.out.lt).lt)
       obtain ⟨r0, r1, r2, r3, r4, r5, r6, r7, r8⟩ := HR4.out.cells
       have zr := HR4.out.fz
       clear b4 HB4'))
  clear r0 r1 r2 r3 r4 r5 r6 r7 r8 zr
  have HR8 : Hid (CdRow (put9 (w4.alloc (.cells #[.slice none 0 0, .slice none 0 0, .slice none 0 0] 74)) (w.heap.size + 1) zeroC none 0 0 none 0 0) (w.heap.size + 1) zeroC none 0 0 none 0 0) := put9_row HR4.out
  have HB8 : Hid (Below w.heap.size w (put9 (w4.alloc (.cells #[.slice none 0 0, .slice none 0 0, .slice none 0 0] 74)) (w.heap.size + 1) zeroC none 0 0 none 0 0)) := put9_below HB4.out (by omega)
  unfold put9 zeroC at HR8 HB8
  simp only at HR8 HB8
  generalize World.setCell _ ⟨w.heap.size + 1, 8, none⟩ _ = wz at *
  obtain ⟨r0, r1, r2, r3, r4, r5, r6, r7, r8⟩ := HR8.out.cells
  refine bodyPost_ret (v := .tuple #[cdv zeroC none 0 0 none 0 0, .int .i64 E]) (by simp [results, Tryz.results13, go_sem, r0, r1, r2, r3, r4, r5, r6, r7, r8, zeroC]) rfl ?_
  exact ⟨rfl, HB8.out⟩
theorem need_le (zs : List Int) : need zs ≤ 10 := by
  unfold need La.blocksN
  have h1 := La.dblL_len (fun j => La.optP zs (j + 2))
  have h2 := La.cntTo_le (La.dblOf zs) (La.dblOf zs).length
  have h3 : (La.dblOf zs).length ≤ 8 := by rw [h1]; split <;> omega
  split <;> split <;> omega
theorem newlst_form {base : Nat} {w : World} {v : Value} {o : Option (List Int)} (h : NewLst base w v o) : ∃ A cp, v = .slice A (o.getD []).length cp := by
  cases o with
  | none => exact ⟨none, 0, h⟩
  | some l => obtain ⟨g, _, h1, _⟩ := h; exact ⟨_, _, h1⟩
theorem save_space (h : Dk w0 w B d q p pd pm k c F N D V) (hc : Crd V b m) {Bc : Nat} {x : Cd} {A : Option Addr} {kp : Nat} {zs L : List Int} (hf : OneAt w Bc V b m x A kp zs L) (A2 : Option Addr) (n cp B2 : Nat) (ms : List Int) (hm : IntsAt w B2 A2 n ms) (hB2 : B2 ≤ w.heap.size) (hn : n ≤ 1000) (hcp : n ≤ cp) (hE : La.fitsE ms = 0) (hp : ptsOk b ms = true) (hr : fcn m b + L.length < need ms) :
    Calls Tryz.prog 13 #[.pointer (some ⟨d, 0, none⟩), cdv x A 4 kp none 0 0, .slice A2 n cp] w fun e w' => e = .returned (.tuple #[cdv zeroC none 0 0 none 0 0, .int .i64 10]) ∧ Below w.heap.size w w' := by
  have HB1 : Below w.heap.size w (w.alloc (.cells (cells9 x A 4 kp none 0 0) 30)) := (Below.refl _ _).alloc (Nat.le_refl _) _
  have HB2 := Lib.hid (HB1.alloc HB1.size (.cells (cells9 zeroC none 0 0 none 0 0) 30))
  have HC2 : Hid (CdRow ((w.alloc (.cells (cells9 x A 4 kp none 0 0) 30)).alloc (.cells (cells9 zeroC none 0 0 none 0 0) 30)) w.heap.size x A 4 kp none 0 0) := (CdRow.new w x A 4 kp none 0 0).below ((Below.refl (w.alloc (.cells (cells9 x A 4 kp none 0 0) 30)).heap.size _).alloc (Nat.le_refl _) _) (by simp)
  have HR2 : Hid (CdRow ((w.alloc (.cells (cells9 x A 4 kp none 0 0) 30)).alloc (.cells (cells9 zeroC none 0 0 none 0 0) 30)) (w.heap.size + 1) zeroC none 0 0 none 0 0) := by
    have h1 := CdRow.new (w.alloc (.cells (cells9 x A 4 kp none 0 0) 30)) zeroC none 0 0 none 0 0
    rwa [show (w.alloc (.cells (cells9 x A 4 kp none 0 0) 30)).heap.size = w.heap.size + 1 by simp] at h1
  have HLS := Lib.hid (fun W (hW : Below w.heap.size w W) => lists_of (h.below hW) hc (hf.below hW))
  have HOF := Lib.hid (fun W (hW : Below w.heap.size w W) => La.of_ok A2 n cp B2 ms W (hm.below hW hB2) (Nat.le_trans hB2 hW.size) hn hcp hE)
  unfold La.RetOf at HOF
  have hk : rightK (crF V) (b : Int) (crC V) = true := by have := (cr_b hc.ok).1; rwa [hc.cb] at this
  have HCR := Lib.hid (fun W (hW : Below w.heap.size w W) => crown_dk (h.below hW) hc)
  have HAB := Lib.hid (fun W (hW : Below w.heap.size w W) => areblocks_any (crF V) b (crC V) A2 n cp B2 ms W hk (hm.below hW hB2) (Nat.le_trans hB2 hW.size) hn)
  rw [hp] at HAB
  have HLA := Lib.hid hf.fl.asc
  have HLL : Hid (L.length ≤ 10) := by have h1 := hf.fl.ln; have h2 := need_le zs; unfold need at h2; show _ ≤ _; omega
  have HCN := Lib.hid (fun W (hW : Below w.heap.size w W) A n cp Bl hA hBl hn => canrep_any (h.below hW) hc A n cp Bl L (need ms) hA hBl hn (by have := need_le ms; omega) hf.fl.us)
  have HNE : Hid (need ms = (if 0 < ((La.optP ms 1).getD []).length then 1 else 0) + (if 0 < (La.dblOf ms).length then 1 else 0) + La.cntTo (La.dblOf ms) (La.dblOf ms).length) := rfl
  have HFO : Hid (∀ k l, La.optP ms k = some l → ∀ z ∈ l, La.Fit z) := fun k l e => La.optP_fit ms hm.2.1 k l e
  have HD8 : Hid ((La.dblOf ms).length ≤ 1000) := by have h1 := La.dblL_len (fun j => La.optP ms (j + 2)); show _ ≤ _; rw [h1]; split <;> omega
  have HRM : Hid ((if fcn m b + L.length < need ms then (10 : Int) else 0) = 10) := if_pos hr
  clear h hc hf hm hE hp hB2 hn hcp hk hr HB1
  unfold cells9 zeroC at HB2 HC2 HR2
  simp only at HB2 HC2 HR2
  unfold crv at HCR HAB
  generalize crF V = f at *
  generalize crC V = u at *
  go_enter Tryz.func13, Tryz.ntmps13
  go_upto_region 1 with fail
  generalize hW2 : (w.alloc _).alloc _ = W2 at *
  clear hW2
  obtain ⟨e0, e1, e2, e3, e4, e5, e6, e7, e8⟩ := HC2.out.cells
  go_wp2_with (first
    | (go_at_call 17; refine (HLS.out W2 HB2.out).mono ?_; rintro e w3 ⟨gd, c2, rfl, ⟨hgd, cur, hcur⟩, hL3, b3⟩
       have HB3 := Lib.hid (HB2.out.trans (b3.mono HB2.out.size))
       have HR3 := Lib.hid (HR2.out.below b3 HR2.out.lt)
       have HC3 := Lib.hid (HC2.out.below b3 HC2.out.lt)
       have HL3 := Lib.hid hL3
       have HU3 := Lib.hid hcur
       have HS3 : Hid (w.heap.size + 2 ≤ w3.heap.size ∧ w.heap.size + 2 ≤ gd) := by have := HR2.out.lt; have := b3.size; exact ⟨by omega, by omega⟩
       clear b3 hL3 hcur hgd e0 e1 e2 e3 e4 e5 e6 e7 e8)
    | (go_at_call 33; refine (HOF.out w3 HB3.out).mono ?_; rintro e w4 ⟨v1, v2, v3, rfl, n1, n2, n3, b4⟩
       have HB4' := HB3.out.trans (b4.mono HB3.out.size)
       obtain ⟨X1, y1, rfl⟩ := newlst_form n1
       obtain ⟨X2, y2, rfl⟩ := newlst_form n2
       have HLT4 := Lib.hid (n3.lists (fun j l _ => HFO.out (j + 2) l))
       obtain ⟨X3, y3, rfl, _⟩ := HLT4.out
       have HN1 := Lib.hid n1
       have HN2 := Lib.hid n2
       have HN3 := Lib.hid n3
       have e4 : (((some (La.pieceOf ms 0) : Option (List Int))).getD []).length = 4 := La.pieceOf_len ms 0 (by omega)
       rw [e4] at HN1 ⊢
       have hal := (Below.refl w4.heap.size w4).alloc (Nat.le_refl _) (.cells #[.slice X1 4 y1, .slice X2 ((La.optP ms 1).getD []).length y2, .slice X3 (La.dblOf ms).length y3] 74)
       have HB4 := Lib.hid (HB4'.trans (hal.mono HB4'.size))
       have HR4 := Lib.hid ((HR3.out.below b4 HR3.out.lt).below hal (HR3.out.below b4 HR3.out.lt).lt)
       have HC4 := Lib.hid ((HC3.out.below b4 HC3.out.lt).below hal (HC3.out.below b4 HC3.out.lt).lt)
       have HL4 := Lib.hid (((HL3.out.below b4 (Nat.le_refl _)).below hal b4.size))
       have HU4 : Hid ((w4.alloc (.cells #[.slice X1 4 y1, .slice X2 ((La.optP ms 1).getD []).length y2, .slice X3 (La.dblOf ms).length y3] 74)).heap[gd]? = some (.cells cur 3 (0, 0))) := by
         have hlt := (Array.getElem?_eq_some_iff.1 HU3.out).1
         have hz4 := b4.size
         exact (hal.block gd (by omega)).trans ((b4.block gd hlt).trans HU3.out)
       have HG4 : Hid (Rg3 (w4.alloc (.cells #[.slice X1 4 y1, .slice X2 ((La.optP ms 1).getD []).length y2, .slice X3 (La.dblOf ms).length y3] 74)) w4.heap.size (.slice X1 4 y1) (.slice X2 ((La.optP ms 1).getD []).length y2) (.slice X3 (La.dblOf ms).length y3)) := Rg3.new w4 _ _ _
       have HZ4 : Hid (w3.heap.size ≤ w4.heap.size) := b4.size
       have HAL4 := Lib.hid hal
       clear b4 HB4' n1 n2 n3 hal e4)
    | (go_at_call 34; refine (HCR.out _ HB4.out).mono ?_; rintro e w5 ⟨rfl, b5⟩
       have hal := (Below.refl w5.heap.size w5).alloc (Nat.le_refl _) (.cells #[.int .i64 f, .int .i64 b, .int .i64 u] 62)
       have HX5 := Lib.hid (b5.trans (hal.mono b5.size))
       have HB5 := Lib.hid (HB4.out.trans (HX5.out.mono HB4.out.size))
       obtain ⟨y0, y1', y2'⟩ := (KBox.new3 w5 f b u).row
       clear b5 hal)
    | (go_at_call 35; refine (HAB.out _ HB5.out).mono ?_; rintro e w6 ⟨rfl, b6⟩
       have HX6 := Lib.hid (HX5.out.trans (b6.mono HX5.out.size))
       clear b6 y0 y1' y2'
       have hL6 := HL4.out.below HX6.out (Nat.le_trans HZ4.out HAL4.out.size)
       have hsz := Nat.le_trans (Nat.le_trans HZ4.out HAL4.out.size) HX6.out.size
       have HSO := Lib.hid (sort_any (some ⟨gd, 0, none⟩) L.length c2 w3.heap.size L w6 hL6 hsz HLA.out (by have := HLL.out; omega))
       clear hL6 hsz)
    | (go_at_call 36; refine HSO.out.mono ?_; rintro e w7 ⟨rfl, b7⟩
       have HX7 := Lib.hid (HX6.out.trans (b7.mono HX6.out.size))
       clear b7
       have hL7 := HL4.out.below HX7.out (Nat.le_trans HZ4.out HAL4.out.size)
       have hsz := Nat.le_trans (Nat.le_trans HZ4.out HAL4.out.size) HX7.out.size
       have HCO := Lib.hid (compact_any (some ⟨gd, 0, none⟩) L.length c2 w3.heap.size L w7 hL7 hsz HLA.out (by have := HLL.out; omega))
       clear hL7 hsz)
    | (go_at_call 37; refine HCO.out.mono ?_; rintro e w8 ⟨rfl, b8⟩
       have HX8 := Lib.hid (HX7.out.trans (b8.mono HX7.out.size))
       clear b8
       obtain ⟨q0, q1, q2⟩ := (HG4.out.below HX8.out HG4.out.lt).cells
       have HBN : Hid (Calls Tryz.prog 39 #[.agg #[.slice X1 4 y1, .slice X2 ((La.optP ms 1).getD []).length y2, .slice X3 (La.dblOf ms).length y3]] w8 fun e w' => e = .returned (.int .i64 ((need ms : Nat) : Int)) ∧ Below w8.heap.size w8 w') := by
         obtain ⟨X, y, e, _, hl, _⟩ := HLT4.out
         injection e with e1 e2 e3
         subst e1
         rw [HNE.out]
         exact La.blocks_base _ X1 X2 X3 4 _ _ y1 y2 y3 w4.heap.size (La.dblOf ms) w8 ((hl.below HAL4.out (Nat.le_refl _)).below HX8.out HAL4.out.size) (Nat.le_trans HAL4.out.size HX8.out.size) HD8.out rfl)
    | (go_at_call 39; refine HBN.out.mono ?_; rintro e w9 ⟨rfl, b9⟩
       have HX9 := Lib.hid (HX8.out.trans (b9.mono HX8.out.size))
       clear b9 q0 q1 q2
       have HB9 := Lib.hid (HB4.out.trans (HX9.out.mono HB4.out.size))
       have hL9 := HL4.out.below HX9.out (Nat.le_trans HZ4.out HAL4.out.size)
       have hsz := Nat.le_trans (Nat.le_trans HZ4.out HAL4.out.size) HX9.out.size
       have HCR9 := Lib.hid (HCN.out w9 HB9.out (some ⟨gd, 0, none⟩) L.length c2 w3.heap.size hL9 hsz (by have := HLL.out; omega))
       simp only [HRM.out] at HCR9
       clear hL9 hsz)
    | (go_at_call 38; refine HCR9.out.mono ?_; rintro e w10 ⟨rfl, b10⟩
       have HX10 := Lib.hid (HX9.out.trans (b10.mono HX9.out.size))
       have HB10 := Lib.hid (HB9.out.trans (b10.mono HB9.out.size))
       have HR10 := Lib.hid (HR4.out.below HX10.out HR4.out.lt)
       clear b10
       obtain ⟨r0, r1, r2, r3, r4, r5, r6, r7, r8⟩ := HR10.out.cells
       have zr := HR10.out.fz))
  clear r0 r1 r2 r3 r4 r5 r6 r7 r8 zr
  have HR8 : Hid (CdRow (put9 w10 (w.heap.size + 1) zeroC none 0 0 none 0 0) (w.heap.size + 1) zeroC none 0 0 none 0 0) := put9_row HR10.out
  have HB8 : Hid (Below w.heap.size w (put9 w10 (w.heap.size + 1) zeroC none 0 0 none 0 0)) := put9_below HB10.out (by omega)
  unfold put9 zeroC at HR8 HB8
  simp only at HR8 HB8
  generalize World.setCell _ ⟨w.heap.size + 1, 8, none⟩ _ = wz at *
  obtain ⟨r0, r1, r2, r3, r4, r5, r6, r7, r8⟩ := HR8.out.cells
  refine bodyPost_ret (v := .tuple #[cdv zeroC none 0 0 none 0 0, .int .i64 10]) (by simp [results, Tryz.results13, go_sem, r0, r1, r2, r3, r4, r5, r6, r7, r8, zeroC]) rfl ?_
  exact ⟨rfl, HB8.out⟩
end
end Go.Proofs.YtppbonjhckakiaaGreat.Dl
