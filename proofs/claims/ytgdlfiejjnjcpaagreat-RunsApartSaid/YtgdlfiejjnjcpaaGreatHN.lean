/-
  WALKS: a file among blocks that a deal doesn't touch: Save, Load, Lists, Drop of it; the law's lives. Condition: a deal on a calm slab.
-/
import Derived.Test.YtgdlfiejjnjcpaaGreatHM
set_option linter.unusedVariables false
set_option linter.unusedSimpArgs false
set_option maxRecDepth 100000
set_option maxHeartbeats 8000000
namespace Go.Proofs.YtgdlfiejjnjcpaaGreat.Dl
open Go.RowKit
open Mk
open Sl (Turns SlabAt)
open Lg (FS LogAt Whole newD newD_len newD_whole newD_get)
open Kr (crv rightK blockK kf kb kc KBox cells3 I64 inB marksK bit_marks marks_size)

/-- a file's card, as New and Save leave it. -/
def mkC (zs : List Int) (ov : Int) : Cd := ⟨2, 1, 1, 0, [], 0, 0, (ofR zs).take 3, ov⟩
theorem frC_is : frC = mkC [] 0 := rfl
/-- the spans of a file's card lie in boxes of E. -/
def KpC (E : Bxs) (A : Option Addr) (n kp : Nat) (zs : List Int) : Prop := KpS E A n ((ofR zs).take 3) ∧ n ≤ kp
theorem KpC.new : KpC [] none 0 0 [] := ⟨fun W _ => SpsAt.nil _ _ _, Nat.le_refl _⟩
/-- a file: its pointers say zs, its lists are the blocks L. -/
structure FlAt (V : List ByteArray) (b : Nat) (m : ByteArray) (zs : List Int) (ov : Int) (L : List Int) : Prop where
  fl : FileAt V b m ov zs L
  pt : ptsOk b zs = true
  sm : smB zs = true
  ln : zs.length ≤ 65536
  b2 : b ≤ 400
theorem right_tk : ∀ (l : List Sp) (p : Option Sp) (n : Nat), rightL p l = true → rightL p (l.take n) = true
  | _, _, 0, _ => by rw [List.take_zero]; rfl
  | [], _, n + 1, _ => rfl
  | a :: l, p, n + 1, h => by
    simp only [rightL, Bool.and_eq_true, List.take_succ_cons] at h ⊢
    exact ⟨h.1, right_tk l (some a) n h.2⟩
section
variable {V W : List ByteArray} {b : Nat} {m m' : ByteArray} {zs L : List Int} {ov : Int}
theorem FlAt.rt (h : FlAt V b m zs ov L) : rightS b (ofR zs) = true := of_right h.b2 h.pt h.sm h.ln
theorem FlAt.ovr (h : FlAt V b m zs ov L) : (0 ≤ ov ∧ ov ≤ 65535) ∧ (ov = 0 ∨ 3 ≤ (ofR zs).length) := by
  have h1 := h.fl.ov0
  rcases getD_or L 0 with e | e
  · rw [e] at h1; omega
  · have := h.fl.us _ e
    have hb := h.b2
    rw [← h1] at this
    have hl := h.fl.ln
    have : 0 < L.length := List.length_pos_of_mem e
    unfold need at hl
    omega
theorem FlAt.two (h : FlAt V b m zs ov L) : isTwo (mkC zs ov) = true := by
  obtain ⟨h1, h2⟩ := h.ovr
  have h3 : twoB (mkC zs ov) = true := twoB_iff.2 ⟨rfl, by show 0 ≤ (0 : Int) ∧ (0 : Int) ≤ 15360; omega, by show ((ofR zs).take 3).length ≤ 3; rw [List.length_take]; omega, by show ov = 0 ∨ 3 ≤ ((ofR zs).take 3).length; rw [List.length_take]; omega, blkB_iff.2 h1, by show rightL none ((ofR zs).take 3) = true; exact right_tk (ofR zs) none 3 (rightS_t.1 h.rt).1, rfl, rfl, rfl⟩
  have h4 : headB (mkC zs ov) = true := by show headB ⟨2, 1, 1, 0, [], 0, 0, (ofR zs).take 3, ov⟩ = true; unfold headB; simp
  unfold isTwo rightC
  rw [h3, h4]
  simp [mkC]
theorem FlAt.right (h : FlAt V b m zs ov L) : rightC (mkC zs ov) = true := (isTwo_t h.two).1
theorem FlAt.cd (h : FlAt V b m zs ov L) {w : World} {E : Bxs} {A : Option Addr} {n kp : Nat} (hk : KpC E A n kp zs) (hE : Bxs.fit E w) : CdAt w w.heap.size (cdv (mkC zs ov) none 0 0 A n kp) (mkC zs ov) := by
  have h1 := h.ovr.1
  have hs := hk.1 w hE
  have hl := hs.len
  rw [List.length_take] at hl
  refine ⟨none, 0, 0, A, n, kp, rfl, ⟨rfl, by simp [mkC], fun k hk => absurd hk (Nat.not_lt_zero _)⟩, hs, by omega, by omega, ?_⟩
  unfold Cd.fit mkC Fit
  simp only
  omega
theorem FlAt.at_ (h : FlAt V b m zs ov L) {w : World} {E : Bxs} {A : Option Addr} {n kp : Nat} (hk : KpC E A n kp zs) (hE : Bxs.fit E w) : TwoAt w w.heap.size V b m (mkC zs ov) A n kp zs L := ⟨h.cd hk hE, Nat.le_refl _, h.two, rfl, h.fl, h.pt, h.sm, h.ln, h.b2⟩
theorem FlAt.lnn (h : FlAt V b m zs ov L) : L.length = need zs := h.fl.ln
theorem FlAt.new (V : List ByteArray) (m : ByteArray) (hb : b ≤ 400) : FlAt V b m [] 0 [] :=
  ⟨⟨rfl, .nil, (fun x hx => by cases hx), by decide, rfl⟩, rfl, by decide, by decide, hb⟩
end
section
variable {w0 w : World} {B d q p pd pm k c : Nat} {F : Bxs} {N : Nat} {D V : List ByteArray} {b : Nat} {m : ByteArray} {zs L : List Int} {ov : Int}
/-- Save of a file, where there is room. -/
def RetSv (w0 : World) (hz B d q p pd pm k c : Nat) (F : Bxs) (N : Nat) (D V : List ByteArray) (b : Nat) (m : ByteArray) (L ms : List Int) (e : Ending) (w' : World) : Prop :=
  ∃ A' n' kp' E' ov' L' V' m', e = .returned (.tuple #[cdv (mkC ms ov') none 0 0 A' n' kp', .int .i64 0]) ∧ Dk w0 w' B d q p pd pm k c (E' ++ F) N D V' ∧ KpC E' A' n' kp' ms ∧ (∀ y ∈ E', hz ≤ y.1 ∧ y.2.2 = 85) ∧ Crd V' b m' ∧ FlAt V' b m' ms ov' L' ∧ fcn m' b + need ms = fcn m b + L.length ∧
    ∀ i : Int, 51 ≤ i → bitN m i.toNat = true → i ∉ L → bitN m' i.toNat = true ∧ i ∉ L' ∧ bA V' i = bA V i
theorem ret_sv (hc : Crd V b m) (hf : FlAt V b m zs ov L) {ms : List Int} (hp : ptsOk b ms = true) (hs : smB ms = true) (hl : ms.length ≤ 65536) (hr : need ms ≤ fcn m b + L.length) {hz : Nat} {A' : Option Addr} {n' kp' : Nat} {E' : Bxs} {w' : World} (hd : Dk w0 w' B d q p pd pm k c (E' ++ F) N D (svV V L ms)) (hk : KpC E' A' n' kp' ms) (hg : ∀ y ∈ E', hz ≤ y.1 ∧ y.2.2 = 85) {e : Ending} (he : e = .returned (.tuple #[cdv { mkC zs ov with rs := (ofR ms).take 3, ov := svO V L ms } none 0 0 A' n' kp', .int .i64 0])) : RetSv w0 hz B d q p pd pm k c F N D V b m L ms e w' := by
  obtain ⟨m', L', h1, h2, h3, h4⟩ := save_is hc hf.fl.asc hf.fl.us hl hr
  exact ⟨A', n', kp', E', svO V L ms, L', _, m', he, hd, hk, hg, h1, ⟨h2, hp, hs, hl, hf.b2⟩, h3, h4⟩
theorem save_fl (h : Dk w0 w B d q p pd pm k c F N D V) (hc : Crd V b m) (hf : FlAt V b m zs ov L) {E : Bxs} {A : Option Addr} {kn kp : Nat} (hk : KpC E A kn kp zs) (hE : Bxs.fit E w) (A2 : Option Addr) (hA2 : A2 = none ∨ ∃ b o, A2 = some ⟨b, o, none⟩) (n cp B2 : Nat) (ms : List Int) (hm : IntsAt w B2 A2 n ms) (hB2 : B2 ≤ w.heap.size) (hn : n ≤ 1000) (hcp : n ≤ cp) (hs : smB ms = true) (hp : ptsOk b ms = true) (hr : need ms ≤ fcn m b + L.length) :
    Calls Tryz.prog 13 #[.pointer (some ⟨d, 0, none⟩), cdv (mkC zs ov) none 0 0 A kn kp, .slice A2 n cp] w (RetSv w0 w.heap.size B d q p pd pm k c F N D V b m L ms) :=
  (save_ok h hc (hf.at_ hk hE) A2 hA2 n cp B2 ms hm hB2 hn hcp hs hp hr).mono fun e w' ⟨AL, il, cl, E6, he, hd, h6, g6, l6⟩ => ret_sv hc hf hp hs (by rw [hm.len]; omega) hr hd ⟨h6, l6⟩ g6 he
theorem drop_fl (h : Dk w0 w B d q p pd pm k c F N D V) (hc : Crd V b m) (hf : FlAt V b m zs ov L) {E : Bxs} {A : Option Addr} {kn kp : Nat} (hk : KpC E A kn kp zs) (hE : Bxs.fit E w) :
    Calls Tryz.prog 21 #[.pointer (some ⟨d, 0, none⟩), cdv (mkC zs ov) none 0 0 A kn kp] w (RetSv w0 w.heap.size B d q p pd pm k c F N D V b m L []) :=
  (drop_any h hc (hf.at_ hk hE)).mono fun e w' ⟨AL, il, cl, E6, he, hd, h6, g6, l6⟩ => ret_sv hc hf rfl (by decide) (by decide) (by rw [show need [] = 0 by decide]; exact Nat.zero_le _) hd ⟨h6, l6⟩ g6 he
theorem free_fl (h : Dk w0 w B d q p pd pm k c F N D V) (hc : Crd V b m) :
    Calls Tryz.prog 12 #[.pointer (some ⟨d, 0, none⟩)] w fun e w' => e = .returned (.tuple #[.int .i64 (fcn m b : Nat), .int .i64 0]) ∧ Below w.heap.size w w' := by
  have := free_dk h
  obtain ⟨c1, c2⟩ := hc.free
  rwa [c1, c2] at this
theorem changed_dk (h : Dk w0 w B d q p pd pm k c F N D V) :
    Calls Tryz.prog 11 #[.pointer (some ⟨d, 0, none⟩)] w fun e w' => ∃ g, e = .returned (.slice (some ⟨g, 0, none⟩) (diffL V D).length (diffL V D).length) ∧ w.heap.size ≤ g ∧ Lg.IntRow w' g (diffL V D) ∧ Below w.heap.size w w' := by
  obtain ⟨v, dv⟩ := h.ex
  exact changed_dv B d q p pd pm k c D V v w dv
end

/-! ### lives -/
def lvZ : List Int := [60, 61, 0, 70, 0, 80, 0, 90]
theorem lv_sm : smB lvZ = true := by decide
theorem lv_pts : ptsOk ((100 : Nat) : Int) lvZ = true := by decide
theorem lv_need : need lvZ = 1 := by decide
theorem lv_three : ((ofR lvZ).take 3).length = 3 := by decide
theorem lv_whole : (whole lvZ).getD 1 0 = 61 ∧ (whole lvZ).getD 7 0 = 90 := by decide
theorem svO_one {V : List ByteArray} {zs : List Int} (h : need zs = 1) : svO V [] zs = rnA V 1 := by
  unfold svO svT
  rw [h]
  rfl
theorem lv_ov : svO (V0 100) [] lvZ = 51 := by
  have hcr := V0_crd (n := 100) (by omega) (by omega)
  have hfn : fcn (marksK (100 : Nat)) 100 = 49 := fcn_new 100 (by omega) 49 (by omega)
  obtain ⟨n, n1, n2, n3, n4, n5, _⟩ := (Tkn.start hcr).take (by rw [hfn]; omega)
  rw [svO_one lv_need, n4]
  rcases Nat.lt_or_ge 51 n with h | h
  · have := n5 51 (Nat.le_refl _) h
    rw [bit_marks _ _ (by omega)] at this
    simp at this
  · omega
def RetLv (w0 : World) (hz B d q p pd pm : Nat) (e : Ending) (w' : World) : Prop :=
  ∃ A kp E L' V' m', e = .returned (.tuple #[cdv (mkC lvZ 51) none 0 0 A 3 kp, .int .i64 0]) ∧ Dk w0 w' B d q p pd pm 0 0 E 100 (newD 100) V' ∧ KpC E A 3 kp lvZ ∧ Crd V' 100 m' ∧ FlAt V' 100 m' lvZ 51 L'
theorem save_lv {w0 w : World} {B d q p pd pm : Nat} (h : Dk w0 w B d q p pd pm 0 0 [] 100 (newD 100) (V0 100)) (A2 : Option Addr) (hA2 : A2 = none ∨ ∃ b o, A2 = some ⟨b, o, none⟩) (hm : IntsAt w w.heap.size A2 8 lvZ) :
    Calls Tryz.prog 13 #[.pointer (some ⟨d, 0, none⟩), cdv frC none 0 0 none 0 0, .slice A2 8 8] w (RetLv w0 w.heap.size B d q p pd pm) := by
  have hcr := V0_crd (n := 100) (by omega) (by omega)
  have hfn : fcn (marksK (100 : Nat)) 100 = 49 := fcn_new 100 (by omega) 49 (by omega)
  have hf := FlAt.new (b := 100) (V0 100) (marksK (100 : Nat)) (by omega)
  have hr : need lvZ ≤ fcn (marksK (100 : Nat)) 100 + ([] : List Int).length := by rw [hfn, lv_need]; decide
  refine (save_ok h hcr (hf.at_ KpC.new (by simp [Bxs.fit])) A2 hA2 8 8 w.heap.size lvZ hm (Nat.le_refl _) (by omega) (by omega) lv_sm lv_pts hr).mono fun e w' ⟨AL, il, cl, E6, he, hd, h6, g6, l6⟩ => ?_
  obtain ⟨m', L', h1, h2, h3, h4⟩ := save_is hcr hf.fl.asc hf.fl.us (by decide) hr
  rw [lv_ov] at he h2
  rw [List.append_nil] at hd
  have hl := (h6 w' hd.fx).len
  rw [lv_three] at hl
  subst hl
  exact ⟨AL, cl, E6, L', _, m', he, hd, ⟨h6, l6⟩, h1, ⟨h2, lv_pts, lv_sm, by decide, hf.b2⟩⟩
theorem lives15_any (w : World) : Calls Tryz.prog 7 #[] w fun e w' => e = .returned (.bool true) ∧ Below w.heap.size w w' := by
  have HBG := Lib.hid (begin15_any 100 w (by omega) (by omega))
  unfold RetBg at HBG
  rw [show ((100 : Nat) : Int) = 100 from rfl] at HBG
  have HFR := Lib.hid fresh_any
  have e6 : (Lg.ints lvZ).toArray = #[.int .i64 60, .int .i64 61, .int .i64 0, .int .i64 70, .int .i64 0, .int .i64 80, .int .i64 0, .int .i64 90] := rfl
  have HWH := Lib.hid lv_whole
  have HLN := Lib.hid (whole_len lvZ)
  go_enter Tryz.func7, Tryz.ntmps7
  go_wp2_with (first
    | (go_at_call 8; refine HBG.out.mono ?_; rintro e w2 ⟨B, d, q, p, pd, pm, rfl, d2⟩
       have HD2 := Lib.hid d2
       clear d2)
    | (go_at_call 9; refine (HFR.out w2).mono ?_; rintro e w3 ⟨rfl, b3⟩
       have hal := (Below.refl w3.heap.size w3).alloc (Nat.le_refl _) (.cells (Lg.ints lvZ).toArray 3)
       have hrow := Lg.IntRow.new w3 lvZ
       have hft : ∀ z ∈ lvZ, Fit z := by unfold Fit lvZ; decide
       have hrr := hrow.ints hft hrow.lt
       have hsv := save_lv ((HD2.out.below b3).below hal) (some ⟨w3.heap.size, 0, none⟩) (.inr ⟨_, _, rfl⟩) hrr
       rw [e6] at hsv
       have HSV := Lib.hid hsv
       clear hsv hrr hft hrow hal b3)
    | (go_at_call 13; refine HSV.out.mono ?_; rintro e w5 ⟨A5, kp, E5, L', V', m', rfl, d5, k5, c5, f5⟩
       have hal := (Below.refl w5.heap.size w5).alloc (Nat.le_refl _) (.cells (cells9 (mkC lvZ 51) none 0 0 A5 3 kp) 30)
       have HC6 : Hid (CdRow (w5.alloc (.cells (cells9 (mkC lvZ 51) none 0 0 A5 3 kp) 30)) w5.heap.size (mkC lvZ 51) none 0 0 A5 3 kp) := CdRow.new _ _ _ _ _ _ _ _
       have d6 := d5.below hal
       have HL6 := Lib.hid (load_of d6 c5 (f5.at_ k5 d6.fx))
       have HD6 := Lib.hid d6.hb
       unfold cells9 mkC at HC6 HL6 HD6
       simp only at HC6 HL6 HD6
       obtain ⟨e0, e1, e2, e3, e4, e5, e6', e7, e8⟩ := HC6.out.cells
       clear d5 c5 f5 hal d6)
    | (go_at_call 16; refine HL6.out.mono ?_; rintro e w7 ⟨g2, hg2, rfl, row, b7⟩
       have HB7 := Lib.hid (HD6.out.trans (b7.mono HD6.out.size))
       have HC7 := Lib.hid (HC6.out.below b7 HC6.out.lt)
       clear e0 e1 e2 e3 e4 e5 e6' e7 e8
       obtain ⟨e0, e1, e2, e3, e4, e5, e6', e7, e8⟩ := HC7.out.cells
       have m1 := row.cell 1 (by rw [HLN.out]; omega)
       have m7 := row.cell 7 (by rw [HLN.out]; omega)
       rw [HWH.out.1] at m1
       rw [HWH.out.2] at m7
       clear b7 row))
  go_ret
  exact ⟨rfl, HB7.out⟩
end Go.Proofs.YtgdlfiejjnjcpaaGreat.Dl
