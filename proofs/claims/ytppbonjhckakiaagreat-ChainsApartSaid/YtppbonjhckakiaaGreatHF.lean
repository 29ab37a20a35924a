/-
  WALKS: load, Load, Lists, on a deal with a crown. Condition: a deal on a calm slab.
-/
import Derived.Test.YtppbonjhckakiaaGreatHE
set_option linter.unusedVariables false
set_option linter.unusedSimpArgs false
set_option maxRecDepth 100000
set_option maxHeartbeats 4000000
namespace Go.Proofs.YtppbonjhckakiaaGreat.Dl
open Go.RowKit
open Mk
open Sl (Turns)
open Kr (crv rightK kf kb kc KBox cells3 I64 inB)
open La (OwnLst nilS)

/-- a card of format One that may be. -/
def isOne (x : Cd) : Bool := rightC x && decide (x.fm = 1)
theorem isOne_t {x : Cd} (h : isOne x = true) : rightC x = true ∧ x.fm = 1 ∧ x.ps.length = 4 ∧ x.rs = [] ∧ 0 ≤ x.sg ∧ x.sg ≤ 65535 ∧ 0 ≤ x.db ∧ x.db ≤ 65535 := by
  unfold isOne at h
  simp only [Bool.and_eq_true, decide_eq_true_eq] at h
  obtain ⟨h1, h2⟩ := h
  refine ⟨h1, h2, ?_⟩
  unfold rightC at h1
  rcases Bool.or_eq_true_iff.1 h1 with hz | h1
  · have := isZ_iff.1 hz; rw [this] at h2; cases h2
  · have h3 := (Bool.and_eq_true_iff.1 h1).2
    rcases Bool.or_eq_true_iff.1 h3 with h4 | h4
    · obtain ⟨_, _, e1, _, e2, e3, e4, _⟩ := oneB_iff.1 h4
      have := blkB_iff.1 e2
      have := blkB_iff.1 e3
      exact ⟨e1, e4, by omega, by omega, by omega, by omega⟩
    · have := (twoB_iff.1 h4).1; omega
/-- the answer of load. -/
def RetLd (w : World) (V : List ByteArray) (b : Int) (x : Cd) (e : Ending) (w' : World) : Prop :=
  if isOne x = true then
    (if ldOk V b x.ps x.sg x.db = true then ∃ g gd c2, w.heap.size ≤ g ∧ e = .returned (.tuple #[.slice (some ⟨g, 0, none⟩) 76 76, .slice (some ⟨gd, 0, none⟩) (ldL V x.sg x.db).length c2, .int .i64 0]) ∧ La.IntRow w' g (ldM V x.ps x.sg x.db) ∧ (w.heap.size ≤ gd ∧ ∃ cur, w'.heap[gd]? = some (.cells cur 3 (0, 0))) ∧ IntsAt w' w'.heap.size (some ⟨gd, 0, none⟩) (ldL V x.sg x.db).length (ldL V x.sg x.db) ∧ Below w.heap.size w w'
    else e = .returned (.tuple #[nilS, nilS, .int .i64 15]) ∧ Below w.heap.size w w')
  else e = .returned (.tuple #[nilS, nilS, .int .i64 1]) ∧ Below w.heap.size w w'
section
variable {w0 w : World} {B d q p pd pm k c : Nat} {F : Bxs} {N : Nat} {D V : List ByteArray} {b : Nat} {m : ByteArray}
theorem crown_dk (h : Dk w0 w B d q p pd pm k c F N D V) (hc : Crd V b m) :
    Calls Tryz.prog 34 #[.pointer (some ⟨d, 0, none⟩)] w fun e w' => e = .returned (.tuple #[crv (crF V) (b : Int) (crC V), .int .i64 0]) ∧ Below w.heap.size w w' := by
  obtain ⟨v, dv⟩ := h.ex
  have := crown_dv B d q p pd pm k c D V v w dv
  unfold RetCr at this
  rwa [cr_ok hc.ok, hc.cb] at this
theorem load_bad (h : Dk w0 w B d q p pd pm k c F N D V) (hc : Crd V b m) (x : Cd) (A : Option Addr) (n kp : Nat) (A' : Option Addr) (n' k' Bc : Nat) (hx : CdAt w Bc (cdv x A n kp A' n' k') x) (hBc : Bc ≤ w.heap.size) (ho : isOne x = false) :
    Calls Tryz.prog 46 #[.pointer (some ⟨d, 0, none⟩), cdv x A n kp A' n' k'] w fun e w' => e = .returned (.tuple #[nilS, nilS, .int .i64 1]) ∧ Below w.heap.size w w' := by
  have HB1 : Hid (Below w.heap.size w (w.alloc (.cells (cells9 x A n kp A' n' k') 30))) := (Below.refl _ _).alloc (Nat.le_refl _) _
  have HC1 : Hid (CdRow (w.alloc (.cells (cells9 x A n kp A' n' k') 30)) w.heap.size x A n kp A' n' k') := CdRow.new _ _ _ _ _ _ _ _
  have HR := Lib.hid (fun W (hW : Below w.heap.size w W) => rightc_any _ x Bc _ W rfl (hx.below hW hBc) (Nat.le_trans hBc hW.size))
  unfold isOne at ho
  cases hr : rightC x with
  | false =>
    rw [hr] at HR
    clear hx hr ho h hc
    unfold cells9 at *
    obtain ⟨e0, e1, e2, e3, e4, e5, e6, e7, e8⟩ := HC1.out.cells
    go_enter Tryz.func46, Tryz.ntmps46
    go_wp2_with (go_at_call 78; refine (HR.out _ HB1.out).mono ?_; rintro e w2 ⟨rfl, b2⟩; have HB2 := Lib.hid (HB1.out.trans (b2.mono HB1.out.size)); clear b2)
    refine bodyPost_ret (v := .tuple #[nilS, nilS, .int .i64 1]) (by simp [results, Tryz.results46, go_sem]) rfl ?_
    exact ⟨rfl, HB2.out⟩
  | true =>
    rw [hr] at HR ho
    have hf : (x.fm != 1) = true := by
      rw [Bool.true_and, decide_eq_false_iff_not] at ho
      exact bne_iff_ne.2 ho
    clear hx hr ho h hc
    unfold cells9 at *
    obtain ⟨e0, e1, e2, e3, e4, e5, e6, e7, e8⟩ := HC1.out.cells
    go_enter Tryz.func46, Tryz.ntmps46
    go_wp2_with (go_at_call 78; refine (HR.out _ HB1.out).mono ?_; rintro e w2 ⟨rfl, b2⟩; have HB2 := Lib.hid (HB1.out.trans (b2.mono HB1.out.size)); have HC2 := Lib.hid (HC1.out.below b2 HC1.out.lt); clear b2 e0 e1 e2 e3 e4 e5 e6 e7 e8; obtain ⟨e0, -⟩ := HC2.out.cells)
    refine bodyPost_ret (v := .tuple #[nilS, nilS, .int .i64 1]) (by simp [results, Tryz.results46, go_sem]) rfl ?_
    exact ⟨rfl, HB2.out⟩
theorem own_rw {w : World} {base : Nat} {v : Value} {zs : List Int} (h : w.ownsRow base 3 1 v zs.length (ints zs)) (h0 : zs ≠ []) : ∃ g cap, v = .slice (some ⟨g, 0, none⟩) zs.length cap ∧ base ≤ g ∧ cap ≤ 9223372036854775807 ∧ RwAt w g cap [] zs 0 := by
  rcases h.2 with ⟨_, h1⟩ | ⟨g, cap, cur, rfl, h1, h2, h3, h4, h5, h6⟩
  · exact absurd (List.length_eq_zero_iff.1 h1) h0
  · refine ⟨g, cap, rfl, h1, by unfold maxLen at h4; omega, ⟨⟨cur, h2, by omega, fun t ht => absurd ht (Nat.not_lt_zero _), fun t _ ht => ?_⟩, Nat.zero_le _, h3⟩⟩
    have e : (cur.toList.take (zs.length * 1))[t]? = (ints zs)[t]? := by rw [h6]
    rw [List.getElem?_take_of_lt (by omega), Array.getElem?_toList] at e
    rw [e]
    exact La.ints_get zs t ht
theorem lsts_two (W : World) (a b : Int) (A : Option Addr) (n c : Nat) (l : List Int) (hA : IntsAt W W.heap.size A n l) (ha : La.Fit a) (hb : La.Fit b) :
    LstsAt ((W.alloc (.cells #[.int .i64 a, .int .i64 b] 3)).alloc (.cells #[.slice (some ⟨W.heap.size, 0, none⟩) 2 2, .slice A n c] 27)) ((W.alloc (.cells #[.int .i64 a, .int .i64 b] 3)).alloc (.cells #[.slice (some ⟨W.heap.size, 0, none⟩) 2 2, .slice A n c] 27)).heap.size (some ⟨W.heap.size + 1, 0, none⟩) 2 [[a, b], l] := by
  have h1 : (W.alloc (.cells #[.int .i64 a, .int .i64 b] 3)).heap.size = W.heap.size + 1 := by simp
  have hb1 : Below W.heap.size W ((W.alloc (.cells #[.int .i64 a, .int .i64 b] 3)).alloc (.cells #[.slice (some ⟨W.heap.size, 0, none⟩) 2 2, .slice A n c] 27)) := ((Below.refl W.heap.size W).alloc (Nat.le_refl _) _).alloc (by simp) _
  have hr1 : La.IntRow ((W.alloc (.cells #[.int .i64 a, .int .i64 b] 3)).alloc (.cells #[.slice (some ⟨W.heap.size, 0, none⟩) 2 2, .slice A n c] 27)) W.heap.size [a, b] := (La.IntRow.new W [a, b]).alloc _
  have hr2 : ((W.alloc (.cells #[.int .i64 a, .int .i64 b] 3)).alloc (.cells #[.slice (some ⟨W.heap.size, 0, none⟩) 2 2, .slice A n c] 27)).heap[W.heap.size + 1]? = some (.cells #[.slice (some ⟨W.heap.size, 0, none⟩) 2 2, .slice A n c] 27 (0, 0)) := by
    have := heap_alloc_new (W.alloc (.cells #[.int .i64 a, .int .i64 b] 3)) (.cells #[.slice (some ⟨W.heap.size, 0, none⟩) 2 2, .slice A n c] 27)
    rwa [h1] at this
  generalize (W.alloc (.cells #[.int .i64 a, .int .i64 b] 3)).alloc (.cells #[.slice (some ⟨W.heap.size, 0, none⟩) 2 2, .slice A n c] 27) = W2 at *
  have hlt := (Array.getElem?_eq_some_iff.1 hr2).1
  have hln := hA.len
  refine ⟨rfl, fun k hk => ?_⟩
  rcases (show k = 0 ∨ k = 1 by omega) with rfl | rfl
  · refine ⟨_, 0, some ⟨W.heap.size, 0, none⟩, 2, rfl, hlt, by rw [cell_of_row W2 _ _ _ 27 _ hr2]; rfl, ?_⟩
    exact hr1.ints (fun z hz => by simp at hz; rcases hz with rfl | rfl; exact ha; exact hb) (by omega)
  · refine ⟨_, 0, A, c, rfl, hlt, by rw [cell_of_row W2 _ _ _ 27 _ hr2, show ([[a, b], l].getD 1 []).length = n from hln]; rfl, ?_⟩
    show IntsAt W2 W2.heap.size A l.length l
    rw [hln]
    exact (hA.below hb1 (Nat.le_refl _)).more hb1.size
theorem load_one (h : Dk w0 w B d q p pd pm k c F N D V) (hc : Crd V b m) (x : Cd) (A : Option Addr) (n kp : Nat) (A' : Option Addr) (n' k' Bc : Nat) (hx : CdAt w Bc (cdv x A n kp A' n' k') x) (hn : IntsAt w Bc A 4 x.ps ∧ n = 4) (hBc : Bc ≤ w.heap.size) (ho : isOne x = true) :
    Calls Tryz.prog 46 #[.pointer (some ⟨d, 0, none⟩), cdv x A n kp A' n' k'] w (RetLd w V b x) := by
  obtain ⟨hn, rfl⟩ := hn
  obtain ⟨o1, o2, o3, o4, o5, o6, o7, o8⟩ := isOne_t ho
  have HB1 : Hid (Below w.heap.size w (w.alloc (.cells (cells9 x A 4 kp A' n' k') 30))) := (Below.refl _ _).alloc (Nat.le_refl _) _
  have HC1 : Hid (CdRow (w.alloc (.cells (cells9 x A 4 kp A' n' k') 30)) w.heap.size x A 4 kp A' n' k') := CdRow.new _ _ _ _ _ _ _ _
  have HR := Lib.hid (fun W (hW : Below w.heap.size w W) => rightc_any _ x Bc _ W rfl (hx.below hW hBc) (Nat.le_trans hBc hW.size))
  rw [o1] at HR
  have hk : rightK (crF V) (b : Int) (crC V) = true := by have := (cr_b hc.ok).1; rwa [hc.cb] at this
  have HCR := Lib.hid (fun W (hW : Below w.heap.size w W) => crown_dk (h.below hW) hc)
  have HRG := Lib.hid (fun W (hW : Below w.heap.size w W) => rungs_any (h.below hW) hc (crF V) (crC V) hk x A kp A' n' k' Bc (hn.below hW hBc) (Nat.le_trans hBc hW.size))
  have HAB := Lib.hid (fun A n c B zs W h1 h2 h3 => areblocks_any (crF V) b (crC V) A n c B zs W hk h1 h2 h3)
  have hf : (x.fm != 1) = false := by rw [o2]; rfl
  have HFS : Hid (La.Fit x.sg ∧ La.Fit x.db) := ⟨by unfold La.Fit; omega, by unfold La.Fit; omega⟩
  have HML : Hid ((ldM V x.ps x.sg x.db).length = 76) := La.numsTo_len _ _ _ _
  have HDV := Lib.hid (rlV_len V x.db)
  unfold RetLd
  simp only [if_pos ho]
  clear hx hn hk h hc ho o1 o2 o3 o4 o5 o6 o7 o8
  generalize crF V = f at *
  generalize crC V = u at *
  unfold cells9 at *
  unfold RetRg at HRG
  cases hrg : rgOk V b x.sg x.db with
  | false =>
    have e0 : ldOk V b x.ps x.sg x.db = false := by unfold ldOk; rw [hrg]; rfl
    rw [hrg] at HRG
    simp only [e0, Bool.false_eq_true, if_false] at HRG ⊢
    clear hrg e0 HAB HML HDV
    unfold crv nilS at *
    obtain ⟨e0, e1, e2, e3, e4, e5, e6, e7, e8⟩ := HC1.out.cells
    have HN3 := Lib.hid (KBox.new3)
    go_enter Tryz.func46, Tryz.ntmps46
    go_wp2_with (first
      | (go_at_call 78; refine (HR.out _ HB1.out).mono ?_; rintro e w2 ⟨rfl, b2⟩; have HB2 := Lib.hid (HB1.out.trans (b2.mono HB1.out.size)); have HC2 := Lib.hid (HC1.out.below b2 HC1.out.lt); clear b2 e0 e1 e2 e3 e4 e5 e6 e7 e8; obtain ⟨e0, -⟩ := HC2.out.cells)
      | (go_at_call 34; refine (HCR.out _ HB2.out).mono ?_; rintro e w3 ⟨rfl, b3⟩; clear e0
         have HB3 := Lib.hid ((HB2.out.trans (b3.mono HB2.out.size)).alloc (HB2.out.trans (b3.mono HB2.out.size)).size (.cells #[.int .i64 f, .int .i64 b, .int .i64 u] 62))
         have HC3 := Lib.hid ((HC2.out.below b3 HC2.out.lt).below ((Below.refl w3.heap.size w3).alloc (Nat.le_refl _) (.cells #[.int .i64 f, .int .i64 b, .int .i64 u] 62)) (HC2.out.below b3 HC2.out.lt).lt)
         obtain ⟨y0, y1, y2⟩ := (HN3.out w3 f b u).row
         obtain ⟨e0, e1, e2, e3, e4, e5, e6, e7, e8⟩ := HC3.out.cells
         clear b3)
      | (go_at_call 79; refine (HRG.out _ HB3.out).mono ?_; rintro e w4 ⟨rfl, b4⟩; have HB4 := Lib.hid (HB3.out.trans (b4.mono HB3.out.size)); clear b4 e0 e1 e2 e3 e4 e5 e6 e7 e8 y0 y1 y2))
    refine bodyPost_ret (v := .tuple #[.slice none 0 0, .slice none 0 0, .int .i64 15]) (by simp [results, Tryz.results46, go_sem]) rfl ?_
    exact ⟨rfl, HB4.out.alloc HB4.out.size _⟩
  | true =>
    rw [hrg] at HRG
    simp only [if_pos] at HRG
    cases hp : ptsOk b (ldM V x.ps x.sg x.db) with
    | false =>
      have e0 : ldOk V b x.ps x.sg x.db = false := by unfold ldOk; rw [hrg, hp]; rfl
      simp only [e0, Bool.false_eq_true, if_false]
      have HP := Lib.hid hp
      clear hrg e0 hp
      unfold crv nilS at *
      obtain ⟨e0, e1, e2, e3, e4, e5, e6, e7, e8⟩ := HC1.out.cells
      have HN3 := Lib.hid (KBox.new3)
      go_enter Tryz.func46, Tryz.ntmps46
      go_wp2_with (first
        | (go_at_call 78; refine (HR.out _ HB1.out).mono ?_; rintro e w2 ⟨rfl, b2⟩; have HB2 := Lib.hid (HB1.out.trans (b2.mono HB1.out.size)); have HC2 := Lib.hid (HC1.out.below b2 HC1.out.lt); clear b2 e0 e1 e2 e3 e4 e5 e6 e7 e8; obtain ⟨e0, -⟩ := HC2.out.cells)
        | (go_at_call 34; refine (HCR.out _ HB2.out).mono ?_; rintro e w3 ⟨rfl, b3⟩; clear e0
           have HB3 := Lib.hid ((HB2.out.trans (b3.mono HB2.out.size)).alloc (HB2.out.trans (b3.mono HB2.out.size)).size (.cells #[.int .i64 f, .int .i64 b, .int .i64 u] 62))
           have HC3 := Lib.hid ((HC2.out.below b3 HC2.out.lt).below ((Below.refl w3.heap.size w3).alloc (Nat.le_refl _) (.cells #[.int .i64 f, .int .i64 b, .int .i64 u] 62)) (HC2.out.below b3 HC2.out.lt).lt)
           have HK3 := Lib.hid (HN3.out w3 f b u)
           obtain ⟨y0, y1, y2⟩ := HK3.out.row
           obtain ⟨e0, e1, e2, e3, e4, e5, e6, e7, e8⟩ := HC3.out.cells
           clear b3)
        | (go_at_call 79; refine (HRG.out _ HB3.out).mono ?_; rintro e w4 ⟨A1, A2, A3, Ad, n2, n3, nd, c1, c2, c3, cd, rfl, hr4, hd4, b4⟩
           clear e0 e1 e2 e3 e4 e5 e6 e7 e8 y0 y1 y2
           have HB4 := Lib.hid (HB3.out.trans (b4.mono HB3.out.size))
           have HC4 := Lib.hid (HC3.out.below b4 HC3.out.lt)
           have HK4 := Lib.hid (HK3.out.below b4 HK3.out.lt)
           have hal := (Below.refl w4.heap.size w4).alloc (Nat.le_refl _) (.cells #[.slice A1 4 c1, .slice A2 n2 c2, .slice A3 n3 c3] 74)
           have HB5 := Lib.hid (HB4.out.trans (hal.mono HB4.out.size))
           have HC5 := Lib.hid (HC4.out.below hal HC4.out.lt)
           have HK5 := Lib.hid (HK4.out.below hal HK4.out.lt)
           have HD5 := Lib.hid ((hd4.below hal (Nat.le_refl _)).more hal.size)
           have hr5 := hr4.below hal (Nat.le_refl _)
           have HFT : Hid (∀ z ∈ ldM V x.ps x.sg x.db, La.Fit z) := La.numsTo_fit _ _ _ hr5.h1.2.1 hr5.h2.2.1 hr5.h3.fit 76
           have HMP := Lib.hid (La.map_any A1 A2 A3 4 n2 n3 c1 c2 c3 w4.heap.size _ _ _ _ hr5 (by simp))
           rw [La.mapRow_nums] at HMP
           have HW5 : Hid (w.heap.size ≤ (w4.alloc (.cells #[.slice A1 4 c1, .slice A2 n2 c2, .slice A3 n3 c3] 74)).heap.size) := HB5.out.size
           obtain ⟨r0, r1, r2⟩ := (Rg3.new w4 (.slice A1 4 c1) (.slice A2 n2 c2) (.slice A3 n3 c3)).cells
           clear b4 hr4 hr5 hd4 hal)
        | (go_at_call 80; refine HMP.out.mono ?_; rintro e w6 ⟨g, hg, rfl, row6, b6⟩
           clear r0 r1 r2
           have row6 : La.IntRow w6 g (ldM V x.ps x.sg x.db) := row6
           have e76 : (La.numsTo x.ps ((rlV V x.sg).getD []) (lsV V x.db) 76).length = 76 := HML.out
           rw [e76]
           have HROW6 := Lib.hid row6
           have HB6 := Lib.hid (HB5.out.trans (b6.mono HB5.out.size))
           have HC6 := Lib.hid (HC5.out.below b6 HC5.out.lt)
           have HK6 := Lib.hid (HK5.out.below b6 HK5.out.lt)
           have HD6 := Lib.hid ((HD5.out.below b6 (Nat.le_refl _)).more b6.size)
           have HG6 : Hid (w.heap.size ≤ g) := Nat.le_trans HW5.out hg
           have hI6 : IntsAt w6 w6.heap.size (some ⟨g, 0, none⟩) 76 (ldM V x.ps x.sg x.db) := by have := row6.ints HFT.out row6.lt; rwa [HML.out] at this
           have HAR := Lib.hid (HAB.out (some ⟨g, 0, none⟩) 76 76 w6.heap.size _ w6 hI6 (Nat.le_refl _) (by omega))
           rw [HP.out] at HAR
           obtain ⟨y0, y1, y2⟩ := HK6.out.row
           clear b6 row6 e76 hg hI6)
        | (go_at_call 35; refine HAR.out.mono ?_; rintro e w7 ⟨rfl, b7⟩; have HB7 := Lib.hid (HB6.out.trans (b7.mono HB6.out.size)); clear b7 y0 y1 y2))
      refine bodyPost_ret (v := .tuple #[.slice none 0 0, .slice none 0 0, .int .i64 15]) (by simp [results, Tryz.results46, go_sem]) rfl ?_
      exact ⟨rfl, HB7.out⟩
    | true =>
      have e0 : ldOk V b x.ps x.sg x.db = true := by unfold ldOk; rw [hrg, hp]; rfl
      simp only [if_pos e0]
      have HP := Lib.hid hp
      have HLF : Hid ([[x.sg, x.db], dblV V x.db].flatten = [x.sg, x.db] ++ dblV V x.db) := by show _ = _; simp
      have HLN : Hid (([x.sg, x.db] ++ dblV V x.db).length ≤ 12) := by show _ ≤ _; have := HDV.out; rw [List.length_append]; unfold dblV; simp; omega
      have HNZ : Hid (nz ([x.sg, x.db] ++ dblV V x.db) = ldL V x.sg x.db) := rfl
      clear hrg e0 hp
      unfold crv at *
      obtain ⟨e0, e1, e2, e3, e4, e5, e6, e7, e8⟩ := HC1.out.cells
      have HN3 := Lib.hid (KBox.new3)
      go_enter Tryz.func46, Tryz.ntmps46
      go_wp2_with (first
        | (go_at_call 78; refine (HR.out _ HB1.out).mono ?_; rintro e w2 ⟨rfl, b2⟩; have HB2 := Lib.hid (HB1.out.trans (b2.mono HB1.out.size)); have HC2 := Lib.hid (HC1.out.below b2 HC1.out.lt); clear b2 e0 e1 e2 e3 e4 e5 e6 e7 e8; obtain ⟨e0, -⟩ := HC2.out.cells)
        | (go_at_call 34; refine (HCR.out _ HB2.out).mono ?_; rintro e w3 ⟨rfl, b3⟩; clear e0
           have HB3 := Lib.hid ((HB2.out.trans (b3.mono HB2.out.size)).alloc (HB2.out.trans (b3.mono HB2.out.size)).size (.cells #[.int .i64 f, .int .i64 b, .int .i64 u] 62))
           have HC3 := Lib.hid ((HC2.out.below b3 HC2.out.lt).below ((Below.refl w3.heap.size w3).alloc (Nat.le_refl _) (.cells #[.int .i64 f, .int .i64 b, .int .i64 u] 62)) (HC2.out.below b3 HC2.out.lt).lt)
           have HK3 := Lib.hid (HN3.out w3 f b u)
           obtain ⟨y0, y1, y2⟩ := HK3.out.row
           obtain ⟨e0, e1, e2, e3, e4, e5, e6, e7, e8⟩ := HC3.out.cells
           clear b3)
        | (go_at_call 79; refine (HRG.out _ HB3.out).mono ?_; rintro e w4 ⟨A1, A2, A3, Ad, n2, n3, nd, c1, c2, c3, cd, rfl, hr4, hd4, b4⟩
           clear e0 e1 e2 e3 e4 e5 e6 e7 e8 y0 y1 y2
           have HB4 := Lib.hid (HB3.out.trans (b4.mono HB3.out.size))
           have HC4 := Lib.hid (HC3.out.below b4 HC3.out.lt)
           have HK4 := Lib.hid (HK3.out.below b4 HK3.out.lt)
           have hal := (Below.refl w4.heap.size w4).alloc (Nat.le_refl _) (.cells #[.slice A1 4 c1, .slice A2 n2 c2, .slice A3 n3 c3] 74)
           have HB5 := Lib.hid (HB4.out.trans (hal.mono HB4.out.size))
           have HC5 := Lib.hid (HC4.out.below hal HC4.out.lt)
           have HK5 := Lib.hid (HK4.out.below hal HK4.out.lt)
           have HD5 := Lib.hid ((hd4.below hal (Nat.le_refl _)).more hal.size)
           have hr5 := hr4.below hal (Nat.le_refl _)
           have HFT : Hid (∀ z ∈ ldM V x.ps x.sg x.db, La.Fit z) := La.numsTo_fit _ _ _ hr5.h1.2.1 hr5.h2.2.1 hr5.h3.fit 76
           have HMP := Lib.hid (La.map_any A1 A2 A3 4 n2 n3 c1 c2 c3 w4.heap.size _ _ _ _ hr5 (by simp))
           rw [La.mapRow_nums] at HMP
           have HW5 : Hid (w.heap.size ≤ (w4.alloc (.cells #[.slice A1 4 c1, .slice A2 n2 c2, .slice A3 n3 c3] 74)).heap.size) := HB5.out.size
           obtain ⟨r0, r1, r2⟩ := (Rg3.new w4 (.slice A1 4 c1) (.slice A2 n2 c2) (.slice A3 n3 c3)).cells
           clear b4 hr4 hr5 hd4 hal)
        | (go_at_call 80; refine HMP.out.mono ?_; rintro e w6 ⟨g, hg, rfl, row6, b6⟩
           clear r0 r1 r2
           have row6 : La.IntRow w6 g (ldM V x.ps x.sg x.db) := row6
           have e76 : (La.numsTo x.ps ((rlV V x.sg).getD []) (lsV V x.db) 76).length = 76 := HML.out
           rw [e76]
           have HROW6 := Lib.hid row6
           have HB6 := Lib.hid (HB5.out.trans (b6.mono HB5.out.size))
           have HC6 := Lib.hid (HC5.out.below b6 HC5.out.lt)
           have HK6 := Lib.hid (HK5.out.below b6 HK5.out.lt)
           have HD6 := Lib.hid ((HD5.out.below b6 (Nat.le_refl _)).more b6.size)
           have HG6 : Hid (w.heap.size ≤ g) := Nat.le_trans HW5.out hg
           have hI6 : IntsAt w6 w6.heap.size (some ⟨g, 0, none⟩) 76 (ldM V x.ps x.sg x.db) := by have := row6.ints HFT.out row6.lt; rwa [HML.out] at this
           have HAR := Lib.hid (HAB.out (some ⟨g, 0, none⟩) 76 76 w6.heap.size _ w6 hI6 (Nat.le_refl _) (by omega))
           rw [HP.out] at HAR
           obtain ⟨y0, y1, y2⟩ := HK6.out.row
           clear b6 row6 e76 hg hI6)
        | (go_at_call 35; refine HAR.out.mono ?_; rintro e w7 ⟨rfl, b7⟩
           have HB7 := Lib.hid (HB6.out.trans (b7.mono HB6.out.size))
           have HROW7 := Lib.hid (HROW6.out.below b7 HROW6.out.lt)
           have HC7 := Lib.hid (HC6.out.below b7 HC6.out.lt)
           have hd7 := (HD6.out.below b7 (Nat.le_refl _)).more b7.size
           have HFD := Lib.hid hd7.2.1
           have HLS := Lib.hid (lsts_two w7 x.sg x.db Ad nd cd _ hd7 HFS.out.1 HFS.out.2)
           clear b7 y0 y1 y2 hd7
           have HCC := Lib.hid (concatI_any (some ⟨w7.heap.size + 1, 0, none⟩) 2 2 _ [[x.sg, x.db], dblV V x.db] _ HLS.out (Nat.le_refl _) (by omega) (by rw [HLF.out]; have := HLN.out; omega))
           rw [HLF.out] at HCC
           have HB8 : Hid (Below w7.heap.size w7 ((w7.alloc (.cells #[.int .i64 x.sg, .int .i64 x.db] 3)).alloc (.cells #[.slice (some ⟨w7.heap.size, 0, none⟩) 2 2, .slice Ad nd cd] 27))) := ((Below.refl w7.heap.size w7).alloc (Nat.le_refl _) _).alloc (by simp) _
           obtain ⟨e0, e1, e2, e3, e4, e5, e6, e7, e8⟩ := HC7.out.cells)
        | (go_at_call 81; refine HCC.out.mono ?_; rintro e w9 ⟨v9, rfl, ow9, b9⟩
           have HB9 := Lib.hid (HB8.out.trans (b9.mono HB8.out.size))
           have hs8 := HB8.out.size
           obtain ⟨gd, cap, rfl, hgd, hcap, hrw⟩ := own_rw ow9 (by simp)
           have HGD : Hid (w7.heap.size ≤ gd) := Nat.le_trans hs8 hgd
           have HDL := Lib.hid (del_any gd cap ([x.sg, x.db] ++ dblV V x.db) w9 hrw (fun z hz => by
             rcases List.mem_append.1 hz with hz | hz
             · simp at hz; rcases hz with rfl | rfl; exact HFS.out.1; exact HFS.out.2
             · exact HFD.out z hz) (by have := HLN.out; omega) hcap)
           rw [HNZ.out] at HDL
           clear e0 e1 e2 e3 e4 e5 e6 e7 e8 b9 ow9 hs8 hgd hrw)
        | (go_at_call 82; refine HDL.out.mono ?_; rintro e w10 ⟨rfl, i10, t10, y10⟩
           have HI10 := Lib.hid i10
           have HY10 := Lib.hid y10
           have HT10 := Lib.hid t10
           clear i10 t10 y10))
      refine bodyPost_ret (v := .tuple #[.slice (some ⟨g, 0, none⟩) 76 76, .slice (some ⟨gd, 0, none⟩) (ldL V x.sg x.db).length cap, .int .i64 0]) (by simp [results, Tryz.results46, go_sem]) rfl ?_
      have hs9 := HB9.out.size
      have hbw : Below w7.heap.size w7 w10 := HB9.out.trans (HT10.out.below hs9 (by simp; exact HGD.out))
      exact ⟨g, gd, cap, HG6.out, rfl, HROW7.out.below hbw HROW7.out.lt, ⟨Nat.le_trans HB7.out.size HGD.out, HY10.out⟩, HI10.out, HB7.out.trans (hbw.mono HB7.out.size)⟩
/-- the answer of Load. -/
def RetLoad (w : World) (V : List ByteArray) (b : Int) (x : Cd) (e : Ending) (w' : World) : Prop :=
  if isOne x = true then
    (if ldOk V b x.ps x.sg x.db = true then ∃ g, w.heap.size ≤ g ∧ e = .returned (.tuple #[.slice (some ⟨g, 0, none⟩) 76 76, .int .i64 0]) ∧ La.IntRow w' g (ldM V x.ps x.sg x.db) ∧ Below w.heap.size w w'
    else e = .returned (.tuple #[nilS, .int .i64 15]) ∧ Below w.heap.size w w')
  else e = .returned (.tuple #[nilS, .int .i64 1]) ∧ Below w.heap.size w w'
/-- the answer of Lists. -/
def RetLists (w : World) (V : List ByteArray) (b : Int) (x : Cd) (e : Ending) (w' : World) : Prop :=
  if isOne x = true then
    (if ldOk V b x.ps x.sg x.db = true then ∃ gd c2, e = .returned (.tuple #[.slice (some ⟨gd, 0, none⟩) (ldL V x.sg x.db).length c2, .int .i64 0]) ∧ (w.heap.size ≤ gd ∧ ∃ cur, w'.heap[gd]? = some (.cells cur 3 (0, 0))) ∧ IntsAt w' w'.heap.size (some ⟨gd, 0, none⟩) (ldL V x.sg x.db).length (ldL V x.sg x.db) ∧ Below w.heap.size w w'
    else e = .returned (.tuple #[nilS, .int .i64 15]) ∧ Below w.heap.size w w')
  else e = .returned (.tuple #[nilS, .int .i64 1]) ∧ Below w.heap.size w w'
theorem loadf_any (h : Dk w0 w B d q p pd pm k c F N D V) (hc : Crd V b m) (x : Cd) (A : Option Addr) (n kp : Nat) (A' : Option Addr) (n' k' Bc : Nat) (hx : CdAt w Bc (cdv x A n kp A' n' k') x) (hBc : Bc ≤ w.heap.size) :
    Calls Tryz.prog 16 #[.pointer (some ⟨d, 0, none⟩), cdv x A n kp A' n' k'] w (RetLoad w V b x) := by
  have HB1 : Hid (Below w.heap.size w (w.alloc (.cells (cells9 x A n kp A' n' k') 30))) := (Below.refl _ _).alloc (Nat.le_refl _) _
  have HC1 : Hid (CdRow (w.alloc (.cells (cells9 x A n kp A' n' k') 30)) w.heap.size x A n kp A' n' k') := CdRow.new _ _ _ _ _ _ _ _
  unfold RetLoad
  cases ho : isOne x with
  | false =>
    have HL := Lib.hid (load_bad (h.below HB1.out) hc x A n kp A' n' k' Bc (hx.below HB1.out hBc) (Nat.le_trans hBc HB1.out.size) ho)
    simp only [Bool.false_eq_true, if_false]
    clear hx h hc ho
    unfold cells9 at *
    obtain ⟨e0, e1, e2, e3, e4, e5, e6, e7, e8⟩ := HC1.out.cells
    unfold nilS at *
    go_enter Tryz.func16, Tryz.ntmps16
    go_wp2_with (go_at_call 46; refine HL.out.mono ?_; rintro e w2 ⟨rfl, b2⟩)
    go_ret2
    exact ⟨rfl, HB1.out.trans (b2.mono HB1.out.size)⟩
  | true =>
    have h4 : IntsAt w Bc A 4 x.ps ∧ n = 4 := by
      obtain ⟨Q, m1, l, Q', m', l', e, i1, s1, _⟩ := hx
      injection e with e
      have e := congrArg Array.toList e
      simp only [List.cons.injEq, Value.slice.injEq, and_true] at e
      obtain ⟨_, _, _, _, ⟨rfl, rfl, rfl⟩, _⟩ := e
      have := i1.len
      rw [(isOne_t ho).2.2.1] at this
      subst this
      exact ⟨i1, rfl⟩
    have HL := Lib.hid (load_one (h.below HB1.out) hc x A n kp A' n' k' Bc (hx.below HB1.out hBc) ⟨h4.1.below HB1.out hBc, h4.2⟩ (Nat.le_trans hBc HB1.out.size) ho)
    unfold RetLd at HL
    simp only [if_pos ho, if_pos] at HL ⊢
    clear hx h hc h4
    unfold cells9 at *
    obtain ⟨e0, e1, e2, e3, e4, e5, e6, e7, e8⟩ := HC1.out.cells
    unfold nilS at *
    cases hl : ldOk V b x.ps x.sg x.db with
    | false =>
      rw [hl] at HL
      simp only [Bool.false_eq_true, if_false] at HL ⊢
      clear ho hl
      go_enter Tryz.func16, Tryz.ntmps16
      go_wp2_with (go_at_call 46; refine HL.out.mono ?_; rintro e w2 ⟨rfl, b2⟩)
      go_ret2
      exact ⟨rfl, HB1.out.trans (b2.mono HB1.out.size)⟩
    | true =>
      rw [hl] at HL
      simp only [if_pos] at HL ⊢
      clear ho hl
      go_enter Tryz.func16, Tryz.ntmps16
      go_wp2_with (go_at_call 46; refine HL.out.mono ?_; rintro e w2 ⟨g, gd, c2, hg, rfl, row2, y2, l2, b2⟩)
      go_ret2
      exact ⟨g, Nat.le_trans HB1.out.size hg, rfl, row2, HB1.out.trans (b2.mono HB1.out.size)⟩
theorem lists_any (h : Dk w0 w B d q p pd pm k c F N D V) (hc : Crd V b m) (x : Cd) (A : Option Addr) (n kp : Nat) (A' : Option Addr) (n' k' Bc : Nat) (hx : CdAt w Bc (cdv x A n kp A' n' k') x) (hBc : Bc ≤ w.heap.size) :
    Calls Tryz.prog 17 #[.pointer (some ⟨d, 0, none⟩), cdv x A n kp A' n' k'] w (RetLists w V b x) := by
  have HB1 : Hid (Below w.heap.size w (w.alloc (.cells (cells9 x A n kp A' n' k') 30))) := (Below.refl _ _).alloc (Nat.le_refl _) _
  have HC1 : Hid (CdRow (w.alloc (.cells (cells9 x A n kp A' n' k') 30)) w.heap.size x A n kp A' n' k') := CdRow.new _ _ _ _ _ _ _ _
  unfold RetLists
  cases ho : isOne x with
  | false =>
    have HL := Lib.hid (load_bad (h.below HB1.out) hc x A n kp A' n' k' Bc (hx.below HB1.out hBc) (Nat.le_trans hBc HB1.out.size) ho)
    simp only [Bool.false_eq_true, if_false]
    clear hx h hc ho
    unfold cells9 at *
    obtain ⟨e0, e1, e2, e3, e4, e5, e6, e7, e8⟩ := HC1.out.cells
    unfold nilS at *
    go_enter Tryz.func17, Tryz.ntmps17
    go_wp2_with (go_at_call 46; refine HL.out.mono ?_; rintro e w2 ⟨rfl, b2⟩)
    go_ret2
    exact ⟨rfl, HB1.out.trans (b2.mono HB1.out.size)⟩
  | true =>
    have h4 : IntsAt w Bc A 4 x.ps ∧ n = 4 := by
      obtain ⟨Q, m1, l, Q', m', l', e, i1, s1, _⟩ := hx
      injection e with e
      have e := congrArg Array.toList e
      simp only [List.cons.injEq, Value.slice.injEq, and_true] at e
      obtain ⟨_, _, _, _, ⟨rfl, rfl, rfl⟩, _⟩ := e
      have := i1.len
      rw [(isOne_t ho).2.2.1] at this
      subst this
      exact ⟨i1, rfl⟩
    have HL := Lib.hid (load_one (h.below HB1.out) hc x A n kp A' n' k' Bc (hx.below HB1.out hBc) ⟨h4.1.below HB1.out hBc, h4.2⟩ (Nat.le_trans hBc HB1.out.size) ho)
    unfold RetLd at HL
    simp only [if_pos ho, if_pos] at HL ⊢
    clear hx h hc h4
    unfold cells9 at *
    obtain ⟨e0, e1, e2, e3, e4, e5, e6, e7, e8⟩ := HC1.out.cells
    unfold nilS at *
    cases hl : ldOk V b x.ps x.sg x.db with
    | false =>
      rw [hl] at HL
      simp only [Bool.false_eq_true, if_false] at HL ⊢
      clear ho hl
      go_enter Tryz.func17, Tryz.ntmps17
      go_wp2_with (go_at_call 46; refine HL.out.mono ?_; rintro e w2 ⟨rfl, b2⟩)
      go_ret2
      exact ⟨rfl, HB1.out.trans (b2.mono HB1.out.size)⟩
    | true =>
      rw [hl] at HL
      simp only [if_pos] at HL ⊢
      clear ho hl
      go_enter Tryz.func17, Tryz.ntmps17
      go_wp2_with (go_at_call 46; refine HL.out.mono ?_; rintro e w2 ⟨g, gd, c2, hg, rfl, row2, y2, l2, b2⟩)
      go_ret2
      exact ⟨gd, c2, rfl, ⟨Nat.le_trans HB1.out.size y2.1, y2.2⟩, l2, HB1.out.trans (b2.mono HB1.out.size)⟩
end
end Go.Proofs.YtppbonjhckakiaaGreat.Dl
