/-
  WALKS of the law's own begin: a deal on a new slab, beside the reference's; both have a crown and marks. Condition: 64 to 400 blocks.
-/
import Derived.Test.YtbkgfkemjhaopaaGreatFH
set_option linter.unusedVariables false
set_option linter.unusedSimpArgs false
set_option maxRecDepth 100000
set_option maxHeartbeats 4000000
namespace Go.Proofs.YtbkgfkemjhaopaaGreat.Dl
open Go.RowKit
open Mk
open Sl (Turns SlabAt)
open Lg (Ch chCells chsCells FS LogAt Whole setL setL_len ownB bcell z128 newD newD_len newD_whole newD_get SsAt)
open Kr (crv rightK blockK okK kf kb kc KBox cells3 put3 put3_box put3_below marksK bit_marks marks_size I64 inB)

theorem kbox_tag {w : World} {g : Nat} {f b u : Int} (h : KBox w g f b u) : ∃ cs, w.heap[g]? = some (.cells cs 62 (0, 0)) := ⟨_, h⟩
theorem kbox_turns {w w' : World} {g : Nat} {f b u : Int} {L : List Nat} (h : KBox w g f b u) (t : Turns L w w') (hg : g ∉ L) : KBox w' g f b u := (t.block g h.lt hg).trans h
/-- as St, with a crown's box in place of the pair. -/
structure Two (gx : Nat) (w0 w : World) (B d q p pd pm R r N : Nat) (D V base now : List ByteArray) : Prop where
  bx : KBox w gx 1 (N : Int) 0
  ex : ∃ v gb cb gn cn, DV w B d q p pd pm 0 0 D V v ∧ RD w R r gb cb gn cn N base now
  hBR : B ≤ R
  hN : D.length = N
  hb : Below w0.heap.size w0 w
  hd : w0.heap.size ≤ d
  hB : w0.heap.size ≤ B
  wn : Whole now
  wb : Whole base
section
variable {gx : Nat} {w0 w w' : World} {B d q p pd pm R r : Nat} {g : Fram} {N : Nat} {D V V' base now now' : List ByteArray}
theorem Two.below (h : Two gx w0 w B d q p pd pm R r N D V base now) (hW : Below w.heap.size w w') : Two gx w0 w' B d q p pd pm R r N D V base now := by
  obtain ⟨v, gb, cb, gn, cn, dv, rd⟩ := h.ex
  exact ⟨h.bx.below hW h.bx.lt, ⟨v, gb, cb, gn, cn, dv.below hW, rd.below hW⟩, h.hBR, h.hN, h.hb.trans (hW.mono h.hb.size), h.hd, h.hB, h.wn, h.wb⟩
theorem Two.did {v : Value} {gb cb gn cn : Nat} (h : Two gx w0 w B d q p pd pm R r N D V base now) (dv : DV w B d q p pd pm 0 0 D V v) (rd : RD w R r gb cb gn cn N base now) (hw : WroteV w B d q p pd pm 0 0 D V' v w') : Two gx w0 w' B d q p pd pm R r N D V' base now := by
  obtain ⟨v', dv', t⟩ := hw
  refine ⟨kbox_turns h.bx t ?_, ⟨v', gb, cb, gn, cn, dv', rd.deal dv h.hBR (t.mono (all_in _))⟩, h.hBR, h.hN, h.hb.trans (t.below h.hb.size ?_), h.hd, h.hB, h.wn, h.wb⟩
  · intro hm
    obtain ⟨cs, hx⟩ := kbox_tag h.bx
    rcases List.mem_cons.1 hm with e | e
    · exact tag_ne hx (show w.heap[d]? = some (.cells _ 92 (0, 0)) from dv.dl) (by decide) e
    · obtain ⟨cs, ht⟩ := dv.own_tag (ownL_mem.1 e)
      exact tag_ne hx ht (by decide) rfl
  intro j hj
  rcases dv.own_ge j hj with e | e
  · rw [e]; exact h.hd
  · exact Nat.le_trans h.hB e
theorem Two.refd {v : Value} {gb cb gn cn : Nat} (h : Two gx w0 w B d q p pd pm R r N D V base now) (dv : DV w B d q p pd pm 0 0 D V v) (rd : RD w R r gb cb gn cn N base now) (rd' : RD w' R r gb cb gn cn N base now') (t : Turns [gn] w w') (wn : Whole now') : Two gx w0 w' B d q p pd pm R r N D V base now' := by
  have hgn := rd.gn_ge.1
  have hBR := h.hBR
  have hB := h.hB
  refine ⟨kbox_turns h.bx t ?_, ⟨v, gb, cb, gn, cn, dv.ref rd h.hBR (t.mono (fun j hj => by simp at hj ⊢; exact .inr hj)), rd'⟩, h.hBR, h.hN, h.hb.trans (t.below h.hb.size ?_), h.hd, h.hB, wn, h.wb⟩
  · intro hm
    obtain ⟨cs, hx⟩ := kbox_tag h.bx
    obtain ⟨cs, ht⟩ := own_tag rd.hn (b := gn) rfl
    simp only [List.mem_cons, List.not_mem_nil, or_false] at hm
    exact tag_ne hx ht (by decide) hm
  intro j hj
  simp only [List.mem_cons, List.not_mem_nil, or_false] at hj
  omega
theorem two_write {z : Int} (h : Two gx w0 w B d q p pd pm R r N D V base now) (i : Int) (s : ByteArray) (hs : s.size ≤ 9223372036854775807) (hz : wrE V i s = z) :
    Calls Tryz.prog 27 #[.pointer (some ⟨d, 0, none⟩), .int .i64 i, .string s] w fun e w' => e = .returned (.int .i64 z) ∧ Two gx w0 w' B d q p pd pm R r N D (wrV V i s) base now := by
  obtain ⟨v, gb, cb, gn, cn, dv, rd⟩ := h.ex
  rw [← hz]
  exact (write_dv B d q p pd pm 0 0 D V v i s w dv hs).mono fun e w' hx => ⟨hx.1, h.did dv rd hx.2⟩
theorem two_setcrown {z : Int} (h : Two gx w0 w B d q p pd pm R r N D V base now) (f b u : Int) (hz : scE V f b u = z) :
    Calls Tryz.prog 26 #[.pointer (some ⟨d, 0, none⟩), crv f b u] w fun e w' => e = .returned (.int .i64 z) ∧ Two gx w0 w' B d q p pd pm R r N D (scV V f b u) base now := by
  obtain ⟨v, gb, cb, gn, cn, dv, rd⟩ := h.ex
  rw [← hz]
  exact (setcrown_dv B d q p pd pm 0 0 D V v f b u w dv).mono fun e w' hx => ⟨hx.1, h.did dv rd hx.2⟩
theorem two_rsetcrown (h : Two gx w0 w B d q p pd pm R r N D V base now) (f b u : Int) (hN : 64 ≤ N) :
    Calls Tryz.prog 28 #[.pointer (some ⟨r, 0, none⟩), crv f b u] w fun e w' => e = .returned (.int .i64 (scE now f b u)) ∧ Two gx w0 w' B d q p pd pm R r N D V base (scV now f b u) := by
  obtain ⟨v, gb, cb, gn, cn, dv, rd⟩ := h.ex
  exact (rsetcrown_any R r gb cb gn cn N base now f b u w rd (by omega)).mono fun e w' hx => ⟨hx.1, h.refd dv rd hx.2.1 hx.2.2 (whole_sc h.wn f b u)⟩
theorem two_rwrite (h : Two gx w0 w B d q p pd pm R r N D V base now) (i : Int) (s : ByteArray) (hs : s.size ≤ 9223372036854775807) :
    Calls Tryz.prog 29 #[.pointer (some ⟨r, 0, none⟩), .int .i64 i, .string s] w fun e w' => e = .returned (.int .i64 (wrE now i s)) ∧ Two gx w0 w' B d q p pd pm R r N D V base (wrV now i s) := by
  obtain ⟨v, gb, cb, gn, cn, dv, rd⟩ := h.ex
  exact (rwrite_any R r gb cb gn cn N base now i s w rd hs).mono fun e w' hx => ⟨hx.1, h.refd dv rd hx.2.1 hx.2.2 (whole_wr h.wn i s)⟩
theorem Two.pair (h : Two gx w0 w B d q p pd pm R r N D V base now) : St w0 (w.alloc (.cells #[.pointer (some ⟨d, 0, none⟩), .pointer (some ⟨r, 0, none⟩)] 40)) B d q p pd pm R r ⟨w.heap.size, []⟩ N D V base now := by
  have h2 := h.below ((Below.refl w.heap.size w).alloc (Nat.le_refl _) (.cells #[.pointer (some ⟨d, 0, none⟩), .pointer (some ⟨r, 0, none⟩)] 40))
  exact ⟨h2.ex, h2.hBR, h2.hN, heap_alloc_new w _, fun x hx => (by cases hx), h2.hb, h2.hd, h2.hB, h2.wn, h2.wb⟩
theorem St.from {w1 : World} (h : St w1 w B d q p pd pm R r g N D V base now) (hb : Below w0.heap.size w0 w1) : St w0 w B d q p pd pm R r g N D V base now :=
  ⟨h.ex, h.hBR, h.hN, h.pr, h.fx, hb.trans (h.hb.mono hb.size), Nat.le_trans hb.size h.hd, Nat.le_trans hb.size h.hB, h.wn, h.wb⟩
end

/-! ### what is there at first -/
def mk0 (n : Int) (m : ByteArray) : ByteArray := if m.size = 0 then marksK n else m
def mk1 (n : Int) (m : ByteArray) : ByteArray := (mk0 n m).extract 0 (min (mk0 n m).size 128)
def V0 (n : Nat) (m : ByteArray) : List ByteArray := wrV (scV (newD n) 1 (n : Int) 0) 42 (mk1 n m)
theorem mk1_le (n : Int) (m : ByteArray) : (mk1 n m).size ≤ 128 := by unfold mk1; rw [ByteArray.size_extract]; omega
theorem sc_new {n : Nat} (h1 : 64 ≤ n) (h2 : n ≤ 400) : scOk (newD n) 1 (n : Int) 0 = true := by
  unfold scOk Kr.rightK Kr.inB
  rw [newD_len]
  simp; omega
theorem wr_new {n : Nat} (h1 : 64 ≤ n) (m : ByteArray) : wrOk (scV (newD n) 1 (n : Int) 0) 42 (mk1 n m) = true := by
  have hl : (scV (newD n) 1 (n : Int) 0).length = n := by unfold scV; split <;> simp [newD_len]
  unfold wrOk
  rw [hl, hasB_t.2 (by omega), decide_eq_true (mk1_le n m)]
  rfl
theorem V0_is {n : Nat} (h1 : 64 ≤ n) (h2 : n ≤ 400) (m : ByteArray) : V0 n m = ((newD n).set 0 (blockK 1 n 0)).set 42 (Sl.padS (mk1 n m) 128) := by
  have e1 : scV (newD n) 1 (n : Int) 0 = (newD n).set 0 (blockK 1 n 0) := by unfold scV; rw [if_pos (sc_new h1 h2)]
  unfold V0 wrV
  rw [if_pos (wr_new h1 m), e1]
  rfl
theorem V0_len {n : Nat} (h1 : 64 ≤ n) (h2 : n ≤ 400) (m : ByteArray) : (V0 n m).length = n := by rw [V0_is h1 h2, List.length_set, List.length_set, newD_len]
theorem V0_cr {n : Nat} (h1 : 64 ≤ n) (h2 : n ≤ 400) (m : ByteArray) : okCr (V0 n m) = true ∧ crB (V0 n m) = (n : Int) := by
  have e0 : (V0 n m).getD 0 ⟨#[]⟩ = blockK 1 n 0 := by
    rw [V0_is h1 h2, getD_set2, if_neg (by omega), getD_set2, newD_len, if_pos ⟨rfl, by omega⟩]
  have hr : rightK 1 (n : Int) 0 = true := by have := sc_new h1 h2; unfold scOk at this; simp only [Bool.and_eq_true] at this; exact this.1
  obtain ⟨k1, k2, k3⟩ := Kr.back_k hr
  have ho : okCr (V0 n m) = true := by
    unfold okCr Kr.okK
    rw [e0, k1, k2, k3, hr, V0_len h1 h2]
    simp
  refine ⟨ho, ?_⟩
  unfold crB
  rw [if_pos ho, e0, k2]
theorem V0_mk {n : Nat} (h1 : 64 ≤ n) (h2 : n ≤ 400) (m : ByteArray) : mkB (V0 n m) = Sl.padS (mk1 n m) 128 := by
  unfold mkB
  rw [V0_is h1 h2, getD_set2, List.length_set, newD_len, if_pos ⟨rfl, by omega⟩]

/-! ### begin -/
/-- what begin leaves. -/
def RetBg (w : World) (n : Nat) (m : ByteArray) (e : Ending) (w' : World) : Prop := ∃ B d q p pd pm R r g, e = .returned (.pointer (some ⟨g, 0, none⟩)) ∧ St w w' B d q p pd pm R r ⟨g, []⟩ n (newD n) (V0 n m) (newD n) (V0 n m) ∧ Agree n (V0 n m) (newD n) (V0 n m) (newD n)
theorem agree0 {n : Nat} (m : ByteArray) (h1 : 64 ≤ n) : Agree n (V0 n m) (newD n) (V0 n m) (newD n) := by
  have h := Agree.new (newD n) n
  have l1 : (scV (newD n) 1 (n : Int) 0).length = n := by unfold scV; split <;> simp [newD_len]
  exact (h.sc (newD_len n) (newD_len n) 1 n 0).wr l1 l1 42 (mk1 n m)
theorem isE_size (m : ByteArray) : m.toList.isEmpty = decide (m.size = 0) := by
  obtain ⟨d⟩ := m
  rw [ByteArray.toList_eq]
  show d.toList.isEmpty = decide (d.size = 0)
  rw [Bool.eq_iff_iff]
  simp
theorem begin13_any (n : Nat) (m : ByteArray) (w : World) (hn : 64 ≤ n) (hn2 : n ≤ 400) (hm : m.size ≤ 140737488355328) :
    Calls Tryz.prog 8 #[.int .i64 (n : Int), .string m] w (RetBg w n m) := by
  have HNEW := Lib.hid (Lg.new_calm n (by omega))
  have HOP := Lib.hid (fun p pd pm W hS => open_new n p pd pm hn W hS)
  have HBG := Lib.hid (fun q W => begin_any q W)
  have HMK := Lib.hid (fun W => Kr.rmarks_any (n : Int) W (by unfold I64; omega))
  have HN := Lib.hid (⟨hn, hn2⟩ : 64 ≤ n ∧ n ≤ 400)
  have HSS : Hid (scE (newD n) 1 (n : Int) 0 = 0) := by show _ = _; unfold scE; rw [if_pos (sc_new hn hn2)]
  have HWW : Hid (wrE (scV (newD n) 1 (n : Int) 0) 42 (mk1 n m) = 0) := by show _ = _; unfold wrE; rw [if_pos (wr_new hn m)]
  have HV : Hid (V0 n m = wrV (scV (newD n) 1 (n : Int) 0) 42 (mk1 n m)) := rfl
  have HAG := Lib.hid (agree0 m hn)
  have HNW := Lib.hid (newD_whole n)
  have HNL := Lib.hid (newD_len n)
  have HM1 : Hid (mk1 n m = (mk0 n m).extract 0 (min (mk0 n m).size 128)) := rfl
  have HMZ := Lib.hid (mk1_le n m)
  unfold RetBg
  by_cases h0 : m.size = 0
  · have HM0 : Hid (mk0 n m = marksK n) := by show _ = _; unfold mk0; rw [if_pos h0]
    have hE : m.toList.isEmpty = true := by rw [isE_size]; simp [h0]
    rw [HM0.out] at HM1
    have hmz := marks_size (n : Int)
    rw [hmz] at HM1
    generalize V0 n m = VV at *
    generalize mk1 n m = m1 at *
    generalize marksK n = mm at *
    have hm1 : m1 = mm.extract 0 128 := HM1.out
    clear HM1
    subst hm1
    have hmz2 : (mm.size : Int) = 128 := by omega
    clear hn hn2 HM0 h0
    unfold crv at *
    go_enter Tryz.func8, Tryz.ntmps8
    go_wp2_with (first
      | (go_at_call 20; refine (HNEW.out _).mono ?_; rintro e w1 ⟨p, pd, pm, rfl, h1, hp, hpd, hpm, b1⟩
         have HB1 := Lib.hid b1
         have HLp := Lib.hid (⟨h1.lt_p, h1.lt_d, h1.lt_m⟩ : p < w1.heap.size ∧ pd < w1.heap.size ∧ pm < w1.heap.size)
         have HP1 : Hid (w.heap.size ≤ p ∧ w.heap.size ≤ pd ∧ w.heap.size ≤ pm) := ⟨hp, hpd, hpm⟩
         have OP := Lib.hid (HOP.out p pd pm w1 h1)
         clear h1 b1 hp hpd hpm)
      | (go_at_call 19; refine OP.out.mono ?_; rintro e w2 ⟨q, rfl, hq, Q2, S2, t2⟩
         have HQ2 := Lib.hid Q2
         have HS2 := Lib.hid S2
         have HB2 := Lib.hid (HB1.out.trans (t2.below HB1.out.size (by have := HP1.out; simp; omega)))
         have hsz : w1.heap.size ≤ w2.heap.size := t2.size
         clear t2 Q2 S2)
      | (go_at_call 21; refine (HBG.out q w2).mono ?_; rintro e w3 ⟨rfl, D3, hz3, b3⟩
         have hq3 := HQ2.out.lt
         have hpp := HLp.out
         have HD3 := Lib.hid (DV.fresh D3 (HQ2.out.below b3 HQ2.out.lt) (HS2.out.keptB (Turns.of_below [] b3)) (by omega) (by simp; omega) (by simp; omega) HNW.out (by rw [HNL.out]; exact HN.out.1))
         have HB3 := Lib.hid (HB2.out.trans (b3.mono HB2.out.size))
         clear D3 b3 hz3 hq3 hpp)
      | (go_at_call 23; refine (HMK.out _).mono ?_; rintro e w3b ⟨rfl, b3b⟩
         have HB3b := Lib.hid (HB3.out.trans (b3b.mono HB3.out.size))
         have HD3b := Lib.hid (HD3.out.below b3b)
         have IM := Lib.hid (Lg.image_calm p pd pm (newD n) 0 w3b HD3b.out.sl)
         have hs33 : w3.heap.size ≤ w3b.heap.size := b3b.size
         rw [HNL.out] at IM
         clear b3b)
      | (go_at_call 25; refine IM.out.mono ?_; rintro e w4 ⟨rfl, r4, b4⟩
         have HB4 := Lib.hid (HB3b.out.trans (b4.mono HB3b.out.size))
         have HD4 := Lib.hid (HD3b.out.below b4)
         have hss4 := Lg.rowSs (B := w4.heap.size) r4 r4.lt
         rw [HNL.out] at hss4
         have RB := Lib.hid (rbegin_any _ n n w4.heap.size (newD n) w4 hss4 (Nat.le_refl _) (by have := HN.out; omega) (by have := HN.out; omega))
         have hs34 : w3.heap.size ≤ w4.heap.size := Nat.le_trans hs33 b4.size
         clear r4 b4 hss4)
      | (go_at_call 24; refine RB.out.mono ?_; rintro e w5 ⟨r, gb, cb, gn, cn, rfl, r5, b5⟩
         have hal : Below w5.heap.size w5 (w5.alloc (.cells #[.int .i64 1, .int .i64 (n : Int), .int .i64 0] 62)) := (Below.refl _ _).alloc (Nat.le_refl _) _
         have hb5 := b5.trans (hal.mono b5.size)
         have HT5 : Hid (Two w5.heap.size w (w5.alloc (.cells #[.int .i64 1, .int .i64 (n : Int), .int .i64 0] 62)) w3.heap.size w2.heap.size q p pd pm w4.heap.size r n (newD n) (newD n) (newD n) (newD n)) :=
           ⟨KBox.new3 w5 1 n 0, ⟨_, gb, cb, gn, cn, HD4.out.below hb5, r5.below hal⟩, hs34, HNL.out, HB4.out.trans (hb5.mono HB4.out.size), by have := HB1.out.size; omega, HB3.out.size, HNW.out, HNW.out⟩
         obtain ⟨y0, y1, y2⟩ := HT5.out.bx.row
         clear r5 b5 RB HD4 HB4 hal hb5)
      | (go_at_call 26; refine (two_setcrown HT5.out 1 (n : Int) 0 HSS.out).mono ?_; rintro e w6 ⟨rfl, HT6⟩; obtain ⟨y0, y1, y2⟩ := HT6.bx.row)
      | (go_at_call 27; refine (two_write HT6 42 (mm.extract 0 128) (by have := HMZ.out; omega) HWW.out).mono ?_; rintro e w7 ⟨rfl, HT7⟩; obtain ⟨y0, y1, y2⟩ := HT7.bx.row)
      | (go_at_call 28; refine (two_rsetcrown HT7 1 (n : Int) 0 HN.out.1).mono ?_; rintro e w8 ⟨rfl, HT8⟩)
      | (go_at_call 29; refine (two_rwrite HT8 42 (mm.extract 0 128) (by have := HMZ.out; omega)).mono ?_; rintro e w9 ⟨rfl, HT9⟩))
    go_ret
    exact ⟨_, _, _, _, _, _, _, _, _, rfl, by rw [HV.out]; exact HT9.pair, HAG.out⟩
  · have HM0 : Hid (mk0 n m = m) := by show _ = _; unfold mk0; rw [if_neg h0]
    have hE : m.toList.isEmpty = false := by rw [isE_size]; simp [h0]
    rw [HM0.out] at HM1
    generalize V0 n m = VV at *
    generalize mk1 n m = m1 at *
    clear hn hn2 HM0 h0
    unfold crv at *
    by_cases h128 : m.size ≤ 128
    · have hmi : min (m.size : Int) 128 = (m.size : Int) := by omega
      have hm1 : m1 = m := by rw [HM1.out, show min m.size 128 = m.size by omega]; exact ByteArray.extract_zero_size
      clear HM1
      subst hm1
      go_enter Tryz.func8, Tryz.ntmps8
      go_wp2_with (first
        | (go_at_call 20; refine (HNEW.out _).mono ?_; rintro e w1 ⟨p, pd, pm, rfl, h1, hp, hpd, hpm, b1⟩
           have HB1 := Lib.hid b1
           have HLp := Lib.hid (⟨h1.lt_p, h1.lt_d, h1.lt_m⟩ : p < w1.heap.size ∧ pd < w1.heap.size ∧ pm < w1.heap.size)
           have HP1 : Hid (w.heap.size ≤ p ∧ w.heap.size ≤ pd ∧ w.heap.size ≤ pm) := ⟨hp, hpd, hpm⟩
           have OP := Lib.hid (HOP.out p pd pm w1 h1)
           clear h1 b1 hp hpd hpm)
        | (go_at_call 19; refine OP.out.mono ?_; rintro e w2 ⟨q, rfl, hq, Q2, S2, t2⟩
           have HQ2 := Lib.hid Q2
           have HS2 := Lib.hid S2
           have HB2 := Lib.hid (HB1.out.trans (t2.below HB1.out.size (by have := HP1.out; simp; omega)))
           have hsz : w1.heap.size ≤ w2.heap.size := t2.size
           clear t2 Q2 S2)
        | (go_at_call 21; refine (HBG.out q w2).mono ?_; rintro e w3 ⟨rfl, D3, hz3, b3⟩
           have hq3 := HQ2.out.lt
           have hpp := HLp.out
           have HD3 := Lib.hid (DV.fresh D3 (HQ2.out.below b3 HQ2.out.lt) (HS2.out.keptB (Turns.of_below [] b3)) (by omega) (by simp; omega) (by simp; omega) HNW.out (by rw [HNL.out]; exact HN.out.1))
           have HB3 := Lib.hid (HB2.out.trans (b3.mono HB2.out.size))
           have IM := Lib.hid (Lg.image_calm p pd pm (newD n) 0 w3 HD3.out.sl)
           rw [HNL.out] at IM
           clear D3 b3 hz3 hq3 hpp)
        | (go_at_call 25; refine IM.out.mono ?_; rintro e w4 ⟨rfl, r4, b4⟩
           have HB4 := Lib.hid (HB3.out.trans (b4.mono HB3.out.size))
           have HD4 := Lib.hid (HD3.out.below b4)
           have hss4 := Lg.rowSs (B := w4.heap.size) r4 r4.lt
           rw [HNL.out] at hss4
           have RB := Lib.hid (rbegin_any _ n n w4.heap.size (newD n) w4 hss4 (Nat.le_refl _) (by have := HN.out; omega) (by have := HN.out; omega))
           have hs34 : w3.heap.size ≤ w4.heap.size := b4.size
           clear r4 b4 hss4)
        | (go_at_call 24; refine RB.out.mono ?_; rintro e w5 ⟨r, gb, cb, gn, cn, rfl, r5, b5⟩
           have hal : Below w5.heap.size w5 (w5.alloc (.cells #[.int .i64 1, .int .i64 (n : Int), .int .i64 0] 62)) := (Below.refl _ _).alloc (Nat.le_refl _) _
           have hb5 := b5.trans (hal.mono b5.size)
           have HT5 : Hid (Two w5.heap.size w (w5.alloc (.cells #[.int .i64 1, .int .i64 (n : Int), .int .i64 0] 62)) w3.heap.size w2.heap.size q p pd pm w4.heap.size r n (newD n) (newD n) (newD n) (newD n)) :=
             ⟨KBox.new3 w5 1 n 0, ⟨_, gb, cb, gn, cn, HD4.out.below hb5, r5.below hal⟩, hs34, HNL.out, HB4.out.trans (hb5.mono HB4.out.size), by have := HB1.out.size; omega, HB3.out.size, HNW.out, HNW.out⟩
           obtain ⟨y0, y1, y2⟩ := HT5.out.bx.row
           clear r5 b5 RB HD4 HB4 hal hb5)
        | (go_at_call 26; refine (two_setcrown HT5.out 1 (n : Int) 0 HSS.out).mono ?_; rintro e w6 ⟨rfl, HT6⟩; obtain ⟨y0, y1, y2⟩ := HT6.bx.row)
        | (go_at_call 27; refine (two_write HT6 42 m1 (by have := HMZ.out; omega) HWW.out).mono ?_; rintro e w7 ⟨rfl, HT7⟩; obtain ⟨y0, y1, y2⟩ := HT7.bx.row)
        | (go_at_call 28; refine (two_rsetcrown HT7 1 (n : Int) 0 HN.out.1).mono ?_; rintro e w8 ⟨rfl, HT8⟩)
        | (go_at_call 29; refine (two_rwrite HT8 42 m1 (by have := HMZ.out; omega)).mono ?_; rintro e w9 ⟨rfl, HT9⟩))
      go_ret
      exact ⟨_, _, _, _, _, _, _, _, _, rfl, by rw [HV.out]; exact HT9.pair, HAG.out⟩
    · have hmi : min (m.size : Int) 128 = 128 := by omega
      have hm1 : m1 = m.extract 0 128 := by rw [HM1.out, show min m.size 128 = 128 by omega]
      clear HM1
      subst hm1
      go_enter Tryz.func8, Tryz.ntmps8
      go_wp2_with (first
        | (go_at_call 20; refine (HNEW.out _).mono ?_; rintro e w1 ⟨p, pd, pm, rfl, h1, hp, hpd, hpm, b1⟩
           have HB1 := Lib.hid b1
           have HLp := Lib.hid (⟨h1.lt_p, h1.lt_d, h1.lt_m⟩ : p < w1.heap.size ∧ pd < w1.heap.size ∧ pm < w1.heap.size)
           have HP1 : Hid (w.heap.size ≤ p ∧ w.heap.size ≤ pd ∧ w.heap.size ≤ pm) := ⟨hp, hpd, hpm⟩
           have OP := Lib.hid (HOP.out p pd pm w1 h1)
           clear h1 b1 hp hpd hpm)
        | (go_at_call 19; refine OP.out.mono ?_; rintro e w2 ⟨q, rfl, hq, Q2, S2, t2⟩
           have HQ2 := Lib.hid Q2
           have HS2 := Lib.hid S2
           have HB2 := Lib.hid (HB1.out.trans (t2.below HB1.out.size (by have := HP1.out; simp; omega)))
           have hsz : w1.heap.size ≤ w2.heap.size := t2.size
           clear t2 Q2 S2)
        | (go_at_call 21; refine (HBG.out q w2).mono ?_; rintro e w3 ⟨rfl, D3, hz3, b3⟩
           have hq3 := HQ2.out.lt
           have hpp := HLp.out
           have HD3 := Lib.hid (DV.fresh D3 (HQ2.out.below b3 HQ2.out.lt) (HS2.out.keptB (Turns.of_below [] b3)) (by omega) (by simp; omega) (by simp; omega) HNW.out (by rw [HNL.out]; exact HN.out.1))
           have HB3 := Lib.hid (HB2.out.trans (b3.mono HB2.out.size))
           have IM := Lib.hid (Lg.image_calm p pd pm (newD n) 0 w3 HD3.out.sl)
           rw [HNL.out] at IM
           clear D3 b3 hz3 hq3 hpp)
        | (go_at_call 25; refine IM.out.mono ?_; rintro e w4 ⟨rfl, r4, b4⟩
           have HB4 := Lib.hid (HB3.out.trans (b4.mono HB3.out.size))
           have HD4 := Lib.hid (HD3.out.below b4)
           have hss4 := Lg.rowSs (B := w4.heap.size) r4 r4.lt
           rw [HNL.out] at hss4
           have RB := Lib.hid (rbegin_any _ n n w4.heap.size (newD n) w4 hss4 (Nat.le_refl _) (by have := HN.out; omega) (by have := HN.out; omega))
           have hs34 : w3.heap.size ≤ w4.heap.size := b4.size
           clear r4 b4 hss4)
        | (go_at_call 24; refine RB.out.mono ?_; rintro e w5 ⟨r, gb, cb, gn, cn, rfl, r5, b5⟩
           have hal : Below w5.heap.size w5 (w5.alloc (.cells #[.int .i64 1, .int .i64 (n : Int), .int .i64 0] 62)) := (Below.refl _ _).alloc (Nat.le_refl _) _
           have hb5 := b5.trans (hal.mono b5.size)
           have HT5 : Hid (Two w5.heap.size w (w5.alloc (.cells #[.int .i64 1, .int .i64 (n : Int), .int .i64 0] 62)) w3.heap.size w2.heap.size q p pd pm w4.heap.size r n (newD n) (newD n) (newD n) (newD n)) :=
             ⟨KBox.new3 w5 1 n 0, ⟨_, gb, cb, gn, cn, HD4.out.below hb5, r5.below hal⟩, hs34, HNL.out, HB4.out.trans (hb5.mono HB4.out.size), by have := HB1.out.size; omega, HB3.out.size, HNW.out, HNW.out⟩
           obtain ⟨y0, y1, y2⟩ := HT5.out.bx.row
           clear r5 b5 RB HD4 HB4 hal hb5)
        | (go_at_call 26; refine (two_setcrown HT5.out 1 (n : Int) 0 HSS.out).mono ?_; rintro e w6 ⟨rfl, HT6⟩; obtain ⟨y0, y1, y2⟩ := HT6.bx.row)
        | (go_at_call 27; refine (two_write HT6 42 (m.extract 0 128) (by have := HMZ.out; omega) HWW.out).mono ?_; rintro e w7 ⟨rfl, HT7⟩; obtain ⟨y0, y1, y2⟩ := HT7.bx.row)
        | (go_at_call 28; refine (two_rsetcrown HT7 1 (n : Int) 0 HN.out.1).mono ?_; rintro e w8 ⟨rfl, HT8⟩)
        | (go_at_call 29; refine (two_rwrite HT8 42 (m.extract 0 128) (by have := HMZ.out; omega)).mono ?_; rintro e w9 ⟨rfl, HT9⟩))
      go_ret
      exact ⟨_, _, _, _, _, _, _, _, _, rfl, by rw [HV.out]; exact HT9.pair, HAG.out⟩
end Go.Proofs.YtbkgfkemjhaopaaGreat.Dl
