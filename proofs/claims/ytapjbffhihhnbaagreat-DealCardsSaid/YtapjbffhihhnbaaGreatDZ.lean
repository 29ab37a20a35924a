/-
  WALKS: a step that reads the crown and a card. Condition: a deal on a calm slab, beside the reference's.
-/
import Derived.Test.YtapjbffhihhnbaaGreatDW
import Derived.Deep.RegionHeld3
import Derived.Deep.DeepMust
import Derived.Deep.DeepFit
set_option linter.unusedVariables false
set_option linter.unusedSimpArgs false
set_option maxRecDepth 100000
set_option maxHeartbeats 4000000
namespace Go.Proofs.YtapjbffhihhnbaaGreat.Dl
open Go.RowKit
open Sl (Turns SlabAt)
open Lg (Ch chCells chsCells FS LogAt Whole setL setL_len ownB bcell)
open Kr (crv rightK blockK okK kf kb kc)

theorem step3 (B d q p pd pm k c : Nat) (D V : List ByteArray) (v : Value) (R r gb cb gn cn N : Nat) (base now : List ByteArray) (vo : Value) (o : OpD) (BO : Nat) (w : World)
    (h : DV w B d q p pd pm k c D V v) (hR : RD w R r gb cb gn cn N base now) (hBR : B ≤ R) (hN : D.length = N) (hw : Whole now) (hwb : Whole base) (ho : OpAt w BO vo o) (hBO : BO ≤ w.heap.size) (hk : kdO o = 3) :
    Calls Tryz.prog 12 #[.pointer (some ⟨d, 0, none⟩), .pointer (some ⟨r, 0, none⟩), vo] w (StepTo w B d q p pd pm k c D V v R r gn N base now o) := by
  obtain ⟨A, m, l, A', m', l', rfl, hcd, hs⟩ := ho
  have HX0 : Hid (ORow (w.alloc (.cells (ocells o A m l A' m' l') 42)) w.heap.size o A m l A' m' l') := ORow.new w o A m l A' m' l'
  have HB0 : Hid (Below w.heap.size w (w.alloc (.cells (ocells o A m l A' m' l') 42))) := (Below.refl _ _).alloc (Nat.le_refl _) _
  have HD := Lib.hid h
  have HR := Lib.hid hR
  have HBR := Lib.hid hBR
  have HWH := Lib.hid hw
  have HWB := Lib.hid hwb
  have HNN := Lib.hid hN
  have HVL : Hid (V.length = N) := h.len.trans hN
  have HNL := Lib.hid hR.ln
  have HKK := Lib.hid hk
  have HK := Lib.hid (fun W => kind_any o A m l A' m' l' W)
  rw [hk] at HK
  have hN6 : 64 ≤ N := by rw [← hN]; exact h.least
  have HCR := Lib.hid (fun (W : World) (hW : Below w.heap.size w W) => crown_dv B d q p pd pm k c D V v W (h.below hW))
  have HRC := Lib.hid (fun (W : World) (hW : Below w.heap.size w W) => rcrown_any R r gb cb gn cn N base now W (hR.below hW) (by omega) (by rw [hw.get (by rw [hR.ln]; omega)]; omega))
  have HCA := Lib.hid (fun (W : World) (hW : Below w.heap.size w W) => card_dv B d q p pd pm k c D V v o.i W (h.below hW))
  have HRA := Lib.hid (fun (W : World) (hW : Below w.heap.size w W) => rcard_any R r gb cb gn cn N base now o.i W (hR.below hW) hN6 hw)
  have HAC : Hid (Agree N V D now base → (crF V = crF now ∧ crB V = crB now ∧ crC V = crC now ∧ crE V = crE now)) := fun ha => ha.cr HVL.out HNL.out hN6
  have HAD : Hid (Agree N V D now base → (crdC V o.i = crdC now o.i ∧ crdE V o.i = crdE now o.i)) := fun ha => ha.cd hN6 o.i
  have HST : Hid (∀ W res, Below w.heap.size w W → (Agree N V D now base → res = true) → StepTo w B d q p pd pm k c D V v R r gn N base now o (.returned (.bool res)) W) := fun W res hb hr =>
    ⟨res, k, c, D, V, v, gb, cb, gn, cn, base, now, rfl, by omega, by omega, HD.out.below hb, HR.out.below hb, HWH.out, HWB.out, HNN.out, Turns.of_below _ hb, fun ha => ⟨hr ha, ha⟩, fun _ => ⟨rfl, rfl, rfl⟩⟩
  have HN3 := Lib.hid KBox.new3
  have HNB : Hid (∀ (W : World) (o : Obj), Below W.heap.size W (W.alloc o)) := fun W o => (Below.refl _ _).alloc (Nat.le_refl _) _
  unfold RetCr at HCR HRC
  unfold RetCN at HCA HRA
  unfold crv at *
  generalize crF V = F at *
  generalize crB V = U at *
  generalize crC V = C at *
  generalize crE V = E at *
  generalize crF now = F' at *
  generalize crB now = U' at *
  generalize crC now = C' at *
  generalize crE now = E' at *
  generalize crdC V o.i = X at *
  generalize crdC now o.i = X' at *
  generalize crdE V o.i = Z at *
  generalize crdE now o.i = Z' at *
  obtain ⟨S, hS⟩ := flag (X = X')
  have HS := Lib.hid hS
  have HSM := Lib.hid (fun (W : World) (va vb : Value) (BB : Nat) (ha : CdAt W BB va X) (hb : CdAt W BB vb X') (hB : BB ≤ W.heap.size) => rsame_any va vb X X' BB S W hS ha hb hB)
  clear hS
  unfold ocells at HX0 HB0
  clear h hR hBR hN hw hwb hk hcd hs
  go_enter Tryz.func12, Tryz.ntmps12
  obtain ⟨x0, x1, x2, x3, x4, x5⟩ := HX0.out.cells
  obtain ⟨y0, y1, y2, y3, y4, y5, y6, y7, y8⟩ := HX0.out.cells9
  go_wp2_with fail
  refine (HK.out _).mono ?_
  rintro e w1 ⟨rfl, b1⟩
  have HB1 := Lib.hid (HB0.out.trans (b1.mono HB0.out.size))
  have HX1 := Lib.hid (HX0.out.below b1)
  clear x0 x1 x2 x3 x4 x5 y0 y1 y2 y3 y4 y5 y6 y7 y8 b1 HX0 HB0 HK
  obtain ⟨x0, x1, x2, x3, x4, x5⟩ := HX1.out.cells
  go_wp2_with fail
  refine (HCR.out _ HB1.out).mono ?_
  rintro e w2 ⟨rfl, b2⟩
  have HB2 := Lib.hid ((HB1.out.trans (b2.mono HB1.out.size)).alloc (Nat.le_trans HB1.out.size b2.size) (.cells #[.int .i64 F, .int .i64 U, .int .i64 C] 36))
  have HX2 := Lib.hid ((HX1.out.below b2).below (HNB.out w2 (.cells #[.int .i64 F, .int .i64 U, .int .i64 C] 36)))
  have HA2 := Lib.hid (HN3.out w2 F U C)
  clear b2 HB1 HX1 x0 x1 x2 x3 x4 x5
  go_wp2_with fail
  generalize w2.alloc (.cells #[.int .i64 F, .int .i64 U, .int .i64 C] 36) = v2 at *
  generalize w2.heap.size = g2 at *
  refine (HRC.out _ HB2.out).mono ?_
  rintro e w3 ⟨rfl, b3⟩
  have hb3 := Lib.hid (HNB.out w3 (.cells #[.int .i64 F', .int .i64 U', .int .i64 C'] 36))
  have HB3 := Lib.hid ((HB2.out.trans (b3.mono HB2.out.size)).alloc (Nat.le_trans HB2.out.size b3.size) (.cells #[.int .i64 F', .int .i64 U', .int .i64 C'] 36))
  have HX3 := Lib.hid ((HX2.out.below b3).below hb3.out)
  have HA3 := Lib.hid ((HA2.out.below b3 HA2.out.lt).below hb3.out (Nat.lt_of_lt_of_le HA2.out.lt b3.size))
  have HC3 := Lib.hid (HN3.out w3 F' U' C')
  clear b3 hb3 HB2 HX2 HA2
  obtain ⟨x0, x1, x2, x3, x4, x5⟩ := HX3.out.cells
  go_wp2_with fail
  generalize w3.alloc (.cells #[.int .i64 F', .int .i64 U', .int .i64 C'] 36) = v3 at *
  generalize w3.heap.size = g3 at *
  refine (HCA.out _ HB3.out).mono ?_
  rintro e w4 ⟨v4, rfl, n4, b4⟩
  obtain ⟨A1, m1, l1, A2, m2, l2, _, _, rfl, i4, s4, bm4, bn4, f4⟩ := n4
  have hd4 : CdAt w4 w4.heap.size (cdv X A1 m1 l1 A2 m2 l2) X := ⟨A1, m1, l1, A2, m2, l2, rfl, i4, s4, bm4, bn4, f4⟩
  have hb4 := Lib.hid (HNB.out w4 (.cells #[.int .i64 X.fm, .int .i64 X.kd, .int .i64 X.ln, .int .i64 X.sz, .slice A1 m1 l1, .int .i64 X.sg, .int .i64 X.db, .slice A2 m2 l2, .int .i64 X.ov] 40))
  have HB4 := Lib.hid ((HB3.out.trans (b4.mono HB3.out.size)).alloc (Nat.le_trans HB3.out.size b4.size) (.cells #[.int .i64 X.fm, .int .i64 X.kd, .int .i64 X.ln, .int .i64 X.sz, .slice A1 m1 l1, .int .i64 X.sg, .int .i64 X.db, .slice A2 m2 l2, .int .i64 X.ov] 40))
  have HX4 := Lib.hid ((HX3.out.below b4).below hb4.out)
  have HA4 := Lib.hid ((HA3.out.below b4 HA3.out.lt).below hb4.out (Nat.lt_of_lt_of_le HA3.out.lt b4.size))
  have HC4 := Lib.hid ((HC3.out.below b4 HC3.out.lt).below hb4.out (Nat.lt_of_lt_of_le HC3.out.lt b4.size))
  have HD4 := Lib.hid ((hd4.below hb4.out (Nat.le_refl _)).more hb4.out.size)
  have HP4 : Hid (CdRow (w4.alloc (.cells #[.int .i64 X.fm, .int .i64 X.kd, .int .i64 X.ln, .int .i64 X.sz, .slice A1 m1 l1, .int .i64 X.sg, .int .i64 X.db, .slice A2 m2 l2, .int .i64 X.ov] 40)) w4.heap.size X A1 m1 l1 A2 m2 l2) := CdRow.new w4 X A1 m1 l1 A2 m2 l2
  clear b4 hb4 hd4 i4 s4 bm4 bn4 f4 HB3 HX3 HA3 HC3 x0 x1 x2 x3 x4 x5
  obtain ⟨x0, x1, x2, x3, x4, x5⟩ := HX4.out.cells
  go_wp2_with fail
  generalize w4.alloc (.cells #[.int .i64 X.fm, .int .i64 X.kd, .int .i64 X.ln, .int .i64 X.sz, .slice A1 m1 l1, .int .i64 X.sg, .int .i64 X.db, .slice A2 m2 l2, .int .i64 X.ov] 40) = v4 at *
  generalize w4.heap.size = g4 at *
  refine (HRA.out _ HB4.out).mono ?_
  rintro e w5 ⟨v5, rfl, n5, b5⟩
  obtain ⟨A3, m3, l3, A4, m4, l4, _, _, rfl, i5, s5, bm5, bn5, f5⟩ := n5
  have hd5 : CdAt w5 w5.heap.size (cdv X' A3 m3 l3 A4 m4 l4) X' := ⟨A3, m3, l3, A4, m4, l4, rfl, i5, s5, bm5, bn5, f5⟩
  have hb5 := Lib.hid (HNB.out w5 (.cells #[.int .i64 X'.fm, .int .i64 X'.kd, .int .i64 X'.ln, .int .i64 X'.sz, .slice A3 m3 l3, .int .i64 X'.sg, .int .i64 X'.db, .slice A4 m4 l4, .int .i64 X'.ov] 40))
  have HB5 := Lib.hid ((HB4.out.trans (b5.mono HB4.out.size)).alloc (Nat.le_trans HB4.out.size b5.size) (.cells #[.int .i64 X'.fm, .int .i64 X'.kd, .int .i64 X'.ln, .int .i64 X'.sz, .slice A3 m3 l3, .int .i64 X'.sg, .int .i64 X'.db, .slice A4 m4 l4, .int .i64 X'.ov] 40))
  have HA5 := Lib.hid ((HA4.out.below b5 HA4.out.lt).below hb5.out (Nat.lt_of_lt_of_le HA4.out.lt b5.size))
  have HC5 := Lib.hid ((HC4.out.below b5 HC4.out.lt).below hb5.out (Nat.lt_of_lt_of_le HC4.out.lt b5.size))
  have HD5 := Lib.hid ((((HD4.out.below b5 (Nat.le_refl _)).more b5.size).below hb5.out (Nat.le_refl _)).more hb5.out.size)
  have HP5 := Lib.hid ((HP4.out.below b5 HP4.out.lt).below hb5.out (Nat.lt_of_lt_of_le HP4.out.lt b5.size))
  have HE5 := Lib.hid ((hd5.below hb5.out (Nat.le_refl _)).more hb5.out.size)
  have HQ5 : Hid (CdRow (w5.alloc (.cells #[.int .i64 X'.fm, .int .i64 X'.kd, .int .i64 X'.ln, .int .i64 X'.sz, .slice A3 m3 l3, .int .i64 X'.sg, .int .i64 X'.db, .slice A4 m4 l4, .int .i64 X'.ov] 40)) w5.heap.size X' A3 m3 l3 A4 m4 l4) := CdRow.new w5 X' A3 m3 l3 A4 m4 l4
  clear b5 hb5 hd5 i5 s5 bm5 bn5 f5 HB4 HX4 HA4 HC4 HD4 HP4 x0 x1 x2 x3 x4 x5 HCR HRC HCA HRA HN3 HNB
  go_upto_region 15 with fail
  generalize w5.alloc (.cells #[.int .i64 X'.fm, .int .i64 X'.kd, .int .i64 X'.ln, .int .i64 X'.sz, .slice A3 m3 l3, .int .i64 X'.sg, .int .i64 X'.db, .slice A4 m4 l4, .int .i64 X'.ov] 40) = v5 at *
  generalize w5.heap.size = g5 at *
  obtain ⟨a0, a1, a2⟩ := HA5.out.row
  obtain ⟨c0, c1, c2⟩ := HC5.out.row
  obtain ⟨p0, p1, p2, p3, p4, p5, p6, p7, p8⟩ := HP5.out.cells
  obtain ⟨q0, q1, q2, q3, q4, q5, q6, q7, q8⟩ := HQ5.out.cells
  go_wp2_with (go_at_call 26; refine (HSM.out _ _ _ _ HD5.out HE5.out (Nat.le_refl _)).mono ?_; rintro e w6 ⟨rfl, b6⟩)
  all_goals go_ret
  all_goals first
    | (refine HST.out _ false HB5.out (fun ha => ?_); obtain ⟨h1, h2, h3, h4⟩ := HAC.out ha; contradiction)
    | (refine HST.out _ false (HB5.out.trans (b6.mono HB5.out.size)) (fun ha => ?_); obtain ⟨h1, h2⟩ := HAD.out ha; have h3 := HS.out.2 h1; contradiction)
    | (refine HST.out _ (Z == Z') (HB5.out.trans (b6.mono HB5.out.size)) (fun ha => ?_); obtain ⟨h1, h2⟩ := HAD.out ha; rw [h2]; simp)
end Go.Proofs.YtapjbffhihhnbaaGreat.Dl
