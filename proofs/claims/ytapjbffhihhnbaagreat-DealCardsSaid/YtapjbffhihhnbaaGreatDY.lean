/-
  WALKS: a step that discards, or commits. Condition: a deal on a calm slab, beside the reference's.
-/
import Derived.Test.YtapjbffhihhnbaaGreatDW
import Derived.Deep.RegionHeld3
import Derived.Deep.DeepMust
import Derived.Deep.DeepFit
set_option linter.unusedVariables false
set_option linter.unusedSimpArgs false
set_option maxRecDepth 100000
set_option maxHeartbeats 4000000
namespace Go.Proofs.YtapjbffhihhnbaaGreat.Dl
open Go.RowKit
open Sl (Turns SlabAt)
open Lg (Ch chCells chsCells FS LogAt Whole setL setL_len ownB bcell)
open Kr (crv rightK blockK okK kf kb kc)

theorem step5 (B d q p pd pm k c : Nat) (D V : List ByteArray) (v : Value) (R r gb cb gn cn N : Nat) (base now : List ByteArray) (vo : Value) (o : OpD) (BO : Nat) (w : World)
    (h : DV w B d q p pd pm k c D V v) (hR : RD w R r gb cb gn cn N base now) (hBR : B ≤ R) (hN : D.length = N) (hw : Whole now) (hwb : Whole base) (ho : OpAt w BO vo o) (hBO : BO ≤ w.heap.size) (hk : kdO o = 5) :
    Calls Tryz.prog 12 #[.pointer (some ⟨d, 0, none⟩), .pointer (some ⟨r, 0, none⟩), vo] w (StepTo w B d q p pd pm k c D V v R r gn N base now o) := by
  obtain ⟨A, m, l, A', m', l', rfl, hcd, hs⟩ := ho
  have HX0 : Hid (ORow (w.alloc (.cells (ocells o A m l A' m' l') 42)) w.heap.size o A m l A' m' l') := ORow.new w o A m l A' m' l'
  have HB0 : Hid (Below w.heap.size w (w.alloc (.cells (ocells o A m l A' m' l') 42))) := (Below.refl _ _).alloc (Nat.le_refl _) _
  have HD := Lib.hid h
  have HR := Lib.hid hR
  have HBR := Lib.hid hBR
  have HWH := Lib.hid hw
  have HWB := Lib.hid hwb
  have HNN := Lib.hid hN
  have HVL : Hid (V.length = N) := h.len.trans hN
  have HNL := Lib.hid hR.ln
  have HKK := Lib.hid hk
  have HK := Lib.hid (fun W => kind_any o A m l A' m' l' W)
  rw [hk] at HK
  have hN6 : 64 ≤ N := by rw [← hN]; exact h.least
  have HUD := Lib.hid (fun (W : World) (hW : Below w.heap.size w W) => undo_dv B d q p pd pm k c D V v W (h.below hW))
  have HUR := Lib.hid (fun (W : World) (hr : RD W R r gb cb gn cn N base now) => rundo_any R r gb cb gn cn N base now W hr (by omega) (by rw [← hN]; exact h.most))
  have HRT : Hid (∀ W W2, Below w.heap.size w W → Turns [d] W W2 → RD W2 R r gb cb gn cn N base now) := fun W W2 hW t2 => (hR.below hW).deal (h.below hW) hBR (t2.mono fun j hj => by simp at hj ⊢; exact .inl hj)
  unfold ocells at HX0 HB0
  clear h hR hBR hN hw hwb hk hcd hs
  go_enter Tryz.func12, Tryz.ntmps12
  obtain ⟨x0, x1, x2, x3, x4, x5⟩ := HX0.out.cells
  obtain ⟨y0, y1, y2, y3, y4, y5, y6, y7, y8⟩ := HX0.out.cells9
  go_wp2_with fail
  refine (HK.out _).mono ?_
  rintro e w1 ⟨rfl, b1⟩
  have HB1 := Lib.hid (HB0.out.trans (b1.mono HB0.out.size))
  have HX1 := Lib.hid (HX0.out.below b1)
  clear x0 x1 x2 x3 x4 x5 y0 y1 y2 y3 y4 y5 y6 y7 y8 b1 HX0 HB0 HK
  obtain ⟨x0, x1, x2, x3, x4, x5⟩ := HX1.out.cells
  go_wp2_with (first
    | (go_at_call 30; refine (HUD.out _ HB1.out).mono ?_; rintro e w2 ⟨rfl, d2, t2⟩
       have HR2 := Lib.hid (HRT.out _ _ HB1.out t2)
       have HD2 := Lib.hid d2
       have HT2 : Hid (Turns [d] w w2) := (Turns.of_below _ HB1.out).trans t2
       clear t2 d2 x0 x1 x2 x3 x4 x5 HX1)
    | (go_at_call 41; refine (HUR.out _ HR2.out).mono ?_; rintro e w3 ⟨rfl, ⟨gn', cn', r3⟩, t3⟩))
  go_ret
  exact ⟨true, k, c, D, D, _, gb, cb, gn', cn', base, base, rfl, by omega, by omega, HD2.out.ref HR2.out HBR.out t3, r3, HWB.out, HWB.out, HNN.out, (turns_d (HT2.out.mono fun j hj => by simp at hj ⊢; exact .inl hj)).trans (turns_rg t3), fun ha => ⟨rfl, ha.undo⟩, fun _ => ⟨rfl, rfl, rfl⟩⟩

theorem step6 (B d q p pd pm k c : Nat) (D V : List ByteArray) (v : Value) (R r gb cb gn cn N : Nat) (base now : List ByteArray) (vo : Value) (o : OpD) (BO : Nat) (w : World)
    (h : DV w B d q p pd pm k c D V v) (hR : RD w R r gb cb gn cn N base now) (hBR : B ≤ R) (hN : D.length = N) (hw : Whole now) (hwb : Whole base) (ho : OpAt w BO vo o) (hBO : BO ≤ w.heap.size) (hc6 : c ≤ 600000) (hk6 : k ≤ 1000000) (hk : kdO o = 6) :
    Calls Tryz.prog 12 #[.pointer (some ⟨d, 0, none⟩), .pointer (some ⟨r, 0, none⟩), vo] w (StepTo w B d q p pd pm k c D V v R r gn N base now o) := by
  obtain ⟨A, m, l, A', m', l', rfl, hcd, hs⟩ := ho
  have HX0 : Hid (ORow (w.alloc (.cells (ocells o A m l A' m' l') 42)) w.heap.size o A m l A' m' l') := ORow.new w o A m l A' m' l'
  have HB0 : Hid (Below w.heap.size w (w.alloc (.cells (ocells o A m l A' m' l') 42))) := (Below.refl _ _).alloc (Nat.le_refl _) _
  have HD := Lib.hid h
  have HR := Lib.hid hR
  have HBR := Lib.hid hBR
  have HWH := Lib.hid hw
  have HWB := Lib.hid hwb
  have HNN := Lib.hid hN
  have HVL : Hid (V.length = N) := h.len.trans hN
  have HNL := Lib.hid hR.ln
  have HKK := Lib.hid hk
  have HK := Lib.hid (fun W => kind_any o A m l A' m' l' W)
  rw [hk] at HK
  have hN6 : 64 ≤ N := by rw [← hN]; exact h.least
  have HCD := Lib.hid (fun (W : World) (hW : Below w.heap.size w W) => commit_dv B d q p pd pm k c D V v W (h.below hW) hc6 hk6)
  have HCR := Lib.hid (fun (W : World) (hr : RD W R r gb cb gn cn N base now) => rcommit_any R r gb cb gn cn N base now W hr (by omega) (by rw [← hN]; exact h.most))
  have HRT : Hid (∀ W W2, Below w.heap.size w W → Turns [d, q, p, pd, pm] W W2 → RD W2 R r gb cb gn cn N base now) := fun W W2 hW t2 => (hR.below hW).deal (h.below hW) hBR (t2.mono fun j hj => by
    simp only [List.mem_cons, List.not_mem_nil, or_false] at hj ⊢
    rcases hj with h | h | h | h | h
    · exact .inl h
    · exact .inr (.inl h)
    · exact .inr (.inr (.inl h))
    · exact .inr (.inr (.inr (.inl h)))
    · exact .inr (.inr (.inr (.inr (.inl h)))))
  have HDF : Hid (Agree N V D now base → (diffL V D).length = (diffL now base).length) := fun ha => by rw [ha.diff HVL.out HNL.out (fun i hi => h.own hi)]
  generalize (diffL V D).length = l1 at *
  generalize (diffL now base).length = l2 at *
  by_cases g1 : 40 < l1
  · by_cases g2 : 40 < l2
    · skip
      have H1 := Lib.hid g1
      have H2 := Lib.hid g2
      rw [if_pos g2] at HCR
      clear g1 g2
      unfold ocells at HX0 HB0
      clear h hR hBR hN hw hwb hk hcd hs
      go_enter Tryz.func12, Tryz.ntmps12
      obtain ⟨x0, x1, x2, x3, x4, x5⟩ := HX0.out.cells
      obtain ⟨y0, y1, y2, y3, y4, y5, y6, y7, y8⟩ := HX0.out.cells9
      go_wp2_with fail
      refine (HK.out _).mono ?_
      rintro e w1 ⟨rfl, b1⟩
      have HB1 := Lib.hid (HB0.out.trans (b1.mono HB0.out.size))
      have HX1 := Lib.hid (HX0.out.below b1)
      clear x0 x1 x2 x3 x4 x5 y0 y1 y2 y3 y4 y5 y6 y7 y8 b1 HX0 HB0 HK
      obtain ⟨x0, x1, x2, x3, x4, x5⟩ := HX1.out.cells
      go_wp2_with (first
      | (go_at_call 23; refine (HCD.out _ HB1.out).mono ?_; rintro e w2 h2
         obtain ⟨rfl, b2⟩ := h2.1 H1.out
         have HB2 := Lib.hid (HB1.out.trans (b2.mono HB1.out.size))
         have HR2 := Lib.hid (HR.out.below HB2.out)
         clear h2 b2 x0 x1 x2 x3 x4 x5 HX1)
      | (go_at_call 42; refine (HCR.out _ HR2.out).mono ?_; rintro e w3 ⟨rfl, h3⟩
         have HR3 := Lib.hid (h3.1 H2.out)
         have HT3 := Lib.hid h3.2.2
         clear h3))
      go_ret
      exact ⟨true, k, c, D, V, v, gb, cb, gn, cn, base, now, rfl, by omega, by omega, (HD.out.below HB2.out).ref HR2.out HBR.out HT3.out, HR3.out, HWH.out, HWB.out, HNN.out, ((Turns.of_below _ HB2.out).trans (turns_rg HT3.out)), fun ha => ⟨rfl, ha⟩, fun hne => absurd HKK.out hne⟩
    · skip
      have H1 := Lib.hid g1
      have H2 := Lib.hid g2
      rw [if_neg g2] at HCR
      clear g1 g2
      unfold ocells at HX0 HB0
      clear h hR hBR hN hw hwb hk hcd hs
      go_enter Tryz.func12, Tryz.ntmps12
      obtain ⟨x0, x1, x2, x3, x4, x5⟩ := HX0.out.cells
      obtain ⟨y0, y1, y2, y3, y4, y5, y6, y7, y8⟩ := HX0.out.cells9
      go_wp2_with fail
      refine (HK.out _).mono ?_
      rintro e w1 ⟨rfl, b1⟩
      have HB1 := Lib.hid (HB0.out.trans (b1.mono HB0.out.size))
      have HX1 := Lib.hid (HX0.out.below b1)
      clear x0 x1 x2 x3 x4 x5 y0 y1 y2 y3 y4 y5 y6 y7 y8 b1 HX0 HB0 HK
      obtain ⟨x0, x1, x2, x3, x4, x5⟩ := HX1.out.cells
      go_wp2_with (first
      | (go_at_call 23; refine (HCD.out _ HB1.out).mono ?_; rintro e w2 h2
         obtain ⟨rfl, b2⟩ := h2.1 H1.out
         have HB2 := Lib.hid (HB1.out.trans (b2.mono HB1.out.size))
         have HR2 := Lib.hid (HR.out.below HB2.out)
         clear h2 b2 x0 x1 x2 x3 x4 x5 HX1)
      | (go_at_call 42; refine (HCR.out _ HR2.out).mono ?_; rintro e w3 ⟨rfl, h3⟩
         obtain ⟨gb', cb', r3⟩ := h3.2.1 H2.out
         have HR3 := Lib.hid r3
         have HT3 := Lib.hid h3.2.2
         clear h3 r3))
      go_ret
      exact ⟨false, k, c, D, V, v, gb', cb', gn, cn, now, now, rfl, by omega, by omega, (HD.out.below HB2.out).ref HR2.out HBR.out HT3.out, HR3.out, HWH.out, HWH.out, HNN.out, ((Turns.of_below _ HB2.out).trans (turns_rg HT3.out)), fun ha => absurd (HDF.out ha) (fun e => by have g1 := H1.out; have g2 := H2.out; rw [e] at g1; omega), fun hne => absurd HKK.out hne⟩
  · by_cases g2 : 40 < l2
    · skip
      have H1 := Lib.hid g1
      have H2 := Lib.hid g2
      rw [if_pos g2] at HCR
      clear g1 g2
      unfold ocells at HX0 HB0
      clear h hR hBR hN hw hwb hk hcd hs
      go_enter Tryz.func12, Tryz.ntmps12
      obtain ⟨x0, x1, x2, x3, x4, x5⟩ := HX0.out.cells
      obtain ⟨y0, y1, y2, y3, y4, y5, y6, y7, y8⟩ := HX0.out.cells9
      go_wp2_with fail
      refine (HK.out _).mono ?_
      rintro e w1 ⟨rfl, b1⟩
      have HB1 := Lib.hid (HB0.out.trans (b1.mono HB0.out.size))
      have HX1 := Lib.hid (HX0.out.below b1)
      clear x0 x1 x2 x3 x4 x5 y0 y1 y2 y3 y4 y5 y6 y7 y8 b1 HX0 HB0 HK
      obtain ⟨x0, x1, x2, x3, x4, x5⟩ := HX1.out.cells
      go_wp2_with (first
      | (go_at_call 23; refine (HCD.out _ HB1.out).mono ?_; rintro e w2 h2
         obtain ⟨rfl, k2, c2, D2, hk2, hc2, hm2, d2, t2⟩ := h2.2 H1.out
         have HR2 := Lib.hid (HRT.out _ _ HB1.out t2)
         have HD2 := Lib.hid d2
         have HC2 := Lib.hid hc2
         have HK2 := Lib.hid hk2
         have HM2 := Lib.hid hm2
         have HT2 : Hid (Turns [d, q, p, pd, pm] w w2) := (Turns.of_below _ HB1.out).trans t2
         clear h2 t2 d2 hc2 hk2 hm2 x0 x1 x2 x3 x4 x5 HX1)
      | (go_at_call 42; refine (HCR.out _ HR2.out).mono ?_; rintro e w3 ⟨rfl, h3⟩
         have HR3 := Lib.hid (h3.1 H2.out)
         have HT3 := Lib.hid h3.2.2
         clear h3))
      go_ret
      exact ⟨false, k2, c2, D2, D2, _, gb, cb, gn, cn, base, now, rfl, HK2.out, HC2.out, HD2.out.ref HR2.out HBR.out HT3.out, HR3.out, HWH.out, HWB.out, (HM2.out.1.trans HNN.out), ((turns_c HT2.out).trans (turns_rg HT3.out)), fun ha => absurd (HDF.out ha) (fun e => by have g1 := H1.out; have g2 := H2.out; rw [e] at g1; omega), fun hne => absurd HKK.out hne⟩
    · skip
      have H1 := Lib.hid g1
      have H2 := Lib.hid g2
      rw [if_neg g2] at HCR
      clear g1 g2
      unfold ocells at HX0 HB0
      clear h hR hBR hN hw hwb hk hcd hs
      go_enter Tryz.func12, Tryz.ntmps12
      obtain ⟨x0, x1, x2, x3, x4, x5⟩ := HX0.out.cells
      obtain ⟨y0, y1, y2, y3, y4, y5, y6, y7, y8⟩ := HX0.out.cells9
      go_wp2_with fail
      refine (HK.out _).mono ?_
      rintro e w1 ⟨rfl, b1⟩
      have HB1 := Lib.hid (HB0.out.trans (b1.mono HB0.out.size))
      have HX1 := Lib.hid (HX0.out.below b1)
      clear x0 x1 x2 x3 x4 x5 y0 y1 y2 y3 y4 y5 y6 y7 y8 b1 HX0 HB0 HK
      obtain ⟨x0, x1, x2, x3, x4, x5⟩ := HX1.out.cells
      go_wp2_with (first
      | (go_at_call 23; refine (HCD.out _ HB1.out).mono ?_; rintro e w2 h2
         obtain ⟨rfl, k2, c2, D2, hk2, hc2, hm2, d2, t2⟩ := h2.2 H1.out
         have HR2 := Lib.hid (HRT.out _ _ HB1.out t2)
         have HD2 := Lib.hid d2
         have HC2 := Lib.hid hc2
         have HK2 := Lib.hid hk2
         have HM2 := Lib.hid hm2
         have HT2 : Hid (Turns [d, q, p, pd, pm] w w2) := (Turns.of_below _ HB1.out).trans t2
         clear h2 t2 d2 hc2 hk2 hm2 x0 x1 x2 x3 x4 x5 HX1)
      | (go_at_call 42; refine (HCR.out _ HR2.out).mono ?_; rintro e w3 ⟨rfl, h3⟩
         obtain ⟨gb', cb', r3⟩ := h3.2.1 H2.out
         have HR3 := Lib.hid r3
         have HT3 := Lib.hid h3.2.2
         clear h3 r3))
      go_ret
      exact ⟨true, k2, c2, D2, D2, _, gb', cb', gn, cn, now, now, rfl, HK2.out, HC2.out, HD2.out.ref HR2.out HBR.out HT3.out, HR3.out, HWH.out, HWH.out, (HM2.out.1.trans HNN.out), ((turns_c HT2.out).trans (turns_rg HT3.out)), fun ha => ⟨rfl, ha.commit HM2.out⟩, fun hne => absurd HKK.out hne⟩
end Go.Proofs.YtapjbffhihhnbaaGreat.Dl
