/-
  WALKS: a step that writes, or sets a crown or a card. Condition: a deal on a calm slab, beside the reference's.
-/
import Derived.Test.YtapjbffhihhnbaaGreatDW
import Derived.Deep.RegionHeld3
import Derived.Deep.DeepMust
import Derived.Deep.DeepFit
set_option linter.unusedVariables false
set_option linter.unusedSimpArgs false
set_option maxRecDepth 100000
set_option maxHeartbeats 4000000
namespace Go.Proofs.YtapjbffhihhnbaaGreat.Dl
open Go.RowKit
open Sl (Turns SlabAt)
open Lg (Ch chCells chsCells FS LogAt Whole setL setL_len ownB bcell)
open Kr (crv rightK blockK okK kf kb kc)

theorem step1 (B d q p pd pm k c : Nat) (D V : List ByteArray) (v : Value) (R r gb cb gn cn N : Nat) (base now : List ByteArray) (vo : Value) (o : OpD) (BO : Nat) (w : World)
    (h : DV w B d q p pd pm k c D V v) (hR : RD w R r gb cb gn cn N base now) (hBR : B ≤ R) (hN : D.length = N) (hw : Whole now) (hwb : Whole base) (ho : OpAt w BO vo o) (hBO : BO ≤ w.heap.size) (hk : kdO o = 1) :
    Calls Tryz.prog 12 #[.pointer (some ⟨d, 0, none⟩), .pointer (some ⟨r, 0, none⟩), vo] w (StepTo w B d q p pd pm k c D V v R r gn N base now o) := by
  obtain ⟨A, m, l, A', m', l', rfl, hcd, hs⟩ := ho
  have HX0 : Hid (ORow (w.alloc (.cells (ocells o A m l A' m' l') 42)) w.heap.size o A m l A' m' l') := ORow.new w o A m l A' m' l'
  have HB0 : Hid (Below w.heap.size w (w.alloc (.cells (ocells o A m l A' m' l') 42))) := (Below.refl _ _).alloc (Nat.le_refl _) _
  have HD := Lib.hid h
  have HR := Lib.hid hR
  have HBR := Lib.hid hBR
  have HWH := Lib.hid hw
  have HWB := Lib.hid hwb
  have HNN := Lib.hid hN
  have HVL : Hid (V.length = N) := h.len.trans hN
  have HNL := Lib.hid hR.ln
  have HKK := Lib.hid hk
  have HK := Lib.hid (fun W => kind_any o A m l A' m' l' W)
  rw [hk] at HK
  have hN6 : 64 ≤ N := by rw [← hN]; exact h.least
  have HWD := Lib.hid (fun (W : World) (hW : Below w.heap.size w W) => write_dv B d q p pd pm k c D V v o.i o.s W (h.below hW) hs)
  have HWR := Lib.hid (fun (W : World) (hW : w.heap.size ≤ W.heap.size) (hr : RD W R r gb cb gn cn N base now) => rwrite_any R r gb cb gn cn N base now o.i o.s W hr hs)
  rw [wrE_eq (show V.length = now.length by rw [HVL.out, HNL.out]) o.i o.s] at HWD
  have HAG : Hid (Agree N V D now base → Agree N (wrV V o.i o.s) D (wrV now o.i o.s) base) := fun ha => ha.wr HVL.out HNL.out o.i o.s
  have HWH2 : Hid (Whole (wrV now o.i o.s)) := whole_wr HWH.out o.i o.s
  have HST : Hid (∀ W2 W3 v2, DV W2 B d q p pd pm k c D (wrV V o.i o.s) v2 → Turns (d :: ownL v) w W2 → RD W2 R r gb cb gn cn N base now → RD W3 R r gb cb gn cn N base (wrV now o.i o.s) → Turns [gn] W2 W3 → StepTo w B d q p pd pm k c D V v R r gn N base now o (.returned (.bool true)) W3) := fun W2 W3 v2 d2 t2 r2 r3 t3 =>
    ⟨true, k, c, D, (wrV V o.i o.s), v2, gb, cb, gn, cn, base, (wrV now o.i o.s), rfl, by omega, by omega, d2.ref r2 HBR.out (g_rg t3), r3, HWH2.out, HWB.out, HNN.out, (turns_d t2).trans (turns_g t3), fun ha => ⟨rfl, HAG.out ha⟩, fun _ => ⟨rfl, rfl, rfl⟩⟩
  have HRT : Hid (∀ W W2, Below w.heap.size w W → Turns (d :: ownL v) W W2 → RD W2 R r gb cb gn cn N base now) := fun W W2 hW t2 => (hR.below hW).deal (h.below hW) hBR (t2.mono (all_in (ownL v)))
  have HG : Hid (w.heap.size ∉ d :: ownL v ∧ w.heap.size ∉ [gn]) := ⟨fun hm => by have := h.own_lt _ hm; omega, fun hm => by have := hR.gn_ge.2; simp at hm; omega⟩
  have HCD := Lib.hid hcd
  generalize wrV V o.i o.s = V' at *
  generalize wrV now o.i o.s = N' at *
  generalize wrE now o.i o.s = z at *
  unfold ocells at HX0 HB0
  clear h hR hBR hN hw hwb hk hcd hs
  go_enter Tryz.func12, Tryz.ntmps12
  obtain ⟨x0, x1, x2, x3, x4, x5⟩ := HX0.out.cells
  obtain ⟨y0, y1, y2, y3, y4, y5, y6, y7, y8⟩ := HX0.out.cells9
  go_wp2_with fail
  refine (HK.out _).mono ?_
  rintro e w1 ⟨rfl, b1⟩
  have HB1 := Lib.hid (HB0.out.trans (b1.mono HB0.out.size))
  have HX1 := Lib.hid (HX0.out.below b1)
  clear x0 x1 x2 x3 x4 x5 y0 y1 y2 y3 y4 y5 y6 y7 y8 b1 HX0 HB0 HK
  obtain ⟨x0, x1, x2, x3, x4, x5⟩ := HX1.out.cells
  have DRW : Hid (Below w.heap.size w w1.drew) := ⟨HB1.out.os, HB1.out.tape, HB1.out.output, HB1.out.size, HB1.out.block⟩
  have HXD : Hid (ORow w1.drew w.heap.size o A m l A' m' l') := HX1.out
  have S1 : Hid (w1.cell? ⟨w.heap.size, 1, none⟩ = some (.int .i64 o.i) ∧ w1.cell? ⟨w.heap.size, 2, none⟩ = some (.string o.s)) := ⟨HX1.out.cells.2.1, HX1.out.cells.2.2.1⟩
  clear x0 x1 x2 x3 x4 x5
  go_wp2_with fail
  go_region_held3 (fun v' => v'.cell? ⟨w.heap.size, 1, none⟩ = some (.int .i64 o.i) ∧ v'.cell? ⟨w.heap.size, 2, none⟩ = some (.string o.s))
    (first | exact S1.out | exact S2.out | exact S3.out)
    (first
      | (go_at_call 36; go_must (go_fit (HWR.out _ HB2.out HR2.out))
         rintro e w3 ⟨rfl, r3, t3⟩
         have HX3 := Lib.hid (HX2.out.turns t3 HG.out.2)
         have S3 : Hid (w3.cell? ⟨w.heap.size, 1, none⟩ = some (.int .i64 o.i) ∧ w3.cell? ⟨w.heap.size, 2, none⟩ = some (.string o.s)) := ⟨HX3.out.cells.2.1, HX3.out.cells.2.2.1⟩
         have HR3 := Lib.hid r3
         have HT3 := Lib.hid t3
         clear r3 t3)
      | (go_at_call 31; go_must (go_fit (HWD.out _ DRW.out))
         rintro e w2 ⟨rfl, v2, d2, t2⟩
         have HX2 := Lib.hid (HXD.out.turns t2 HG.out.1)
         have S2 : Hid (w2.cell? ⟨w.heap.size, 1, none⟩ = some (.int .i64 o.i) ∧ w2.cell? ⟨w.heap.size, 2, none⟩ = some (.string o.s)) := ⟨HX2.out.cells.2.1, HX2.out.cells.2.2.1⟩
         have HR2 := Lib.hid (HRT.out _ _ DRW.out t2)
         have HT2 : Hid (Turns (d :: ownL v) w w2) := (Turns.of_below _ DRW.out).trans t2
         have HD2 := Lib.hid d2
         have HB2 : Hid (w.heap.size ≤ w2.heap.size) := HT2.out.size
         clear d2 t2))
  all_goals
    go_wp2
    go_ret
    exact HST.out w2 w3 v2 HD2.out HT2.out HR2.out HR3.out HT3.out

theorem step2 (B d q p pd pm k c : Nat) (D V : List ByteArray) (v : Value) (R r gb cb gn cn N : Nat) (base now : List ByteArray) (vo : Value) (o : OpD) (BO : Nat) (w : World)
    (h : DV w B d q p pd pm k c D V v) (hR : RD w R r gb cb gn cn N base now) (hBR : B ≤ R) (hN : D.length = N) (hw : Whole now) (hwb : Whole base) (ho : OpAt w BO vo o) (hBO : BO ≤ w.heap.size) (hk : kdO o = 2) :
    Calls Tryz.prog 12 #[.pointer (some ⟨d, 0, none⟩), .pointer (some ⟨r, 0, none⟩), vo] w (StepTo w B d q p pd pm k c D V v R r gn N base now o) := by
  obtain ⟨A, m, l, A', m', l', rfl, hcd, hs⟩ := ho
  have HX0 : Hid (ORow (w.alloc (.cells (ocells o A m l A' m' l') 42)) w.heap.size o A m l A' m' l') := ORow.new w o A m l A' m' l'
  have HB0 : Hid (Below w.heap.size w (w.alloc (.cells (ocells o A m l A' m' l') 42))) := (Below.refl _ _).alloc (Nat.le_refl _) _
  have HD := Lib.hid h
  have HR := Lib.hid hR
  have HBR := Lib.hid hBR
  have HWH := Lib.hid hw
  have HWB := Lib.hid hwb
  have HNN := Lib.hid hN
  have HVL : Hid (V.length = N) := h.len.trans hN
  have HNL := Lib.hid hR.ln
  have HKK := Lib.hid hk
  have HK := Lib.hid (fun W => kind_any o A m l A' m' l' W)
  rw [hk] at HK
  have hN6 : 64 ≤ N := by rw [← hN]; exact h.least
  have HWD := Lib.hid (fun (W : World) (hW : Below w.heap.size w W) => setcrown_dv B d q p pd pm k c D V v o.f o.b o.u W (h.below hW))
  have HWR := Lib.hid (fun (W : World) (hW : w.heap.size ≤ W.heap.size) (hr : RD W R r gb cb gn cn N base now) => rsetcrown_any R r gb cb gn cn N base now o.f o.b o.u W hr (by omega))
  rw [scE_eq (show V.length = now.length by rw [HVL.out, HNL.out]) o.f o.b o.u] at HWD
  have HAG : Hid (Agree N V D now base → Agree N (scV V o.f o.b o.u) D (scV now o.f o.b o.u) base) := fun ha => ha.sc HVL.out HNL.out o.f o.b o.u
  have HWH2 : Hid (Whole (scV now o.f o.b o.u)) := whole_sc HWH.out o.f o.b o.u
  have HST : Hid (∀ W2 W3 v2, DV W2 B d q p pd pm k c D (scV V o.f o.b o.u) v2 → Turns (d :: ownL v) w W2 → RD W2 R r gb cb gn cn N base now → RD W3 R r gb cb gn cn N base (scV now o.f o.b o.u) → Turns [gn] W2 W3 → StepTo w B d q p pd pm k c D V v R r gn N base now o (.returned (.bool true)) W3) := fun W2 W3 v2 d2 t2 r2 r3 t3 =>
    ⟨true, k, c, D, (scV V o.f o.b o.u), v2, gb, cb, gn, cn, base, (scV now o.f o.b o.u), rfl, by omega, by omega, d2.ref r2 HBR.out (g_rg t3), r3, HWH2.out, HWB.out, HNN.out, (turns_d t2).trans (turns_g t3), fun ha => ⟨rfl, HAG.out ha⟩, fun _ => ⟨rfl, rfl, rfl⟩⟩
  have HRT : Hid (∀ W W2, Below w.heap.size w W → Turns (d :: ownL v) W W2 → RD W2 R r gb cb gn cn N base now) := fun W W2 hW t2 => (hR.below hW).deal (h.below hW) hBR (t2.mono (all_in (ownL v)))
  have HG : Hid (w.heap.size ∉ d :: ownL v ∧ w.heap.size ∉ [gn]) := ⟨fun hm => by have := h.own_lt _ hm; omega, fun hm => by have := hR.gn_ge.2; simp at hm; omega⟩
  have HCD := Lib.hid hcd
  generalize scV V o.f o.b o.u = V' at *
  generalize scV now o.f o.b o.u = N' at *
  generalize scE now o.f o.b o.u = z at *
  unfold crv at *
  unfold ocells at HX0 HB0
  clear h hR hBR hN hw hwb hk hcd hs
  go_enter Tryz.func12, Tryz.ntmps12
  obtain ⟨x0, x1, x2, x3, x4, x5⟩ := HX0.out.cells
  obtain ⟨y0, y1, y2, y3, y4, y5, y6, y7, y8⟩ := HX0.out.cells9
  go_wp2_with fail
  refine (HK.out _).mono ?_
  rintro e w1 ⟨rfl, b1⟩
  have HB1 := Lib.hid (HB0.out.trans (b1.mono HB0.out.size))
  have HX1 := Lib.hid (HX0.out.below b1)
  clear x0 x1 x2 x3 x4 x5 y0 y1 y2 y3 y4 y5 y6 y7 y8 b1 HX0 HB0 HK
  obtain ⟨x0, x1, x2, x3, x4, x5⟩ := HX1.out.cells
  have DRW : Hid (Below w.heap.size w w1.drew) := ⟨HB1.out.os, HB1.out.tape, HB1.out.output, HB1.out.size, HB1.out.block⟩
  have HXD : Hid (ORow w1.drew w.heap.size o A m l A' m' l') := HX1.out
  have S1 : Hid (w1.cell? ⟨w.heap.size, 3, none⟩ = some (.int .i64 o.f) ∧ w1.cell? ⟨w.heap.size, 4, none⟩ = some (.int .i64 o.b) ∧ w1.cell? ⟨w.heap.size, 5, none⟩ = some (.int .i64 o.u)) := ⟨HX1.out.cells.2.2.2.1, HX1.out.cells.2.2.2.2.1, HX1.out.cells.2.2.2.2.2⟩
  clear x0 x1 x2 x3 x4 x5
  go_wp2_with fail
  go_region_held3 (fun v' => v'.cell? ⟨w.heap.size, 3, none⟩ = some (.int .i64 o.f) ∧ v'.cell? ⟨w.heap.size, 4, none⟩ = some (.int .i64 o.b) ∧ v'.cell? ⟨w.heap.size, 5, none⟩ = some (.int .i64 o.u))
    (first | exact S1.out | exact S2.out | exact S3.out)
    (first
      | (go_at_call 37; go_must (go_fit (HWR.out _ HB2.out HR2.out))
         rintro e w3 ⟨rfl, r3, t3⟩
         have HX3 := Lib.hid (HX2.out.turns t3 HG.out.2)
         have S3 : Hid (w3.cell? ⟨w.heap.size, 3, none⟩ = some (.int .i64 o.f) ∧ w3.cell? ⟨w.heap.size, 4, none⟩ = some (.int .i64 o.b) ∧ w3.cell? ⟨w.heap.size, 5, none⟩ = some (.int .i64 o.u)) := ⟨HX3.out.cells.2.2.2.1, HX3.out.cells.2.2.2.2.1, HX3.out.cells.2.2.2.2.2⟩
         have HR3 := Lib.hid r3
         have HT3 := Lib.hid t3
         clear r3 t3)
      | (go_at_call 27; go_must (go_fit (HWD.out _ DRW.out))
         rintro e w2 ⟨rfl, v2, d2, t2⟩
         have HX2 := Lib.hid (HXD.out.turns t2 HG.out.1)
         have S2 : Hid (w2.cell? ⟨w.heap.size, 3, none⟩ = some (.int .i64 o.f) ∧ w2.cell? ⟨w.heap.size, 4, none⟩ = some (.int .i64 o.b) ∧ w2.cell? ⟨w.heap.size, 5, none⟩ = some (.int .i64 o.u)) := ⟨HX2.out.cells.2.2.2.1, HX2.out.cells.2.2.2.2.1, HX2.out.cells.2.2.2.2.2⟩
         have HR2 := Lib.hid (HRT.out _ _ DRW.out t2)
         have HT2 : Hid (Turns (d :: ownL v) w w2) := (Turns.of_below _ DRW.out).trans t2
         have HD2 := Lib.hid d2
         have HB2 : Hid (w.heap.size ≤ w2.heap.size) := HT2.out.size
         clear d2 t2))
  all_goals
    go_wp2
    go_ret
    exact HST.out w2 w3 v2 HD2.out HT2.out HR2.out HR3.out HT3.out

theorem step4 (B d q p pd pm k c : Nat) (D V : List ByteArray) (v : Value) (R r gb cb gn cn N : Nat) (base now : List ByteArray) (vo : Value) (o : OpD) (BO : Nat) (w : World)
    (h : DV w B d q p pd pm k c D V v) (hR : RD w R r gb cb gn cn N base now) (hBR : B ≤ R) (hN : D.length = N) (hw : Whole now) (hwb : Whole base) (ho : OpAt w BO vo o) (hBO : BO ≤ w.heap.size) (hBd : BO ≤ d) (hk : kdO o = 4) :
    Calls Tryz.prog 12 #[.pointer (some ⟨d, 0, none⟩), .pointer (some ⟨r, 0, none⟩), vo] w (StepTo w B d q p pd pm k c D V v R r gn N base now o) := by
  obtain ⟨A, m, l, A', m', l', rfl, hcd, hs⟩ := ho
  have HX0 : Hid (ORow (w.alloc (.cells (ocells o A m l A' m' l') 42)) w.heap.size o A m l A' m' l') := ORow.new w o A m l A' m' l'
  have HB0 : Hid (Below w.heap.size w (w.alloc (.cells (ocells o A m l A' m' l') 42))) := (Below.refl _ _).alloc (Nat.le_refl _) _
  have HD := Lib.hid h
  have HR := Lib.hid hR
  have HBR := Lib.hid hBR
  have HWH := Lib.hid hw
  have HWB := Lib.hid hwb
  have HNN := Lib.hid hN
  have HVL : Hid (V.length = N) := h.len.trans hN
  have HNL := Lib.hid hR.ln
  have HKK := Lib.hid hk
  have HK := Lib.hid (fun W => kind_any o A m l A' m' l' W)
  rw [hk] at HK
  have hN6 : 64 ≤ N := by rw [← hN]; exact h.least
  have HWD := Lib.hid (fun (W : World) (hW : Below w.heap.size w W) => setcard_dv B d q p pd pm k c D V v (cdv o.cd A m l A' m' l') o.i o.cd BO W (h.below hW) (hcd.below hW hBO) (Nat.le_trans hBO hW.size))
  have HWR := Lib.hid (fun (W : World) (hW : w.heap.size ≤ W.heap.size) (hr : RD W R r gb cb gn cn N base now) (hc : CdAt W BO (cdv o.cd A m l A' m' l') o.cd) => rsetcard_any R r gb cb gn cn N base now (cdv o.cd A m l A' m' l') o.i o.cd BO W hr hN6 hw hc (Nat.le_trans hBO hW))
  have HAG : Hid (Agree N V D now base → Agree N (sdV V o.i o.cd) D (sdV now o.i o.cd) base) := fun ha => ha.sd HVL.out HNL.out hN6 o.i o.cd
  have HWH2 : Hid (Whole (sdV now o.i o.cd)) := whole_sd HWH.out (by rw [HNL.out]; exact hN6) o.i o.cd
  have HST : Hid (∀ W2 W3 v2, DV W2 B d q p pd pm k c D (sdV V o.i o.cd) v2 → Turns (d :: ownL v) w W2 → RD W2 R r gb cb gn cn N base now → RD W3 R r gb cb gn cn N base (sdV now o.i o.cd) → Turns [gn] W2 W3 → StepTo w B d q p pd pm k c D V v R r gn N base now o (.returned (.bool true)) W3) := fun W2 W3 v2 d2 t2 r2 r3 t3 =>
    ⟨true, k, c, D, (sdV V o.i o.cd), v2, gb, cb, gn, cn, base, (sdV now o.i o.cd), rfl, by omega, by omega, d2.ref r2 HBR.out (g_rg t3), r3, HWH2.out, HWB.out, HNN.out, (turns_d t2).trans (turns_g t3), fun ha => ⟨rfl, HAG.out ha⟩, fun _ => ⟨rfl, rfl, rfl⟩⟩
  have HRT : Hid (∀ W W2, Below w.heap.size w W → Turns (d :: ownL v) W W2 → RD W2 R r gb cb gn cn N base now) := fun W W2 hW t2 => (hR.below hW).deal (h.below hW) hBR (t2.mono (all_in (ownL v)))
  have HG : Hid (w.heap.size ∉ d :: ownL v ∧ w.heap.size ∉ [gn]) := ⟨fun hm => by have := h.own_lt _ hm; omega, fun hm => by have := hR.gn_ge.2; simp at hm; omega⟩
  have HCT : Hid (∀ W W2, Below w.heap.size w W → Turns (d :: ownL v) W W2 → CdAt W2 BO (cdv o.cd A m l A' m' l') o.cd) := fun W W2 hW t2 => by
    refine (hcd.below hW hBO).below (t2.below (Nat.le_trans hBO hW.size) (fun j hj => ?_)) (Nat.le_refl _)
    have h1 := h.sep.hd
    rcases h.own_ge j hj with e | e <;> omega
  generalize sdV V o.i o.cd = V' at *
  generalize sdV now o.i o.cd = N' at *
  generalize sdE o.i o.cd = z at *
  unfold ocells at HX0 HB0
  clear h hR hBR hN hw hwb hk hcd hs
  go_enter Tryz.func12, Tryz.ntmps12
  obtain ⟨x0, x1, x2, x3, x4, x5⟩ := HX0.out.cells
  obtain ⟨y0, y1, y2, y3, y4, y5, y6, y7, y8⟩ := HX0.out.cells9
  go_wp2_with fail
  refine (HK.out _).mono ?_
  rintro e w1 ⟨rfl, b1⟩
  have HB1 := Lib.hid (HB0.out.trans (b1.mono HB0.out.size))
  have HX1 := Lib.hid (HX0.out.below b1)
  clear x0 x1 x2 x3 x4 x5 y0 y1 y2 y3 y4 y5 y6 y7 y8 b1 HX0 HB0 HK
  obtain ⟨x0, x1, x2, x3, x4, x5⟩ := HX1.out.cells
  have DRW : Hid (Below w.heap.size w w1.drew) := ⟨HB1.out.os, HB1.out.tape, HB1.out.output, HB1.out.size, HB1.out.block⟩
  have HXD : Hid (ORow w1.drew w.heap.size o A m l A' m' l') := HX1.out
  have S1 : Hid (w1.cell? ⟨w.heap.size, 1, none⟩ = some (.int .i64 o.i) ∧ w1.cell? ⟨w.heap.size, 6, none⟩ = some (.int .i64 o.cd.fm) ∧ w1.cell? ⟨w.heap.size, 7, none⟩ = some (.int .i64 o.cd.kd) ∧ w1.cell? ⟨w.heap.size, 8, none⟩ = some (.int .i64 o.cd.ln) ∧ w1.cell? ⟨w.heap.size, 9, none⟩ = some (.int .i64 o.cd.sz) ∧ w1.cell? ⟨w.heap.size, 10, none⟩ = some (.slice A m l) ∧ w1.cell? ⟨w.heap.size, 11, none⟩ = some (.int .i64 o.cd.sg) ∧ w1.cell? ⟨w.heap.size, 12, none⟩ = some (.int .i64 o.cd.db) ∧ w1.cell? ⟨w.heap.size, 13, none⟩ = some (.slice A' m' l') ∧ w1.cell? ⟨w.heap.size, 14, none⟩ = some (.int .i64 o.cd.ov)) := ⟨HX1.out.cells.2.1, HX1.out.cells9⟩
  clear x0 x1 x2 x3 x4 x5
  go_wp2_with fail
  go_region_held3 (fun v' => v'.cell? ⟨w.heap.size, 1, none⟩ = some (.int .i64 o.i) ∧ v'.cell? ⟨w.heap.size, 6, none⟩ = some (.int .i64 o.cd.fm) ∧ v'.cell? ⟨w.heap.size, 7, none⟩ = some (.int .i64 o.cd.kd) ∧ v'.cell? ⟨w.heap.size, 8, none⟩ = some (.int .i64 o.cd.ln) ∧ v'.cell? ⟨w.heap.size, 9, none⟩ = some (.int .i64 o.cd.sz) ∧ v'.cell? ⟨w.heap.size, 10, none⟩ = some (.slice A m l) ∧ v'.cell? ⟨w.heap.size, 11, none⟩ = some (.int .i64 o.cd.sg) ∧ v'.cell? ⟨w.heap.size, 12, none⟩ = some (.int .i64 o.cd.db) ∧ v'.cell? ⟨w.heap.size, 13, none⟩ = some (.slice A' m' l') ∧ v'.cell? ⟨w.heap.size, 14, none⟩ = some (.int .i64 o.cd.ov))
    (first | exact S1.out | exact S2.out | exact S3.out)
    (first
      | (go_at_call 40; go_must (go_fit (HWR.out _ HB2.out HR2.out HC2.out))
         rintro e w3 ⟨rfl, r3, t3⟩
         have HX3 := Lib.hid (HX2.out.turns t3 HG.out.2)
         have S3 : Hid (w3.cell? ⟨w.heap.size, 1, none⟩ = some (.int .i64 o.i) ∧ w3.cell? ⟨w.heap.size, 6, none⟩ = some (.int .i64 o.cd.fm) ∧ w3.cell? ⟨w.heap.size, 7, none⟩ = some (.int .i64 o.cd.kd) ∧ w3.cell? ⟨w.heap.size, 8, none⟩ = some (.int .i64 o.cd.ln) ∧ w3.cell? ⟨w.heap.size, 9, none⟩ = some (.int .i64 o.cd.sz) ∧ w3.cell? ⟨w.heap.size, 10, none⟩ = some (.slice A m l) ∧ w3.cell? ⟨w.heap.size, 11, none⟩ = some (.int .i64 o.cd.sg) ∧ w3.cell? ⟨w.heap.size, 12, none⟩ = some (.int .i64 o.cd.db) ∧ w3.cell? ⟨w.heap.size, 13, none⟩ = some (.slice A' m' l') ∧ w3.cell? ⟨w.heap.size, 14, none⟩ = some (.int .i64 o.cd.ov)) := ⟨HX3.out.cells.2.1, HX3.out.cells9⟩
         have HR3 := Lib.hid r3
         have HT3 := Lib.hid t3
         clear r3 t3)
      | (go_at_call 25; go_must (go_fit (HWD.out _ DRW.out))
         rintro e w2 ⟨rfl, v2, d2, t2⟩
         have HX2 := Lib.hid (HXD.out.turns t2 HG.out.1)
         have S2 : Hid (w2.cell? ⟨w.heap.size, 1, none⟩ = some (.int .i64 o.i) ∧ w2.cell? ⟨w.heap.size, 6, none⟩ = some (.int .i64 o.cd.fm) ∧ w2.cell? ⟨w.heap.size, 7, none⟩ = some (.int .i64 o.cd.kd) ∧ w2.cell? ⟨w.heap.size, 8, none⟩ = some (.int .i64 o.cd.ln) ∧ w2.cell? ⟨w.heap.size, 9, none⟩ = some (.int .i64 o.cd.sz) ∧ w2.cell? ⟨w.heap.size, 10, none⟩ = some (.slice A m l) ∧ w2.cell? ⟨w.heap.size, 11, none⟩ = some (.int .i64 o.cd.sg) ∧ w2.cell? ⟨w.heap.size, 12, none⟩ = some (.int .i64 o.cd.db) ∧ w2.cell? ⟨w.heap.size, 13, none⟩ = some (.slice A' m' l') ∧ w2.cell? ⟨w.heap.size, 14, none⟩ = some (.int .i64 o.cd.ov)) := ⟨HX2.out.cells.2.1, HX2.out.cells9⟩
         have HR2 := Lib.hid (HRT.out _ _ DRW.out t2)
         have HT2 : Hid (Turns (d :: ownL v) w w2) := (Turns.of_below _ DRW.out).trans t2
         have HD2 := Lib.hid d2
         have HC2 := Lib.hid (HCT.out _ _ DRW.out t2)
         have HB2 : Hid (w.heap.size ≤ w2.heap.size) := HT2.out.size
         clear d2 t2))
  all_goals
    go_wp2
    go_ret
    exact HST.out w2 w3 v2 HD2.out HT2.out HR2.out HR3.out HT3.out
end Go.Proofs.YtapjbffhihhnbaaGreat.Dl
