/-
  WALKS: a step of the law's script, kind by kind: what it answers, and what it does to the deal and to the reference. Condition: a deal on a calm slab, beside the reference's.
-/
import Derived.Test.YtapjbffhihhnbaaGreatDU
import Derived.Deep.RegionHeld3
import Derived.Deep.DeepMust
import Derived.Deep.DeepFit
set_option linter.unusedVariables false
set_option linter.unusedSimpArgs false
set_option maxRecDepth 100000
set_option maxHeartbeats 4000000
namespace Go.Proofs.YtapjbffhihhnbaaGreat.Dl
open Go.RowKit
open Sl (Turns SlabAt)
open Lg (Ch chCells chsCells FS LogAt Whole setL setL_len ownB bcell)
open Kr (crv rightK blockK okK kf kb kc)

/-- what a step leaves. -/
def StepTo (w : World) (B d q p pd pm k c : Nat) (D V : List ByteArray) (v : Value) (R r gn N : Nat) (base now : List ByteArray) (o : OpD) (e : Ending) (w' : World) : Prop :=
  ∃ (res : Bool) (k' c' : Nat) (D' V' : List ByteArray) (v' : Value) (gb' cb' gn' cn' : Nat) (base' now' : List ByteArray), e = .returned (.bool res) ∧ k' ≤ k + 1 ∧ c' ≤ c + 100 ∧ DV w' B d q p pd pm k' c' D' V' v' ∧ RD w' R r gb' cb' gn' cn' N base' now' ∧ Whole now' ∧ Whole base' ∧ D'.length = N ∧
    Turns (d :: q :: p :: pd :: pm :: r :: gn :: ownL v) w w' ∧ (Agree N V D now base → res = true ∧ Agree N V' D' now' base') ∧ (kdO o ≠ 6 → D' = D ∧ k' = k ∧ c' = c)
theorem turns_d {w w' : World} {d q p pd pm r gn : Nat} {L : List Nat} (h : Turns (d :: L) w w') : Turns (d :: q :: p :: pd :: pm :: r :: gn :: L) w w' := h.mono fun j hj => by
  simp only [List.mem_cons] at hj ⊢
  rcases hj with h | h
  · exact .inl h
  · exact .inr (.inr (.inr (.inr (.inr (.inr (.inr h))))))
theorem turns_g {w w' : World} {d q p pd pm r gn : Nat} {L : List Nat} (h : Turns [gn] w w') : Turns (d :: q :: p :: pd :: pm :: r :: gn :: L) w w' := h.mono fun j hj => by
  simp only [List.mem_cons, List.not_mem_nil, or_false] at hj ⊢
  exact .inr (.inr (.inr (.inr (.inr (.inr (.inl hj))))))
theorem turns_rg {w w' : World} {d q p pd pm r gn : Nat} {L : List Nat} (h : Turns [r, gn] w w') : Turns (d :: q :: p :: pd :: pm :: r :: gn :: L) w w' := h.mono fun j hj => by
  simp only [List.mem_cons, List.not_mem_nil, or_false] at hj ⊢
  rcases hj with h | h
  · exact .inr (.inr (.inr (.inr (.inr (.inl h)))))
  · exact .inr (.inr (.inr (.inr (.inr (.inr (.inl h))))))
theorem turns_c {w w' : World} {d q p pd pm r gn : Nat} {L : List Nat} (h : Turns [d, q, p, pd, pm] w w') : Turns (d :: q :: p :: pd :: pm :: r :: gn :: L) w w' := h.mono fun j hj => by
  simp only [List.mem_cons, List.not_mem_nil, or_false] at hj ⊢
  rcases hj with h | h | h | h | h
  · exact .inl h
  · exact .inr (.inl h)
  · exact .inr (.inr (.inl h))
  · exact .inr (.inr (.inr (.inl h)))
  · exact .inr (.inr (.inr (.inr (.inl h))))
theorem g_rg {w w' : World} {r gn : Nat} (h : Turns [gn] w w') : Turns [r, gn] w w' := h.mono fun j hj => by simp at hj ⊢; exact .inr hj

theorem step0 (B d q p pd pm k c : Nat) (D V : List ByteArray) (v : Value) (R r gb cb gn cn N : Nat) (base now : List ByteArray) (vo : Value) (o : OpD) (BO : Nat) (w : World)
    (h : DV w B d q p pd pm k c D V v) (hR : RD w R r gb cb gn cn N base now) (hBR : B ≤ R) (hN : D.length = N) (hw : Whole now) (hwb : Whole base) (ho : OpAt w BO vo o) (hBO : BO ≤ w.heap.size) (hk : kdO o = 0) :
    Calls Tryz.prog 12 #[.pointer (some ⟨d, 0, none⟩), .pointer (some ⟨r, 0, none⟩), vo] w (StepTo w B d q p pd pm k c D V v R r gn N base now o) := by
  obtain ⟨A, m, l, A', m', l', rfl, hcd, hs⟩ := ho
  have HX0 : Hid (ORow (w.alloc (.cells (ocells o A m l A' m' l') 42)) w.heap.size o A m l A' m' l') := ORow.new w o A m l A' m' l'
  have HB0 : Hid (Below w.heap.size w (w.alloc (.cells (ocells o A m l A' m' l') 42))) := (Below.refl _ _).alloc (Nat.le_refl _) _
  have HD := Lib.hid h
  have HR := Lib.hid hR
  have HBR := Lib.hid hBR
  have HWH := Lib.hid hw
  have HWB := Lib.hid hwb
  have HNN := Lib.hid hN
  have HVL : Hid (V.length = N) := h.len.trans hN
  have HNL := Lib.hid hR.ln
  have HKK := Lib.hid hk
  have HK := Lib.hid (fun W => kind_any o A m l A' m' l' W)
  rw [hk] at HK
  have hN6 : 64 ≤ N := by rw [← hN]; exact h.least
  have HRD := Lib.hid (fun (W : World) (hW : Below w.heap.size w W) => read_dv B d q p pd pm k c D V v o.i W (h.below hW))
  have HRR := Lib.hid (fun (W : World) (hW : Below w.heap.size w W) => rread_any R r gb cb gn cn N base now o.i W (hR.below hW))
  rw [rdE_eq (show V.length = now.length by rw [HVL.out, HNL.out]) o.i] at HRD
  have HAG : Hid (Agree N V D now base → rdB V o.i = rdB now o.i) := fun ha => ha.rd HVL.out HNL.out o.i
  have HST : Hid (∀ W res, Below w.heap.size w W → (Agree N V D now base → res = true) → StepTo w B d q p pd pm k c D V v R r gn N base now o (.returned (.bool res)) W) := fun W res hb hr =>
    ⟨res, k, c, D, V, v, gb, cb, gn, cn, base, now, rfl, by omega, by omega, HD.out.below hb, HR.out.below hb, HWH.out, HWB.out, HNN.out, Turns.of_below _ hb, fun ha => ⟨hr ha, ha⟩, fun _ => ⟨rfl, rfl, rfl⟩⟩
  generalize rdE now o.i = z at *
  generalize rdB V o.i = s at *
  generalize rdB now o.i = t at *
  by_cases hst : s = t
  · have q1 : (s.toList == t.toList) = true := by rw [hst]; simp
    clear hst
    unfold ocells at HX0 HB0
    clear h hR hBR hN hw hwb hk hcd hs
    go_enter Tryz.func12, Tryz.ntmps12
    obtain ⟨x0, x1, x2, x3, x4, x5⟩ := HX0.out.cells
    obtain ⟨y0, y1, y2, y3, y4, y5, y6, y7, y8⟩ := HX0.out.cells9
    go_wp2_with fail
    refine (HK.out _).mono ?_
    rintro e w1 ⟨rfl, b1⟩
    have HB1 := Lib.hid (HB0.out.trans (b1.mono HB0.out.size))
    have HX1 := Lib.hid (HX0.out.below b1)
    clear x0 x1 x2 x3 x4 x5 y0 y1 y2 y3 y4 y5 y6 y7 y8 b1 HX0 HB0 HK
    obtain ⟨x0, x1, x2, x3, x4, x5⟩ := HX1.out.cells
    go_wp2_with (first
      | (go_at_call 20; refine (HRD.out _ HB1.out).mono ?_; rintro e w2 ⟨rfl, b2⟩
         have HB2 := Lib.hid (HB1.out.trans (b2.mono HB1.out.size))
         have HX2 := Lib.hid (HX1.out.below b2)
         clear b2 x0 x1 x2 x3 x4 x5
         obtain ⟨x0, x1, x2, x3, x4, x5⟩ := HX2.out.cells)
      | (go_at_call 35; refine (HRR.out _ HB2.out).mono ?_; rintro e w3 ⟨rfl, h3⟩; subst h3))
    go_ret
    exact HST.out _ true HB2.out (fun _ => rfl)
  · have q1 : (s.toList == t.toList) = false := by rw [Lg.lists_eq]; exact decide_eq_false hst
    have HNE := Lib.hid hst
    clear hst
    unfold ocells at HX0 HB0
    clear h hR hBR hN hw hwb hk hcd hs
    go_enter Tryz.func12, Tryz.ntmps12
    obtain ⟨x0, x1, x2, x3, x4, x5⟩ := HX0.out.cells
    obtain ⟨y0, y1, y2, y3, y4, y5, y6, y7, y8⟩ := HX0.out.cells9
    go_wp2_with fail
    refine (HK.out _).mono ?_
    rintro e w1 ⟨rfl, b1⟩
    have HB1 := Lib.hid (HB0.out.trans (b1.mono HB0.out.size))
    have HX1 := Lib.hid (HX0.out.below b1)
    clear x0 x1 x2 x3 x4 x5 y0 y1 y2 y3 y4 y5 y6 y7 y8 b1 HX0 HB0 HK
    obtain ⟨x0, x1, x2, x3, x4, x5⟩ := HX1.out.cells
    go_wp2_with (first
      | (go_at_call 20; refine (HRD.out _ HB1.out).mono ?_; rintro e w2 ⟨rfl, b2⟩
         have HB2 := Lib.hid (HB1.out.trans (b2.mono HB1.out.size))
         have HX2 := Lib.hid (HX1.out.below b2)
         clear b2 x0 x1 x2 x3 x4 x5
         obtain ⟨x0, x1, x2, x3, x4, x5⟩ := HX2.out.cells)
      | (go_at_call 35; refine (HRR.out _ HB2.out).mono ?_; rintro e w3 ⟨rfl, h3⟩; subst h3))
    go_ret
    exact HST.out _ false HB2.out (fun ha => absurd (HAG.out ha) HNE.out)
end Go.Proofs.YtapjbffhihhnbaaGreat.Dl
