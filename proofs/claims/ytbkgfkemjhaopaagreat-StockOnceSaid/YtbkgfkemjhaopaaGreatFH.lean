/-
  WALKS of the reference's stock: Take, Drop, Free, Used. Condition: the reference's deal, whole blocks.
-/
import Derived.Test.YtbkgfkemjhaopaaGreatFG
set_option linter.unusedVariables false
set_option linter.unusedSimpArgs false
set_option maxRecDepth 100000
set_option maxHeartbeats 4000000
namespace Go.Proofs.YtbkgfkemjhaopaaGreat.Dl
open Go.RowKit
open Mk
open Sl (Turns SlabAt)
open Lg (Ch chCells chsCells FS LogAt Whole setL setL_len ownB bcell z128)
open Kr (crv rightK blockK okK kf kb kc KBox cells3 put3 put3_box put3_below marksK bit_marks marks_size I64 inB)

theorem rowned_any (f b u i : Int) (w : World) (hb : I64 b) : Calls Tryz.prog 62 #[crv f b u, .int .i64 i] w fun e w' => e = .returned (.bool (inB i 51 (b - 1))) ∧ Below w.heap.size w w' := by
  have HX0 : Hid (KBox (w.alloc (.cells (cells3 f b u) 62)) w.heap.size f b u) := KBox.new _ _ _ _
  have HB0 : Hid (Below w.heap.size w (w.alloc (.cells (cells3 f b u) 62))) := (Below.refl _ _).alloc (Nat.le_refl _) _
  unfold cells3 at HX0 HB0
  unfold crv at *
  by_cases h1 : 51 ≤ i
  · by_cases h2 : i < b
    · have HE : inB i 51 (b - 1) = true := by unfold Kr.inB; rw [decide_eq_true h1, decide_eq_true (by omega)]; rfl
      rw [HE]
      clear HE
      go_enter Tryz.func62, Tryz.ntmps62
      obtain ⟨x0, x1, x2⟩ := HX0.out.row
      go_wp2
      go_ret
      exact ⟨rfl, HB0.out⟩
    · have HE : inB i 51 (b - 1) = false := by unfold Kr.inB; rw [decide_eq_true h1, decide_eq_false (by omega)]; rfl
      rw [HE]
      clear HE
      go_enter Tryz.func62, Tryz.ntmps62
      obtain ⟨x0, x1, x2⟩ := HX0.out.row
      go_wp2
      go_ret
      exact ⟨rfl, HB0.out⟩
  · have HE : inB i 51 (b - 1) = false := by unfold Kr.inB; rw [decide_eq_false h1]; rfl
    rw [HE]
    clear HE
    go_enter Tryz.func62, Tryz.ntmps62
    obtain ⟨x0, x1, x2⟩ := HX0.out.row
    go_wp2
    go_ret
    exact ⟨rfl, HB0.out⟩

theorem rtake_any (R r gb cb gn cn N : Nat) (base now : List ByteArray) (w : World) (h : RD w R r gb cb gn cn N base now) (hN : 64 ≤ N) (hN2 : N ≤ 1000) (hw : Whole now) :
    Calls Tryz.prog 30 #[.pointer (some ⟨r, 0, none⟩)] w fun e w' => e = .returned (.tuple #[.int .i64 (rnA now 1), .int .i64 (rnE now 1)]) ∧ RD w' R r gb cb gn cn N base (rnV now 1) ∧ Turns [gn] w w' := by
  have HR := Lib.hid (rrun_any R r gb cb gn cn N base now 1 w h hN hN2 hw (by unfold I64; omega))
  generalize rnA now 1 = a at *
  generalize rnL now 1 = l at *
  generalize rnE now 1 = z at *
  generalize rnV now 1 = V' at *
  clear h
  go_enter Tryz.func30, Tryz.ntmps30
  go_wp2_with (go_at_call 31; refine HR.out.mono ?_; rintro e w1 ⟨rfl, r1, t1⟩)
  go_ret2
  exact ⟨rfl, r1, t1⟩

theorem rused_any (R r gb cb gn cn N : Nat) (base now : List ByteArray) (i : Int) (w : World) (h : RD w R r gb cb gn cn N base now) (hN : 64 ≤ N) (hN2 : N ≤ 1000) (hw : Whole now) (hi : I64 i) :
    Calls Tryz.prog 33 #[.pointer (some ⟨r, 0, none⟩), .int .i64 i] w fun e w' => e = .returned (.tuple #[.bool (usB now i), .int .i64 (usE now i)]) ∧ Below w.heap.size w w' := by
  have hz : (mkB now).size = 128 := hw.get (k := 42) (by rw [h.ln]; omega)
  have HCR := Lib.hid (rcrown_any R r gb cb gn cn N base now w h (by omega) (by rw [hw.get (k := 0) (by rw [h.ln]; omega)]; omega))
  unfold RetCr at HCR
  unfold usB usE
  have HN := Lib.hid (KBox.new3)
  cases ho : okCr now with
  | false =>
    have e1 : ownV now i = false := by unfold ownV; rw [ho]; rfl
    have e2 := (cr_no ho).2
    rw [e1]
    simp only [if_neg (by decide : ¬ false = true), Bool.false_and]
    rw [e2] at HCR
    clear h ho e1 e2 hz
    generalize crF now = f at *
    generalize crB now = b at *
    generalize crC now = u at *
    unfold crv at *
    go_enter Tryz.func33, Tryz.ntmps33
    go_wp2_with (go_at_call 59; refine HCR.out.mono ?_; rintro e w1 ⟨rfl, b1⟩)
    go_ret2
    exact ⟨rfl, b1.alloc b1.size _⟩
  | true =>
    rw [cr_ok ho] at HCR
    obtain ⟨k1, k2, k3, k4⟩ := cr_b ho
    have HOW := Lib.hid (fun W => rowned_any (crF now) (crB now) (crC now) i W (by unfold I64; omega))
    have eo : inB i 51 (crB now - 1) = ownV now i := by unfold ownV; rw [ho]; rfl
    rw [eo] at HOW
    have HIS := Lib.hid (fun W => ris_any (mkB now) i W (by rw [hz]; omega) hi)
    have c1 := h.c1
    have d0 : w.cell? ⟨gn, 42, none⟩ = some (.string (mkB now)) := h.cell (k := 42) (by omega)
    have hrl : r < w.heap.size := h.lt
    have hgl : gn < w.heap.size := h.gn_ge.2
    have hN42 : (42 : Int) < (N : Int) := by omega
    simp only [if_pos]
    clear h ho hz k1 k2 k3 k4 hw hi eo
    generalize crF now = f at *
    generalize crB now = b at *
    generalize crC now = u at *
    generalize isB (mkB now) i = z at *
    generalize mkB now = m at *
    generalize ownV now i = o at *
    unfold crv at *
    cases o with
    | false =>
      simp only [if_neg (by decide : ¬ false = true), Bool.false_and]
      go_enter Tryz.func33, Tryz.ntmps33
      go_wp2_with (first
        | (go_at_call 59; refine HCR.out.mono ?_; rintro e w1 ⟨rfl, b1⟩
           have HB1 := Lib.hid (b1.alloc b1.size (.cells #[.int .i64 f, .int .i64 b, .int .i64 u] 62))
           obtain ⟨y0, y1, y2⟩ := (HN.out w1 f b u).row
           clear b1)
        | (go_at_call 62; refine (HOW.out _).mono ?_; rintro e w2 ⟨rfl, b2⟩))
      go_ret2
      exact ⟨rfl, HB1.out.trans (b2.mono HB1.out.size)⟩
    | true =>
      simp only [if_pos, Bool.true_and]
      go_enter Tryz.func33, Tryz.ntmps33
      go_wp2_with (first
        | (go_at_call 59; refine HCR.out.mono ?_; rintro e w1 ⟨rfl, b1⟩
           have HB1 := Lib.hid (b1.alloc b1.size (.cells #[.int .i64 f, .int .i64 b, .int .i64 u] 62))
           obtain ⟨y0, y1, y2⟩ := (HN.out w1 f b u).row
           clear b1)
        | (go_at_call 62; refine (HOW.out _).mono ?_; rintro e w2 ⟨rfl, b2⟩
           have HB2 := Lib.hid (HB1.out.trans (b2.mono HB1.out.size))
           have c1' := bcell HB2.out c1 hrl
           have d1' := bcell HB2.out d0 hgl
           clear b2)
        | (go_at_call 63; refine (HIS.out _).mono ?_; rintro e w3 ⟨rfl, rfl⟩))
      go_ret2
      exact ⟨rfl, HB2.out⟩

theorem rdrop_any (R r gb cb gn cn N : Nat) (base now : List ByteArray) (i : Int) (w : World) (h : RD w R r gb cb gn cn N base now) (hN : 64 ≤ N) (hN2 : N ≤ 1000) (hw : Whole now) (hi : I64 i) :
    Calls Tryz.prog 32 #[.pointer (some ⟨r, 0, none⟩), .int .i64 i] w fun e w' => e = .returned (.int .i64 (dpE now i)) ∧ RD w' R r gb cb gn cn N base (dpV now i) ∧ Turns [gn] w w' := by
  have hz : (mkB now).size = 128 := hw.get (k := 42) (by rw [h.ln]; omega)
  have HCR := Lib.hid (rcrown_any R r gb cb gn cn N base now w h (by omega) (by rw [hw.get (k := 0) (by rw [h.ln]; omega)]; omega))
  unfold RetCr at HCR
  unfold dpV dpE
  have HN := Lib.hid (KBox.new3)
  have HR := Lib.hid (fun W (hW : Below w.heap.size w W) => h.below hW)
  cases ho : okCr now with
  | false =>
    have e1 : ownV now i = false := by unfold ownV; rw [ho]; rfl
    have e2 := (cr_no ho).2
    rw [e1]
    simp only [if_neg (by decide : ¬ false = true), if_neg (by decide : ¬ (15 : Int) = 0)]
    rw [e2] at HCR
    clear h ho e1 e2 hz
    generalize crF now = f at *
    generalize crB now = b at *
    generalize crC now = u at *
    unfold crv at *
    go_enter Tryz.func32, Tryz.ntmps32
    go_wp2_with (go_at_call 59; refine HCR.out.mono ?_; rintro e w1 ⟨rfl, b1⟩)
    go_ret
    exact ⟨rfl, HR.out _ (b1.alloc b1.size _), Turns.of_below _ (b1.alloc b1.size _)⟩
  | true =>
    rw [cr_ok ho] at HCR
    obtain ⟨k1, k2, k3, k4⟩ := cr_b ho
    have HOW := Lib.hid (fun W => rowned_any (crF now) (crB now) (crC now) i W (by unfold I64; omega))
    have eo : inB i 51 (crB now - 1) = ownV now i := by unfold ownV; rw [ho]; rfl
    rw [eo] at HOW
    have HIS := Lib.hid (fun W => ris_any (mkB now) i W (by rw [hz]; omega) hi)
    have HST := Lib.hid (fun W => rset_any (mkB now) i false W (by rw [hz]; omega) hi)
    have HPT := Lib.hid (fun (W : World) (hW : Below w.heap.size w W) => (h.below hW).put 42 (setR (mkB now) i false))
    have HFZ := Lib.hid (fun (W : World) (hW : Below w.heap.size w W) => (h.below hW).fzn 42)
    have c1 := h.c1
    have d0 : w.cell? ⟨gn, 42, none⟩ = some (.string (mkB now)) := h.cell (k := 42) (by omega)
    have hrl : r < w.heap.size := h.lt
    have hgl : gn < w.heap.size := h.gn_ge.2
    have hN42 : (42 : Int) < (N : Int) := by omega
    clear h ho hz k1 k2 k3 k4 hw hi eo
    generalize now.set 42 (setR (mkB now) i false) = now2 at *
    generalize setR (mkB now) i false = s2 at *
    generalize crF now = f at *
    generalize crB now = b at *
    generalize crC now = u at *
    generalize isB (mkB now) i = z at *
    generalize mkB now = m at *
    generalize ownV now i = o at *
    unfold crv at *
    cases o with
    | false =>
      simp only [if_neg (by decide : ¬ false = true), if_neg (by decide : ¬ (15 : Int) = 0)]
      go_enter Tryz.func32, Tryz.ntmps32
      go_wp2_with (first
        | (go_at_call 59; refine HCR.out.mono ?_; rintro e w1 ⟨rfl, b1⟩
           have HB1 := Lib.hid (b1.alloc b1.size (.cells #[.int .i64 f, .int .i64 b, .int .i64 u] 62))
           obtain ⟨y0, y1, y2⟩ := (HN.out w1 f b u).row
           clear b1)
        | (go_at_call 62; refine (HOW.out _).mono ?_; rintro e w2 ⟨rfl, b2⟩))
      go_ret
      have hb := HB1.out.trans (b2.mono HB1.out.size)
      exact ⟨rfl, HR.out _ hb, Turns.of_below _ hb⟩
    | true =>
      cases z with
      | false =>
        simp only [if_pos, if_neg (by decide : ¬ false = true), if_neg (by decide : ¬ (15 : Int) = 0)]
        go_enter Tryz.func32, Tryz.ntmps32
        go_wp2_with (first
          | (go_at_call 59; refine HCR.out.mono ?_; rintro e w1 ⟨rfl, b1⟩
             have HB1 := Lib.hid (b1.alloc b1.size (.cells #[.int .i64 f, .int .i64 b, .int .i64 u] 62))
             obtain ⟨y0, y1, y2⟩ := (HN.out w1 f b u).row
             clear b1)
          | (go_at_call 62; refine (HOW.out _).mono ?_; rintro e w2 ⟨rfl, b2⟩
             have HB2 := Lib.hid (HB1.out.trans (b2.mono HB1.out.size))
             have c1' := bcell HB2.out c1 hrl
             have d1' := bcell HB2.out d0 hgl
             clear b2)
          | (go_at_call 63; refine (HIS.out _).mono ?_; rintro e w3 ⟨rfl, rfl⟩))
        go_ret
        exact ⟨rfl, HR.out _ HB2.out, Turns.of_below _ HB2.out⟩
      | true =>
        simp only [if_pos]
        go_enter Tryz.func32, Tryz.ntmps32
        go_wp2_with (first
          | (go_at_call 59; refine HCR.out.mono ?_; rintro e w1 ⟨rfl, b1⟩
             have HB1 := Lib.hid (b1.alloc b1.size (.cells #[.int .i64 f, .int .i64 b, .int .i64 u] 62))
             obtain ⟨y0, y1, y2⟩ := (HN.out w1 f b u).row
             clear b1)
          | (go_at_call 62; refine (HOW.out _).mono ?_; rintro e w2 ⟨rfl, b2⟩
             have HB2 := Lib.hid (HB1.out.trans (b2.mono HB1.out.size))
             have c1' := bcell HB2.out c1 hrl
             have d1' := bcell HB2.out d0 hgl
             clear b2)
          | (go_at_call 63; refine (HIS.out _).mono ?_; rintro e w3 ⟨rfl, rfl⟩))
        have HW2 : Hid (Below w.heap.size w w2.drew) := HB2.out.drew
        have c2' : w2.drew.cell? ⟨r, 1, none⟩ = some (.slice (some ⟨gn, 0, none⟩) N cn) := c1'
        have d2' : w2.drew.cell? ⟨gn, 42, none⟩ = some (.string m) := d1'
        clear y0 y1 y2 HB1
        go_region_with (go_at_call 50; refine (HST.out _).mono ?_; rintro e w4 ⟨rfl, b4⟩
                        have b5 : Below w.heap.size w w4 := HW2.out.trans (b4.mono HW2.out.size)
                        have d3 : w4.cell? ⟨gn, 42, none⟩ = some (.string m) := bcell b5 d0 hgl
                        have c3 : w4.cell? ⟨r, 1, none⟩ = some (.slice (some ⟨gn, 0, none⟩) N cn) := bcell b5 c1 hrl
                        have f1 := HFZ.out _ b5)
        all_goals
          go_wp2
          go_ret
          exact ⟨rfl, HPT.out _ b5, (Turns.of_below _ b5).trans (Turns.setCell _ (by simp) _)⟩

theorem rfree_any (R r gb cb gn cn N : Nat) (base now : List ByteArray) (w : World) (h : RD w R r gb cb gn cn N base now) (hN : 64 ≤ N) (hN2 : N ≤ 1000) (hw : Whole now) :
    Calls Tryz.prog 34 #[.pointer (some ⟨r, 0, none⟩)] w fun e w' => e = .returned (.tuple #[.int .i64 (frN now), .int .i64 (crE now)]) ∧ Below w.heap.size w w' := by
  have hz : (mkB now).size = 128 := hw.get (k := 42) (by rw [h.ln]; omega)
  have HCR := Lib.hid (rcrown_any R r gb cb gn cn N base now w h (by omega) (by rw [hw.get (k := 0) (by rw [h.ln]; omega)]; omega))
  unfold RetCr at HCR
  unfold frN
  have HN := Lib.hid (KBox.new3)
  cases ho : okCr now with
  | false =>
    have e2 := (cr_no ho).2
    simp only [if_neg (by decide : ¬ false = true)]
    rw [e2] at HCR ⊢
    clear h ho e2 hz
    generalize crF now = f at *
    generalize crB now = b at *
    generalize crC now = u at *
    unfold crv at *
    go_enter Tryz.func34, Tryz.ntmps34
    go_wp2_with (go_at_call 59; refine HCR.out.mono ?_; rintro e w1 ⟨rfl, b1⟩)
    go_ret2
    exact ⟨rfl, b1.alloc b1.size _⟩
  | true =>
    rw [cr_ok ho] at HCR ⊢
    obtain ⟨k1, k2, k3, k4⟩ := cr_b ho
    obtain ⟨bn, hbn⟩ : ∃ bn : Nat, crB now = (bn : Int) := ⟨(crB now).toNat, by omega⟩
    rw [hbn] at HCR ⊢
    have HBN := Lib.hid (show 64 ≤ bn ∧ bn ≤ 400 by omega)
    have HIS := Lib.hid (fun (t : Nat) (ht : t ≤ 1024) W => ris_any (mkB now) (t : Int) W (by rw [hz]; omega) (by omega))
    have HIB : Hid (∀ t : Nat, isB (mkB now) (t : Int) = bitN (mkB now) t) := fun t => isB_nat _ t
    have HFL := Lib.hid (fcn_low (mkB now) 51 (by omega))
    have HFY := Lib.hid (fun t => fcn_yes (m := mkB now) (t := t))
    have HFN := Lib.hid (fun t => fcn_no (m := mkB now) (t := t))
    have HFB := Lib.hid (fcn_le (mkB now))
    have c1 := h.c1
    have d0 : w.cell? ⟨gn, 42, none⟩ = some (.string (mkB now)) := h.cell (k := 42) (by omega)
    have hrl : r < w.heap.size := h.lt
    have hgl : gn < w.heap.size := h.gn_ge.2
    have hN42 : (42 : Int) < (N : Int) := by omega
    simp only [if_pos, Int.toNat_natCast]
    clear h ho hz k1 k2 k3 k4 hw hbn
    generalize crF now = f at *
    generalize crC now = u at *
    generalize mkB now = m at *
    unfold crv at *
    go_enter Tryz.func34, Tryz.ntmps34
    go_wp2_with (go_at_call 59; refine HCR.out.mono ?_; rintro e w1 ⟨rfl, b1⟩
                 have HB1 := Lib.hid (b1.alloc b1.size (.cells #[.int .i64 f, .int .i64 (bn : Int), .int .i64 u] 62))
                 have HX1 := Lib.hid (HN.out w1 f bn u)
                 obtain ⟨y0, y1, y2⟩ := HX1.out.row
                 have c1' := bcell HB1.out c1 hrl
                 have d1' := bcell HB1.out d0 hgl
                 clear b1)
    generalize w1.heap.size = gx at *
    generalize w1.alloc (.cells #[.int .i64 f, .int .i64 (bn : Int), .int .i64 u] 62) = W1 at *
    clear HCR
    go_loop [6, 7] (fun nv iv => ∃ t : Nat, 51 ≤ t ∧ t ≤ bn ∧ iv = .int .i64 (t : Int) ∧ nv = .int .i64 ((fcn m t : Nat) : Int)) (fun _ iv => bn - (intOf iv).toNat)
    case atStart => exact ⟨51, by omega, by have := HBN.out; omega, rfl, by rw [HFL.out]; rfl⟩
    case round =>
      obtain ⟨t, ht1, ht2, rfl, rfl⟩ := hrel
      have hb4 := HBN.out
      have hfb := HFB.out t
      by_cases hlt : t < bn
      · have g1 : (t : Int) < (bn : Int) := by omega
        have HC := Lib.hid (HIS.out t (by omega))
        have hib := HIB.out t
        cases hb : bitN m t with
        | false =>
          rw [hib, hb] at HC
          have HF := Lib.hid (HFY.out t ht1 hb)
          clear hb hib
          generalize fcn m t = c at *
          go_wp2_with (go_at_call 63; refine (HC.out _).mono ?_; rintro e w2 ⟨rfl, rfl⟩)
          go_round
          case rel => exact ⟨t + 1, by omega, by omega, by go_num, by rw [HF.out]; go_num⟩
          case measure => simp [intOf]; omega
        | true =>
          rw [hib, hb] at HC
          have HF := Lib.hid (HFN.out t hb)
          clear hb hib
          generalize fcn m t = c at *
          go_wp2_with (go_at_call 63; refine (HC.out _).mono ?_; rintro e w2 ⟨rfl, rfl⟩)
          go_round
          case rel => exact ⟨t + 1, by omega, by omega, by go_num, by rw [HF.out]⟩
          case measure => simp [intOf]; omega
      · have hte : t = bn := by omega
        subst hte
        have g1 : ¬ (t : Int) < (t : Int) := by omega
        go_wp2
        go_ret2
        exact ⟨rfl, HB1.out⟩
end Go.Proofs.YtbkgfkemjhaopaaGreat.Dl
