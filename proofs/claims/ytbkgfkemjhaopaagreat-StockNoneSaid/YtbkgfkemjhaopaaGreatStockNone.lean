/-
  THE LAW StockNone: without a crown nothing is taken, and nothing given back. It holds for every input.
-/
import Derived.Test.YtbkgfkemjhaopaaGreatFF
set_option linter.unusedVariables false
set_option linter.unusedSimpArgs false
namespace Go.Proofs.YtbkgfkemjhaopaaGreat.Dl.stockNone
open Go.ChangeShapes Go.WideShapes Go.ChangeAt Go.RowKit
open Go.ChangeMaps (open_string shut_string)
open Sl (Turns SlabAt)
open Lg (FS LogAt Whole ownB bcell newD newD_len newD_whole)
open Kr (I64)

theorem no_crown : okCr (newD 64) = false := by decide +kernel

set_option maxRecDepth 100000 in
set_option maxHeartbeats 8000000 in
theorem walk (o : OpS) (w : World) (ho : o.fit) :
    Calls Tryz.prog 6 #[opv o] w fun e w' => e = .returned (.bool true) ∧ Below w.heap.size w w' := by
  have HX0 : Hid (ORow (w.alloc (.cells (ocells o) 30)) w.heap.size o) := ORow.new w o
  have HB0 : Hid (Below w.heap.size w (w.alloc (.cells (ocells o) 30))) := (Below.refl _ _).alloc (Nat.le_refl _) _
  have HL := Lib.hid (fun W => lives13_any W)
  have HNEW := Lib.hid (Lg.new_calm 64 (by omega))
  have HOP := Lib.hid (fun p pd pm W hS => open_new 64 p pd pm (by omega) W hS)
  have HBG := Lib.hid (fun q W => begin_any q W)
  have HNO := Lib.hid no_crown
  have HDF := Lib.hid (diffL_self (newD 64))
  have HNW := Lib.hid (newD_whole 64)
  have HNL := Lib.hid (newD_len 64)
  have HF := Lib.hid ho
  clear ho
  generalize newD 64 = D0 at *
  unfold ocells opv at *
  go_enter Tryz.func6, Tryz.ntmps6
  obtain ⟨x0, x1⟩ := HX0.out.cells
  go_wp2_with (first
    | (go_at_call 7; refine (HL.out _).mono ?_; rintro e w1 ⟨rfl, b1⟩
       have HB1 := Lib.hid (HB0.out.trans (b1.mono HB0.out.size))
       have HX1 := Lib.hid (HX0.out.below b1)
       clear b1 x0 x1)
    | (go_at_call 20; refine (HNEW.out _).mono ?_; rintro e w2 ⟨p, pd, pm, rfl, h2, hp, hpd, hpm, b2⟩
       have HB2 := Lib.hid (HB1.out.trans (b2.mono HB1.out.size))
       have HX2 := Lib.hid (HX1.out.below b2)
       have HLp := Lib.hid (⟨h2.lt_p, h2.lt_d, h2.lt_m⟩ : p < w2.heap.size ∧ pd < w2.heap.size ∧ pm < w2.heap.size)
       have hs1 := HB1.out.size
       have HP2 : Hid (w.heap.size + 1 ≤ p ∧ w.heap.size + 1 ≤ pd ∧ w.heap.size + 1 ≤ pm) := by
         have hx := HX1.out.lt
         exact ⟨by omega, by omega, by omega⟩
       have OP := Lib.hid (HOP.out p pd pm w2 h2)
       clear h2 b2 hp hpd hpm hs1)
    | (go_at_call 19; refine OP.out.mono ?_; rintro e w3 ⟨q, rfl, hq, Q3, S3, t3⟩
       have HQ3 := Lib.hid Q3
       have HS3 := Lib.hid S3
       have HB3 := Lib.hid (HB2.out.trans (t3.below HB2.out.size (by have := HP2.out; simp; omega)))
       have HX3 := Lib.hid (HX2.out.turns t3 (by have := HP2.out; simp; omega))
       have hsz : w2.heap.size ≤ w3.heap.size := t3.size
       clear t3 Q3 S3)
    | (go_at_call 21; refine (HBG.out q w3).mono ?_; rintro e w4 ⟨rfl, D4, hz4, b4⟩
       have hq3 := HQ3.out.lt
       have hpp := HLp.out
       have HD4 := Lib.hid (DV.fresh D4 (HQ3.out.below b4 HQ3.out.lt) (HS3.out.keptB (Turns.of_below [] b4)) (by omega) (by simp; omega) (by simp; omega) HNW.out (by rw [HNL.out]; omega))
       have HB4 := Lib.hid (HB3.out.trans (b4.mono HB3.out.size))
       have HX4 := Lib.hid (HX3.out.below b4)
       have HDD := Lib.hid (fun W (hW : Below w4.heap.size w4 W) => HD4.out.below hW)
       have HXX := Lib.hid (fun W (hW : Below w4.heap.size w4 W) => (HX4.out.below hW).cells)
       have hb4 : Below w4.heap.size w4 w4 := Below.refl _ _
       obtain ⟨x0, x1⟩ := HXX.out _ hb4
       clear D4 b4 hz4 hq3 hpp hsz)
    | (go_at_call 15; refine (run_no _ _ _ _ _ _ _ _ _ _ _ o.n _ (HDD.out _ hb5) HNO.out).mono ?_; rintro e w6 ⟨rfl, c6⟩
       have hb6 := hb5.trans (c6.mono hb5.size)
       obtain ⟨x0, x1⟩ := HXX.out _ hb6)
    | (go_at_call 17; refine (free_no _ _ _ _ _ _ _ _ _ _ _ _ (HDD.out _ hb6) HNO.out).mono ?_; rintro e w7 ⟨rfl, c7⟩
       have hb7 := hb6.trans (c7.mono hb6.size)
       obtain ⟨x0, x1⟩ := HXX.out _ hb7)
    | (go_at_call 18; refine (used_no _ _ _ _ _ _ _ _ _ _ _ o.n _ (HDD.out _ hb7) HNO.out).mono ?_; rintro e w8 ⟨rfl, c8⟩
       have hb8 := hb7.trans (c8.mono hb7.size)
       obtain ⟨x0, x1⟩ := HXX.out _ hb8)
    | (go_at_call 14; have hb8' := hb8; refine (take_nil _).mono ?_; rintro e w9 ⟨rfl, c9⟩
       have hb9 := hb8.trans (c9.mono hb8.size)
       obtain ⟨x0, x1⟩ := HXX.out _ hb9)
    | (go_at_call 14; refine (take_no _ _ _ _ _ _ _ _ _ _ _ _ (HDD.out _ hb4) HNO.out).mono ?_; rintro e w5 ⟨rfl, c5⟩
       have hb5 := hb4.trans (c5.mono hb4.size)
       obtain ⟨x0, x1⟩ := HXX.out _ hb5)
    | (go_at_call 16; refine (drop_no _ _ _ _ _ _ _ _ _ _ _ o.n _ (HDD.out _ hb9) HNO.out).mono ?_; rintro e w10 ⟨rfl, c10⟩
       have hb10 := hb9.trans (c10.mono hb9.size))
    | (go_at_call 22; refine (changed_dv _ _ _ _ _ _ _ _ _ _ _ _ (HDD.out _ hb10)).mono ?_; rw [HDF.out]; rintro e w11 ⟨g11, rfl, hg11, r11, c11⟩
       have hb11 := hb10.trans (c11.mono hb10.size)))
  go_ret
  exact ⟨rfl, HB4.out.trans (hb11.mono HB4.out.size)⟩

set_option maxRecDepth 100000 in
theorem lifted (os : Os) (started : os.Started) (H : Type) (enc : TypeId × Value → H) :
    ReturnsInHanded {} Tryz.checked os 6 .any (Rows.stockNoneSpec.pre6 enc Tryz.prog Tryz.f6 Rows.stockNoneRow.domain false) (Rows.stockNoneSpec.post enc Tryz.prog Tryz.f6 false true false false) := by
  refine returnsInHanded_of_change_sized (C := Tryz.checked) own started (by kernel_rfl) Tryz.func6
    (ChangeSpec.witness6 (enc := enc) (C := Tryz.checked) false ⟨#[], #[.agg #[.int .i64 0, .int .i64 0]], []⟩ 8 (by kernel_rfl) (by kernel_rfl) (by kernel_rfl) (by kernel_rfl)) ?_
  intro W base args ds gs before hval0 hW hcnd hsz0 _
  have hval : ∀ (j : Nat) t v, Tryz.f6.params[j]? = some t → args[j]? = some v → Value.okWide Tryz.prog W .any base t v := hval0
  have hW' := hW
  obtain ⟨p, q, hA0, hV, rfl, hfz, hnd⟩ := hW
  have hA : DataW.TrodAll enc Tryz.prog W 0 (fun _ => true) true Tryz.f6.params.toList args.toList ds p := hA0
  rw [Tryz.params6] at hA hval
  obtain ⟨v0, vs0, d0, ds0, p0, q0, hargs, rfl, rfl, h0, r0⟩ := trodAll_cons hA
  obtain ⟨rfl, rfl, rfl⟩ := trodAll_nil r0
  obtain rfl : args = #[v0] := by cases args; simp_all
  obtain ⟨rfl, rfl⟩ := trodVars_none hV
  have lt0 : ∀ x ∈ p0, x.block < W.heap.size := by obtain ⟨m, hm⟩ := h0; exact DataW.trod_lt m _ _ _ hm
  obtain ⟨o0, rfl, w0⟩ := op2_open (hval 0 30 v0 rfl rfl) h0
  clear hA0 hval0
  refine (walk o0 W w0).mono fun e W' ⟨he, bel⟩ => ?_
  subst he
  exact ⟨_, rfl, _, _, _, [], _, [], hW', trodAll_mk1 (shut_bool Tryz.underlying4 _), (trodAll_cons_mk (Below.trod laidOut (by kernel_rfl) (of_decide_eq_true (by kernel_rfl)) h0 bel lt0) trodAll_mk0), rfl, bel.frame _, fun h => by cases h⟩

theorem over : Rows.stockNoneRow.holds Tryz.pinned (OpenSpec.ofChange Rows.stockNoneSpec) :=
  OpenClaim.holds_of_wide 6 Tryz.f6 rfl rfl rfl rfl rfl rfl rfl ⟨rfl, rfl, rfl, rfl, rfl⟩ rfl rfl rfl rfl rfl (by kernel_rfl) Tryz.func6 (by kernel_rfl)
    (of_decide_eq_true (by kernel_rfl)) (by unfold Func.isWrapper; first | (rw [if_pos (by decide +kernel)]; kernel_rfl) | (rw [if_neg (by decide +kernel)]; exact ⟨rfl, rfl⟩))
    (fun os started H enc _ => lifted os started H enc)

end Go.Proofs.YtbkgfkemjhaopaaGreat.Dl.stockNone
namespace Go.Proofs.YtbkgfkemjhaopaaGreat
theorem stockNone_proved : Rows.StockNoneSaid := Dl.stockNone.over
#print axioms stockNone_proved
end Go.Proofs.YtbkgfkemjhaopaaGreat
