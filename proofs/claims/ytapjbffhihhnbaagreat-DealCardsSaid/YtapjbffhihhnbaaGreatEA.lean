/-
  WALKS: any step of the law's script; a new slab's log and deal; early; lives. Condition: a deal on a calm slab, beside the reference's.
-/
import Derived.Test.YtapjbffhihhnbaaGreatDX
import Derived.Test.YtapjbffhihhnbaaGreatDY
import Derived.Test.YtapjbffhihhnbaaGreatDZ
set_option linter.unusedVariables false
set_option linter.unusedSimpArgs false
set_option maxRecDepth 100000
set_option maxHeartbeats 4000000
namespace Go.Proofs.YtapjbffhihhnbaaGreat.Dl
open Go.RowKit
open Sl (Turns SlabAt)
open Lg (Ch chCells chsCells FS LogAt Whole setL setL_len ownB bcell newD newD_len newD_whole newD_get z128)
open Kr (crv rightK blockK okK kf kb kc)

theorem step_any (B d q p pd pm k c : Nat) (D V : List ByteArray) (v : Value) (R r gb cb gn cn N : Nat) (base now : List ByteArray) (vo : Value) (o : OpD) (BO : Nat) (w : World)
    (h : DV w B d q p pd pm k c D V v) (hR : RD w R r gb cb gn cn N base now) (hBR : B ≤ R) (hN : D.length = N) (hw : Whole now) (hwb : Whole base) (ho : OpAt w BO vo o) (hBO : BO ≤ w.heap.size) (hBd : BO ≤ d) (hc6 : c ≤ 600000) (hk6 : k ≤ 1000000) :
    Calls Tryz.prog 12 #[.pointer (some ⟨d, 0, none⟩), .pointer (some ⟨r, 0, none⟩), vo] w (StepTo w B d q p pd pm k c D V v R r gn N base now o) := by
  have hb := kdO_b o
  rcases (by omega : kdO o = 0 ∨ kdO o = 1 ∨ kdO o = 2 ∨ kdO o = 3 ∨ kdO o = 4 ∨ kdO o = 5 ∨ kdO o = 6) with e | e | e | e | e | e | e
  · exact step0 B d q p pd pm k c D V v R r gb cb gn cn N base now vo o BO w h hR hBR hN hw hwb ho hBO e
  · exact step1 B d q p pd pm k c D V v R r gb cb gn cn N base now vo o BO w h hR hBR hN hw hwb ho hBO e
  · exact step2 B d q p pd pm k c D V v R r gb cb gn cn N base now vo o BO w h hR hBR hN hw hwb ho hBO e
  · exact step3 B d q p pd pm k c D V v R r gb cb gn cn N base now vo o BO w h hR hBR hN hw hwb ho hBO e
  · exact step4 B d q p pd pm k c D V v R r gb cb gn cn N base now vo o BO w h hR hBR hN hw hwb ho hBO hBd e
  · exact step5 B d q p pd pm k c D V v R r gb cb gn cn N base now vo o BO w h hR hBR hN hw hwb ho hBO e
  · exact step6 B d q p pd pm k c D V v R r gb cb gn cn N base now vo o BO w h hR hBR hN hw hwb ho hBO hc6 hk6 e

/-! ### a new slab -/
theorem open_new (n p pd pm : Nat) (hn : 64 ≤ n) (w : World) (hS : SlabAt w p pd pm (FS (newD n) 0)) :
    Calls Tryz.prog 18 #[.pointer (some ⟨p, 0, none⟩)] w fun e w' => ∃ q, e = .returned (.tuple #[.pointer (some ⟨q, 0, none⟩), .int .i64 0]) ∧ w.heap.size ≤ q ∧ LogAt w' q p 0 ∧ SlabAt w' p pd pm (FS (newD n) 0) ∧ Turns [p, pd, pm] w w' := by
  obtain ⟨k1, k2, k3⟩ := Lg.calm_open (newD_get (n := n) (k := 1) (by omega)) 0
  refine (Lg.open_any p pd pm (newD n) 0 w hS (newD_whole n) (by omega)).mono ?_
  rintro e w' ⟨t, _, _, hx⟩
  obtain ⟨q, rfl, hq, Q, S⟩ := hx (by rw [newD_len]; exact hn) k1
  rw [k2, k3] at S
  exact ⟨q, rfl, hq, Q, S, t⟩
/-- a new deal of a log. -/
theorem DV.fresh {w : World} {d q p pd pm k c : Nat} {D : List ByteArray} (hd : DealAt w d q (.slice none 0 0)) (hq : LogAt w q p k) (hS : SlabAt w p pd pm (FS D c)) (h1 : d ≠ q) (h2 : d ∉ [p, pd, pm]) (h3 : q ∉ [p, pd, pm]) (hw : Whole D) (hN : 64 ≤ D.length) :
    DV w w.heap.size d q p pd pm k c D D (.slice none 0 0) :=
  ⟨[], ⟨⟨hd.lt, hq.lt, hS.lt_p, hS.lt_d, hS.lt_m, h1, h2, h3⟩, Nat.le_refl _, hd, hq, hS, ⟨rfl, .inl ⟨rfl, rfl⟩⟩, Inv.nil D, hw, hN⟩, rfl⟩
theorem begin12_any (n : Nat) (hn : 64 ≤ n) (hn2 : n ≤ 1000) (w : World) :
    Calls Tryz.prog 9 #[.int .i64 n] w fun e w' => ∃ d q p pd pm, e = .returned (.tuple #[.pointer (some ⟨p, 0, none⟩), .pointer (some ⟨d, 0, none⟩)]) ∧ w.heap.size ≤ d ∧ w.heap.size ≤ q ∧ w.heap.size ≤ p ∧ w.heap.size ≤ pd ∧ w.heap.size ≤ pm ∧ DV w' w'.heap.size d q p pd pm 0 0 (newD n) (newD n) (.slice none 0 0) ∧ Below w.heap.size w w' := by
  have HNEW := Lib.hid (Lg.new_calm n hn2)
  have HOP := Lib.hid (fun p pd pm W hS => open_new n p pd pm hn W hS)
  have HBG := Lib.hid (fun q W => begin_any q W)
  have HN := Lib.hid (⟨hn, hn2⟩ : 64 ≤ n ∧ n ≤ 1000)
  clear hn hn2
  go_enter Tryz.func9, Tryz.ntmps9
  go_wp2_with fail
  refine (HNEW.out _).mono ?_
  rintro e w1 ⟨p, pd, pm, rfl, h1, hp, hpd, hpm, b1⟩
  have HB1 := Lib.hid b1
  have HLp := Lib.hid (⟨h1.lt_p, h1.lt_d, h1.lt_m⟩ : p < w1.heap.size ∧ pd < w1.heap.size ∧ pm < w1.heap.size)
  have OP := Lib.hid (HOP.out p pd pm w1 h1)
  clear h1 b1
  go_wp2_with fail
  refine OP.out.mono ?_
  rintro e w2 ⟨q, rfl, hq, Q2, S2, t2⟩
  have HQ2 := Lib.hid Q2
  have HS2 := Lib.hid S2
  have HB2 := Lib.hid (HB1.out.trans (t2.below HB1.out.size (by simp; omega)))
  have hsz : w1.heap.size ≤ w2.heap.size := t2.size
  clear OP t2 Q2 S2
  go_wp2_with fail
  refine (HBG.out q w2).mono ?_
  rintro e w3 ⟨rfl, D3, hz3, b3⟩
  have hq3 := HQ2.out.lt
  have hpp := HLp.out
  have HD3 := Lib.hid (DV.fresh D3 (HQ2.out.below b3 HQ2.out.lt) (HS2.out.keptB (Turns.of_below [] b3)) (by omega) (by simp; omega) (by simp; omega) (newD_whole n) (by rw [newD_len]; exact HN.out.1))
  have HB3 := Lib.hid (HB2.out.trans (b3.mono HB2.out.size))
  have hsb := HB1.out.size
  clear D3 b3
  go_wp2
  go_ret2
  exact ⟨w2.heap.size, q, p, pd, pm, rfl, by omega, by omega, hp, hpd, hpm, HD3.out, HB3.out⟩
theorem early12_any (A : Option Addr) (n c : Nat) (w : World) (hnc : n ≤ c) :
    Calls Tryz.prog 8 #[.slice A n c] w fun e w' => e = .returned (.slice A (min n 150) c) ∧ w = w' := by
  by_cases h : n ≤ 150
  · have hm : min n 150 = n := Nat.min_eq_left h
    have hmi : min (n : Int) 150 = (n : Int) := by omega
    have HM := Lib.hid hm
    generalize min n 150 = r at *
    clear hm
    go_enter Tryz.func8, Tryz.ntmps8
    go_wp2
    go_ret
    exact ⟨by rw [HM.out]; rfl, rfl⟩
  · have hm : min n 150 = 150 := Nat.min_eq_right (by omega)
    have hmi : min (n : Int) 150 = 150 := by omega
    have HM := Lib.hid hm
    have hc25 : ¬ (c : Int) < 150 := by omega
    generalize min n 150 = r at *
    clear hm
    go_enter Tryz.func8, Tryz.ntmps8
    go_wp2
    go_ret
    exact ⟨by rw [HM.out]; rfl, rfl⟩

/-! ### lives -/
def aS : ByteArray := ⟨#[97]⟩
def aB : ByteArray := Sl.padS aS 128
theorem aB_size : aB.size = 128 := Lg.size_padS _ _ (by decide)
theorem a_ok : wrE (newD 64) 60 aS = 0 ∧ wrV (newD 64) 60 aS = (newD 64).set 60 aB := by
  have e : wrOk (newD 64) 60 aS = true := by unfold wrOk; rw [newD_len]; decide
  unfold wrE wrV
  rw [if_pos e, if_pos e]
  exact ⟨rfl, rfl⟩
theorem aB_ne : aB ≠ z128 := by
  intro h
  have : aB.data = z128.data := by rw [h]
  have h2 : aB.data[0]? = z128.data[0]? := by rw [this]
  have h3 : aB.data[0]? = some 97 := by kernel_rfl
  have h4 : z128.data[0]? = some 0 := by kernel_rfl
  rw [h3, h4] at h2
  cases h2
theorem diffL_self (D : List ByteArray) : diffL D D = [] := by
  unfold diffL
  rw [List.filter_eq_nil_iff.2 (by simp)]
  rfl
theorem diff_a : (diffL ((newD 64).set 60 aB) (newD 64)).length = 1 := by
  have e : diffL ((newD 64).set 60 aB) (newD 64) = ((List.range 64).filter (fun i => decide (i = 60))).map (fun i : Nat => (i : Int)) := by
    unfold diffL
    rw [List.length_set, newD_len]
    refine congrArg (List.map _) (List.filter_congr fun i hi => ?_)
    have hi' : i < 64 := List.mem_range.1 hi
    rw [getD_set2, newD_get hi', newD_len]
    by_cases h60 : i = 60
    · subst h60; simp [aB_ne]
    · have h61 : ¬ 60 = i := fun e => h60 e.symm
      simp [h60, h61]
  rw [e]
  decide
theorem lives12_any (w : World) : Calls Tryz.prog 7 #[] w fun e w' => e = .returned (.bool true) ∧ Below w.heap.size w w' := by
  have HBG := Lib.hid (fun W => begin12_any 64 (by omega) (by omega) W)
  have HWA := Lib.hid (fun W => Sl.whole_any aS W (by decide))
  rw [whole_is (by decide : aS.size ≤ 128)] at HWA
  have HA : Hid (Sl.padS aS 128 = aB) := rfl
  rw [HA.out] at HWA
  obtain ⟨e1, e2⟩ := a_ok
  have E1 := Lib.hid e1
  have E2 := Lib.hid e2
  clear e1 e2
  go_enter Tryz.func7, Tryz.ntmps7
  go_wp2_with fail
  refine (HBG.out _).mono ?_
  rintro e w1 ⟨d, q, p, pd, pm, rfl, hd, hq, hp, hpd, hpm, d1, b1⟩
  have HB1 := Lib.hid b1
  have HD1 := Lib.hid d1
  have HWR := Lib.hid (write_dv _ d q p pd pm 0 0 (newD 64) (newD 64) _ 60 aS w1 d1 (by decide))
  rw [E1.out, E2.out] at HWR
  clear d1 b1
  go_wp2_with fail
  refine HWR.out.mono ?_
  rintro e w2 ⟨rfl, v2, d2, t2⟩
  have HD2 := Lib.hid d2
  have hsz : w.heap.size ≤ w1.heap.size := HB1.out.size
  have HB2 := Lib.hid (HB1.out.trans (t2.below HB1.out.size (by
    intro j hj
    rcases HD1.out.own_ge j hj with e | e
    · omega
    · omega)))
  have HRD := Lib.hid (fun (W : World) (hW : Below w2.heap.size w2 W) => read_dv _ d q p pd pm 0 0 (newD 64) _ v2 60 W (d2.below hW))
  have e3 : rdB ((newD 64).set 60 aB) 60 = aB := by
    unfold rdB
    rw [List.length_set, newD_len, if_pos (by decide)]
    show ((newD 64).set 60 aB).getD 60 ⟨#[]⟩ = _
    rw [getD_set2, newD_len, if_pos (by decide)]
  have e4 : rdE ((newD 64).set 60 aB) 60 = 0 := by
    unfold rdE
    rw [List.length_set, newD_len, if_pos (by decide)]
  rw [e3, e4] at HRD
  have HCH := Lib.hid (fun (W : World) (hW : Below w2.heap.size w2 W) => changed_dv _ d q p pd pm 0 0 (newD 64) _ v2 W (d2.below hW))
  rw [diff_a] at HCH
  have HCM := Lib.hid (fun (W : World) (hW : Below w2.heap.size w2 W) => commit_dv _ d q p pd pm 0 0 (newD 64) _ v2 W (d2.below hW) (by omega) (by omega))
  rw [diff_a] at HCM
  have hgb : Below w2.heap.size w2 w2 := Below.refl _ _
  clear d2 t2 HWR e3 e4 HBG
  have qa : (aB.toList == aB.toList) = true := by simp
  go_wp2_with (first
    | (go_at_call 20; refine (HRD.out _ hgb).mono ?_; rintro e w3 ⟨rfl, b3⟩)
    | (go_at_call 32; refine (HWA.out _).mono ?_; rintro e w4 ⟨rfl, b4⟩
       have HB4 := Lib.hid (b3.trans (b4.mono b3.size))
       clear b3 b4)
    | (go_at_call 14; refine (HCH.out _ HB4.out).mono ?_; rintro e w5 ⟨g5, rfl, hg5, r5, b5⟩
       have HB5 := Lib.hid (HB4.out.trans (b5.mono HB4.out.size))
       clear HB4 r5 b5)
    | (go_at_call 23; refine (HCM.out _ HB5.out).mono ?_; rintro e w6 h6
       obtain ⟨rfl, k6, c6, D6, _, _, hm6, d6, t6⟩ := h6.2 (by omega)
       have h60 : D6.getD 60 ⟨#[]⟩ = aB := by rw [hm6.2 60 (by decide), getD_set2, newD_len, if_pos (by decide)]
       have hl6 : 60 < D6.length := by rw [hm6.1, newD_len]; decide
       have HT6 := Lib.hid t6
       have HSR := Lib.hid (Sl.read_any p pd pm (FS D6 c6) 60 w6 d6.sl)
       have e60 : (FS D6 c6).read 60 = aB := (Lg.read_FS (D := D6) (c := c6) (k := 60) hl6).trans h60
       rw [e60] at HSR
       have HC6 := Lib.hid (fun (W : World) (hW : Below w6.heap.size w6 W) => changed_dv _ d q p pd pm k6 c6 D6 D6 _ W (d6.below hW))
       rw [diffL_self] at HC6
       clear h6 hm6 d6 t6 h60 hl6 e60)
    | (go_at_call 33; refine HSR.out.mono ?_; rintro e w7 ⟨rfl, b7⟩)
    | (go_at_call 14; refine (HC6.out _ b7).mono ?_; rintro e w8 ⟨g8, rfl, hg8, r8, b8⟩))
  go_ret
  have h5 := HB2.out.trans (HB5.out.mono HB2.out.size)
  have h6 : Below w.heap.size w w6 := h5.trans (HT6.out.below h5.size (by simp; omega))
  have h7 := h6.trans (b7.mono h6.size)
  have h8 := h7.trans (b8.mono h7.size)
  exact ⟨rfl, h8⟩
end Go.Proofs.YtapjbffhihhnbaaGreat.Dl
