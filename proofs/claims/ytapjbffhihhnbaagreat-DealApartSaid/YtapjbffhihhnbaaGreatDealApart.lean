/-
  THE LAW DealApart: what a deal has written no other one reads till it is committed; then it does. It holds for every input.
-/
import Derived.Test.YtapjbffhihhnbaaGreatEF
set_option linter.unusedVariables false
set_option linter.unusedSimpArgs false
namespace Go.Proofs.YtapjbffhihhnbaaGreat.Dl.dealApart
open Go.ChangeShapes Go.WideShapes Go.ChangeAt Go.RowKit
open Go.ChangeMaps (open_string shut_string)
open Sl (Turns SlabAt)
open Lg (FS LogAt Whole ownB bcell newD newD_len newD_whole)

theorem after_rd {D V D' : List ByteArray} (hV : V.length = D.length) (hc : Cmt D V D') (i : Int) : rdB D' i = rdB V i := by
  unfold rdB
  rw [hc.1, hV]
  split
  · rename_i hk
    exact hc.2 i.toNat (has_own hk)
  · rfl
/-- an image's row, of n blocks. -/
def SsAtN (w : World) (g : Nat) (D : List ByteArray) (n : Nat) : Prop := Sl.RowAt w g D ∧ D.length = n
theorem SsAtN.ss {w : World} {g : Nat} {D : List ByteArray} {n : Nat} (h : SsAtN w g D n) : Lg.SsAt w w.heap.size (some ⟨g, 0, none⟩) n D := by
  have := Lg.rowSs (B := w.heap.size) h.1 h.1.lt
  rwa [h.2] at this
/-- what holds behind k steps. -/
def ApSt (w wr : World) (B d q p pd pm d2 : Nat) (D : List ByteArray) : Prop := ∃ (V : List ByteArray) (v : Value), DV wr B d q p pd pm 0 0 D V v ∧ DealAt wr d2 q (.slice none 0 0) ∧ Below w.heap.size w wr

set_option maxRecDepth 100000 in
set_option maxHeartbeats 8000000 in
theorem walk (a : Option Addr) (len cap : Nat) (l : List OpD) (i1 : Int) (w : World) (ho : OpsAt w w.heap.size a len l ∧ len ≤ cap) (_hn : -9223372036854775808 ≤ i1 ∧ i1 ≤ 9223372036854775807) :
    Calls Tryz.prog 4 #[.slice a len cap, .int .i64 i1] w fun e w' => e = .returned (.bool true) ∧ Below w.heap.size w w' := by
  obtain ⟨hA, hnc⟩ := ho
  obtain ⟨m, hm⟩ : ∃ m, m = min len 150 := ⟨_, rfl⟩
  have HM := Lib.hid hm
  have hm25 : m ≤ 150 := by omega
  have HA := Lib.hid (hA.take m (by omega))
  generalize l.take m = ops at *
  have HL := Lib.hid (fun W => lives12_any W)
  have HE := Lib.hid (fun W => early12_any a len cap W hnc)
  rw [← hm] at HE
  have HNEW := Lib.hid (Lg.new_calm 80 (by omega))
  have HOP := Lib.hid (fun p pd pm W hS => open_new 80 p pd pm (by omega) W hS)
  have HDL : Hid ((newD 80).length = 80) := newD_len 80
  have HDW : Hid (Whole (newD 80)) := newD_whole 80
  generalize newD 80 = D0 at *
  clear hA hm hnc _hn
  go_enter Tryz.func4, Tryz.ntmps4
  go_wp2_with fail
  refine (HL.out _).mono ?_
  rintro e w1 ⟨rfl, b1⟩
  have HB1 := Lib.hid b1
  clear b1
  go_wp2_with fail
  refine (HE.out w1).mono ?_
  rintro e w2 ⟨rfl, h2⟩
  subst h2
  go_wp2_with fail
  refine (HNEW.out _).mono ?_
  rintro e w3 ⟨p, pd, pm, rfl, h3, hp, hpd, hpm, b3⟩
  have HLp := Lib.hid (⟨h3.lt_p, h3.lt_d, h3.lt_m⟩ : p < w3.heap.size ∧ pd < w3.heap.size ∧ pm < w3.heap.size)
  have HB3 := Lib.hid (HB1.out.trans (b3.mono HB1.out.size))
  have OP := Lib.hid (HOP.out p pd pm w3 h3)
  have hs1 := HB1.out.size
  have hs13 := b3.size
  have HGP : Hid (w.heap.size ≤ p ∧ w.heap.size ≤ pd ∧ w.heap.size ≤ pm) := ⟨by omega, by omega, by omega⟩
  clear h3 b3 hp hpd hpm HNEW HOP HE HL
  go_wp2_with fail
  refine OP.out.mono ?_
  rintro e w4 ⟨q, rfl, hq, Q4, S4, t4⟩
  have HB4 := Lib.hid (HB3.out.trans (t4.below HB3.out.size (by have := HGP.out; simp; omega)))
  have hs34 := t4.size
  have HQ4 := Lib.hid Q4
  have HS4 := Lib.hid S4
  clear t4 Q4 S4 OP
  go_wp2_with fail
  refine (begin_any q w4).mono ?_
  rintro e w5 ⟨rfl, D5, hz5, b5⟩
  have HD5 := Lib.hid D5
  have HB5 := Lib.hid b5
  clear D5 b5
  generalize hda : w4.heap.size = da at *
  have HZ5 := Lib.hid hz5
  have HDA := Lib.hid hda
  clear hz5 hda
  go_wp2_with fail
  refine (begin_any q w5).mono ?_
  rintro e w6 ⟨rfl, D6, hz6, b6⟩
  have HD6 := Lib.hid D6
  have hz5 := HZ5.out
  have hda := HDA.out
  have b46 : Below w4.heap.size w4 w6 := (by rw [hda]; exact HB5.out : Below w4.heap.size w4 w5).trans (b6.mono (by omega))
  have hq4 : q < da := by rw [← hda]; exact HQ4.out.lt
  have hpp := HLp.out
  have HDA6 : Hid (DealAt w6 da q (.slice none 0 0)) := HD5.out.turns (Turns.of_below [] b6) (by simp)
  have HDV6 := Lib.hid (DV.fresh HDA6.out (HQ4.out.below b46 HQ4.out.lt) (HS4.out.keptB (Turns.of_below [] b46)) (by omega) (by simp; omega) (by simp; omega) HDW.out (by rw [HDL.out]; omega))
  have HB6 := Lib.hid (HB4.out.trans (b46.mono HB4.out.size))
  have hdb : Hid (w5.heap.size < w6.heap.size ∧ w5.heap.size ≠ q ∧ w5.heap.size ∉ [p, pd, pm] ∧ w5.heap.size ≠ da) := ⟨by omega, by omega, by simp; omega, by omega⟩
  have HGE : Hid (w.heap.size ≤ da ∧ w.heap.size ≤ q ∧ w.heap.size ≤ p ∧ w.heap.size ≤ pd ∧ w.heap.size ≤ pm ∧ w.heap.size ≤ w6.heap.size) := ⟨by have := HB4.out.size; omega, by omega, HGP.out.1, HGP.out.2.1, HGP.out.2.2, HB6.out.size⟩
  clear D6 b6 b46 hz5 hz6 hda HZ5 HDA hq4 hpp
  generalize w5.heap.size = db at *
  have HRB := Lib.hid (fun (W : World) (h : DV W w6.heap.size da q p pd pm 0 0 D0 D0 (.slice none 0 0)) (h2 : DealAt W db q (.slice none 0 0)) => read_dv _ db q p pd pm 0 0 D0 D0 _ i1 W (h.other h2 hdb.out.1 hdb.out.2.1 hdb.out.2.2.1))
  go_wp2_with fail
  refine (HRB.out w6 HDV6.out HD6.out).mono ?_
  rintro e w7 ⟨rfl, b7⟩
  have HST0 : Hid (ApSt w w7 w6.heap.size da q p pd pm db D0) := ⟨D0, _, HDV6.out.below b7, HD6.out.turns (Turns.of_below [] b7) (by simp), HB6.out.trans (b7.mono HB6.out.size)⟩
  clear b7 HRB HDV6 HD6 HDA6 HD5 HB5 HB4 HB3 HQ4 HS4 HB6 HLp
  generalize hB : w6.heap.size = B at *
  go_wp2
  go_loopw [14] (fun j wr => ∃ k : Nat, k ≤ m ∧ j = .int .i64 (k : Int) ∧ ApSt w wr B da q p pd pm db D0) (fun j _ => m - (intOf j).toNat)
  case atStart => exact ⟨0, Nat.zero_le _, rfl, HST0.out⟩
  case round =>
    obtain ⟨k, hk, rfl, hst⟩ := hrel
    by_cases h1 : k < m
    · have hlt : (k : Int) < (m : Int) := by omega
      have x0 : (0 : Int) ≤ (k : Int) := by omega
      have HST := Lib.hid hst
      obtain ⟨V, v, dv, da2, hb⟩ := hst
      obtain ⟨b, o, A1, n1, k1, A2, n2, k2, rfl, hbB, hcs, hop⟩ := HA.out.op h1
      have HCL := Lib.hid (fun (W : World) (hW : Below wr.heap.size wr W) (j : Nat) (hj : j < 15) => ((hb.trans (hW.mono hb.size)).cell (p := ⟨b, o + k * 15 + j, none⟩) (by show b < _; exact hbB)).trans (hcs j hj))
      have HOPW := Lib.hid hop
      have HCLW := Lib.hid (fun (W : World) (hW : Below w.heap.size w W) (j : Nat) (hj : j < 15) => (hW.cell (p := ⟨b, o + k * 15 + j, none⟩) (by show b < _; exact hbB)).trans (hcs j hj))
      generalize ops.getD k OpD.z = op at *
      have HCC : Hid (∀ W : World, Below wr.heap.size wr W → W.cell? ⟨b, o + k * 15, none⟩ = some (.int .i64 op.k) ∧ W.cell? ⟨b, o + k * 15 + 1, none⟩ = some (.int .i64 op.i) ∧ W.cell? ⟨b, o + k * 15 + 2, none⟩ = some (.string op.s) ∧ W.cell? ⟨b, o + k * 15 + 3, none⟩ = some (.int .i64 op.f) ∧ W.cell? ⟨b, o + k * 15 + 4, none⟩ = some (.int .i64 op.b) ∧ W.cell? ⟨b, o + k * 15 + 5, none⟩ = some (.int .i64 op.u) ∧ W.cell? ⟨b, o + k * 15 + 6, none⟩ = some (.int .i64 op.cd.fm) ∧ W.cell? ⟨b, o + k * 15 + 7, none⟩ = some (.int .i64 op.cd.kd) ∧ W.cell? ⟨b, o + k * 15 + 8, none⟩ = some (.int .i64 op.cd.ln) ∧ W.cell? ⟨b, o + k * 15 + 9, none⟩ = some (.int .i64 op.cd.sz) ∧ W.cell? ⟨b, o + k * 15 + 10, none⟩ = some (.slice A1 n1 k1) ∧ W.cell? ⟨b, o + k * 15 + 11, none⟩ = some (.int .i64 op.cd.sg) ∧ W.cell? ⟨b, o + k * 15 + 12, none⟩ = some (.int .i64 op.cd.db) ∧ W.cell? ⟨b, o + k * 15 + 13, none⟩ = some (.slice A2 n2 k2) ∧ W.cell? ⟨b, o + k * 15 + 14, none⟩ = some (.int .i64 op.cd.ov)) := fun W hW => ⟨HCL.out W hW 0 (by omega), HCL.out W hW 1 (by omega), HCL.out W hW 2 (by omega), HCL.out W hW 3 (by omega), HCL.out W hW 4 (by omega), HCL.out W hW 5 (by omega), HCL.out W hW 6 (by omega), HCL.out W hW 7 (by omega), HCL.out W hW 8 (by omega), HCL.out W hW 9 (by omega), HCL.out W hW 10 (by omega), HCL.out W hW 11 (by omega), HCL.out W hW 12 (by omega), HCL.out W hW 13 (by omega), HCL.out W hW 14 (by omega)⟩
      have HCP : Hid (∀ W : World, Below w.heap.size w W → W.cell? ⟨b, o + k * 15, none⟩ = some (.int .i64 op.k) ∧ W.cell? ⟨b, o + k * 15 + 1, none⟩ = some (.int .i64 op.i) ∧ W.cell? ⟨b, o + k * 15 + 2, none⟩ = some (.string op.s) ∧ W.cell? ⟨b, o + k * 15 + 3, none⟩ = some (.int .i64 op.f) ∧ W.cell? ⟨b, o + k * 15 + 4, none⟩ = some (.int .i64 op.b) ∧ W.cell? ⟨b, o + k * 15 + 5, none⟩ = some (.int .i64 op.u) ∧ W.cell? ⟨b, o + k * 15 + 6, none⟩ = some (.int .i64 op.cd.fm) ∧ W.cell? ⟨b, o + k * 15 + 7, none⟩ = some (.int .i64 op.cd.kd) ∧ W.cell? ⟨b, o + k * 15 + 8, none⟩ = some (.int .i64 op.cd.ln) ∧ W.cell? ⟨b, o + k * 15 + 9, none⟩ = some (.int .i64 op.cd.sz) ∧ W.cell? ⟨b, o + k * 15 + 10, none⟩ = some (.slice A1 n1 k1) ∧ W.cell? ⟨b, o + k * 15 + 11, none⟩ = some (.int .i64 op.cd.sg) ∧ W.cell? ⟨b, o + k * 15 + 12, none⟩ = some (.int .i64 op.cd.db) ∧ W.cell? ⟨b, o + k * 15 + 13, none⟩ = some (.slice A2 n2 k2) ∧ W.cell? ⟨b, o + k * 15 + 14, none⟩ = some (.int .i64 op.cd.ov)) := fun W hW => ⟨HCLW.out W hW 0 (by omega), HCLW.out W hW 1 (by omega), HCLW.out W hW 2 (by omega), HCLW.out W hW 3 (by omega), HCLW.out W hW 4 (by omega), HCLW.out W hW 5 (by omega), HCLW.out W hW 6 (by omega), HCLW.out W hW 7 (by omega), HCLW.out W hW 8 (by omega), HCLW.out W hW 9 (by omega), HCLW.out W hW 10 (by omega), HCLW.out W hW 11 (by omega), HCLW.out W hW 12 (by omega), HCLW.out W hW 13 (by omega), HCLW.out W hW 14 (by omega)⟩
      obtain ⟨e0, e1, e2, e3, e4, e5, e6, e7, e8, e9, e10, e11, e12, e13, e14⟩ := HCC.out wr (Below.refl _ _)
      have HKD := Lib.hid (fun W => kind_any op A1 n1 k1 A2 n2 k2 W)
      have HDV := Lib.hid dv
      have HDB := Lib.hid da2
      have HBW := Lib.hid hb
      clear dv da2 hb hcs hop HCL
      by_cases h6 : kdO op = 6
      · rw [h6] at HKD
        clear h6
        go_wp2_with (go_at_call 21; refine (HKD.out _).mono ?_; rintro e w8 ⟨rfl, b8⟩)
        go_roundw
        case rel => exact ⟨k + 1, h1, by push_cast; rfl, V, v, HDV.out.below b8, HDB.out.turns (Turns.of_below [] b8) (by simp), HBW.out.trans (b8.mono HBW.out.size)⟩
        case measure => simp only [intOf]; omega
      · have HK6 := Lib.hid h6
        have q6 : (kdO op != 6) = true := by simpa using h6
        have STP := Lib.hid (fun (W : World) (hW : Below wr.heap.size wr W) (r gb cb gn cn R : Nat) (hR : RD W R r gb cb gn cn 80 D0 D0) (hBR : B ≤ R) => step_any B da q p pd pm 0 0 D0 V v R r gb cb gn cn 80 D0 D0 _ op w.heap.size W (HDV.out.below hW) hR hBR HDL.out HDW.out HDW.out (HOPW.out.below (HBW.out.trans (hW.mono HBW.out.size)) (Nat.le_refl _)) (Nat.le_trans HBW.out.size hW.size) HGE.out.1 (by omega) (by omega))
        have HIM := Lib.hid (fun (W : World) (hW : Below wr.heap.size wr W) => Lg.image_calm p pd pm D0 0 W (HDV.out.below hW).sl)
        rw [HDL.out] at HIM
        have HI8 : Hid (∀ W : World, Below wr.heap.size wr W → Calls Tryz.prog 11 #[.pointer (some ⟨p, 0, none⟩)] W.drew fun e w' => e = .returned (.slice (some ⟨W.heap.size, 0, none⟩) 80 80) ∧ SsAtN w' W.heap.size D0 80 ∧ Below W.heap.size W w') := fun W hW => (HIM.out W.drew (Lg.Below.drews hW ⟨1, rfl⟩)).mono fun e w' h => ⟨h.1, ⟨h.2.1, HDL.out⟩, ⟨h.2.2.os, h.2.2.tape, h.2.2.output, h.2.2.size, h.2.2.block⟩⟩
        clear h6
        go_wp2_with (go_at_call 21; refine (HKD.out _).mono ?_; rintro e w8 ⟨rfl, b8⟩)
        have HB8 := Lib.hid b8
        clear b8 e0 e1 e2 e3 e4 e5 e6 e7 e8 e9 e10 e11 e12 e13 e14
        have DRW : Hid (Below wr.heap.size wr w8.drew) := Lg.Below.drews HB8.out ⟨1, rfl⟩
        obtain ⟨e0, e1, e2, e3, e4, e5, e6, e7, e8, e9, e10, e11, e12, e13, e14⟩ := HCC.out w8.drew DRW.out
        go_region_with (first
            | (go_at_call 12; refine (STP.out _ HB10.out _ _ _ _ _ _ HR10.out HBR.out).mono ?_
               rintro e w11 ⟨res, k', c', D', V', v', gb', cb', gn', cn', base', now', rfl, hk', hc', d11, r11, hw11, hwb11, hl11, t11, hag, hne⟩
               have HNE := Lib.hid (hne HK6.out)
               have HD11 := Lib.hid d11
               have HT11 := Lib.hid t11
               have HRR := Lib.hid HR10.out.gn_ge.1
               have HRR2 := Lib.hid HR10.out.hR
               have HB11 : Hid (Below w.heap.size w w11) := (HBW.out.trans (HB10.out.mono HBW.out.size)).trans (t11.below (Nat.le_trans HBW.out.size HB10.out.size) (by
                 intro j hj
                 have h1 := HGE.out
                 have h2 := HRR.out
                 have h3 := HRR2.out
                 have h4 := HBR.out
                 simp only [List.mem_cons] at hj
                 rcases hj with rfl | rfl | rfl | rfl | rfl | rfl | rfl | hj
                 · exact h1.1
                 · exact h1.2.1
                 · exact h1.2.2.1
                 · exact h1.2.2.2.1
                 · exact h1.2.2.2.2.1
                 · omega
                 · omega
                 · rcases HDV.out.own_ge j (List.mem_cons_of_mem _ hj) with e | e <;> omega))
               have HDB11 : Hid (DealAt w11 db q (.slice none 0 0)) := (HDB.out.turns (Turns.of_below [] HB10.out) (by simp)).turns t11 (by
                 intro hj
                 have h1 := hdb.out
                 have h2 := HRR.out
                 have h3 := HRR2.out
                 have h4 := HBR.out
                 have h5 := HDV.out.sep
                 simp only [List.mem_cons, List.not_mem_nil, or_false, not_or] at hj h1
                 rcases hj with e | e | e | e | e | e | e | hj
                 · exact h1.2.2.2 e
                 · exact h1.2.1 e
                 · exact h1.2.2.1.1 e
                 · exact h1.2.2.1.2.1 e
                 · exact h1.2.2.1.2.2 e
                 · omega
                 · omega
                 · rcases HDV.out.own_ge db (List.mem_cons_of_mem _ hj) with e | e
                   · exact h1.2.2.2 e
                   · omega)
               clear hne hag d11 r11 t11 hw11 hwb11 hl11 hk' hc' e0 e1 e2 e3 e4 e5 e6 e7 e8 e9 e10 e11 e12 e13 e14)
            | (go_at_call 10; refine (rbegin_any _ 80 80 w9.heap.size D0 w9 HS9.out (Nat.le_refl _) (by omega) (by omega)).mono ?_
               rintro e w10 ⟨r, gb, cb, gn, cn, rfl, r10, b10⟩
               have HB10 := Lib.hid (HB9.out.trans (b10.mono HB9.out.size))
               have HR10 := Lib.hid r10
               have HBR : Hid (B ≤ w9.heap.size) := Nat.le_trans HDV.out.hB HB9.out.size
               clear r10 b10 e0 e1 e2 e3 e4 e5 e6 e7 e8 e9 e10 e11 e12 e13 e14
               obtain ⟨e0, e1, e2, e3, e4, e5, e6, e7, e8, e9, e10, e11, e12, e13, e14⟩ := HCC.out w10 HB10.out)
            | (go_at_call 11; refine (HI8.out w8 HB8.out).mono ?_
               rintro e w9 ⟨rfl, r9, b9⟩
               have HB9 : Hid (Below wr.heap.size wr w9) := HB8.out.trans (b9.mono HB8.out.size)
               have HS9 : Hid (Lg.SsAt w9 w9.heap.size (some ⟨w8.heap.size, 0, none⟩) 80 D0) := r9.ss
               clear r9 b9 e0 e1 e2 e3 e4 e5 e6 e7 e8 e9 e10 e11 e12 e13 e14
               obtain ⟨e0, e1, e2, e3, e4, e5, e6, e7, e8, e9, e10, e11, e12, e13, e14⟩ := HCC.out w9 HB9.out))
        all_goals
          go_wp2
          go_roundw
          case rel =>
            obtain ⟨g1, g2, g3⟩ := HNE.out
            have hd := HD11.out
            rw [g1, g2, g3] at hd
            exact ⟨k + 1, h1, by push_cast; rfl, V', v', hd, HDB11.out, HB11.out⟩
          case measure => simp only [intOf]; omega
    · have hnlt : ¬ (k : Int) < (m : Int) := by omega
      obtain ⟨V, v, dv, da2, hb⟩ := hst
      have HDV := Lib.hid dv
      have HDB := Lib.hid da2
      have HBW := Lib.hid hb
      have HVL : Hid (V.length = D0.length) := dv.len
      have HRB := Lib.hid (fun (W : World) (hW : Below wr.heap.size wr W) => read_dv B db q p pd pm 0 0 D0 D0 _ i1 W ((HDV.out.below hW).other (HDB.out.turns (Turns.of_below [] hW) (by simp)) hdb.out.1 hdb.out.2.1 hdb.out.2.2.1))
      have HCB := Lib.hid (fun (W : World) (hW : Below wr.heap.size wr W) => changed_dv B db q p pd pm 0 0 D0 D0 _ W ((HDV.out.below hW).other (HDB.out.turns (Turns.of_below [] hW) (by simp)) hdb.out.1 hdb.out.2.1 hdb.out.2.2.1))
      rw [diffL_self] at HCB
      have HCS := Lib.hid (fun (W : World) (hW : Below wr.heap.size wr W) => Lg.calls_calm p pd pm D0 0 W (HDV.out.below hW).sl)
      have HRA := Lib.hid (fun (W : World) (hW : Below wr.heap.size wr W) => read_dv B da q p pd pm 0 0 D0 V v i1 W (HDV.out.below hW))
      have HCM := Lib.hid (fun (W : World) (hW : Below wr.heap.size wr W) => commit_dv B da q p pd pm 0 0 D0 V v W (HDV.out.below hW) (by omega) (by omega))
      have HCA := Lib.hid (fun (W : World) (hW : Below wr.heap.size wr W) => changed_dv B da q p pd pm 0 0 D0 V v W (HDV.out.below hW))
      have HAF : Hid (∀ D', Cmt D0 V D' → rdB D' i1 = rdB V i1 ∧ rdE D' i1 = rdE D0 i1) := fun D' hc => ⟨after_rd HVL.out hc i1, rdE_eq hc.1 i1⟩
      have HRN := Lib.hid (fun (W : World) (k' c' : Nat) (D' : List ByteArray) (h : DV W B da q p pd pm k' c' D' D' (.slice none 0 0)) (h2 : DealAt W db q (.slice none 0 0)) => read_dv B db q p pd pm k' c' D' D' _ i1 W (h.other h2 hdb.out.1 hdb.out.2.1 hdb.out.2.2.1))
      clear dv da2 hb
      generalize (diffL V D0).length = dn at *
      have hse : ∀ s : ByteArray, (s.toList != s.toList) = false := fun s => by simp
      go_wp2_with fail
      refine (HRB.out wr (Below.refl _ _)).mono ?_
      rintro e w12 ⟨rfl, b12⟩
      go_wp2_with fail
      refine (HCB.out w12 b12).mono ?_
      rintro e w13 ⟨g13, rfl, _, _, b13⟩
      have hb13 := b12.trans (b13.mono b12.size)
      clear b13
      go_wp2_with fail
      refine (HCS.out w13 hb13).mono ?_
      rintro e w14 ⟨rfl, h14⟩
      subst h14
      go_wp2_with fail
      refine (HRA.out w13 hb13).mono ?_
      rintro e w15 ⟨rfl, b15⟩
      have hb15 := hb13.trans (b15.mono hb13.size)
      clear b15
      go_wp2_with fail
      refine (HCM.out w15 hb15).mono ?_
      rintro e w16 h16
      by_cases h40 : 40 < dn
      · obtain ⟨rfl, b16⟩ := h16.1 h40
        have hb16 := hb15.trans (b16.mono hb15.size)
        have h41 : (40 : Int) < (dn : Int) := by omega
        clear h16 b16 h40
        go_wp2_with fail
        refine (HCA.out w16 hb16).mono ?_
        rintro e w17 ⟨g17, rfl, _, _, b17⟩
        have HB17 := Lib.hid (HBW.out.trans ((hb16.trans (b17.mono hb16.size)).mono HBW.out.size))
        clear b17
        go_wp2
        go_ret
        exact ⟨rfl, HB17.out⟩
      · obtain ⟨rfl, k', c', D', _, _, hm, d16, t16⟩ := h16.2 h40
        have hdb16 : DealAt w16 db q (.slice none 0 0) := (HDB.out.turns (Turns.of_below [] hb15) (by simp)).turns t16 (by
          intro hj
          have h1 := hdb.out
          simp only [List.mem_cons, List.not_mem_nil, or_false, not_or] at hj h1
          rcases hj with e | e | e | e | e
          · exact h1.2.2.2 e
          · exact h1.2.1 e
          · exact h1.2.2.1.1 e
          · exact h1.2.2.1.2.1 e
          · exact h1.2.2.1.2.2 e)
        have HR16 := Lib.hid (HRN.out w16 k' c' D' d16 hdb16)
        obtain ⟨g1, g2⟩ := HAF.out D' hm
        rw [g1, g2] at HR16
        have HB16 : Hid (Below w.heap.size w w16) := (HBW.out.trans (hb15.mono HBW.out.size)).trans (t16.below (Nat.le_trans HBW.out.size hb15.size) (by
          intro j hj
          have h1 := HGE.out
          simp only [List.mem_cons, List.not_mem_nil, or_false] at hj
          rcases hj with rfl | rfl | rfl | rfl | rfl
          · exact h1.1
          · exact h1.2.1
          · exact h1.2.2.1
          · exact h1.2.2.2.1
          · exact h1.2.2.2.2.1))
        clear h16 hm d16 t16 hdb16 g1 g2
        go_wp2_with fail
        refine HR16.out.mono ?_
        rintro e w17 ⟨rfl, b17⟩
        have HB17 := Lib.hid (HB16.out.trans (b17.mono HB16.out.size))
        clear b17
        go_wp2
        go_ret
        exact ⟨by simp, HB17.out⟩

set_option maxRecDepth 100000 in
theorem lifted (os : Os) (started : os.Started) (H : Type) (enc : TypeId × Value → H) :
    ReturnsInHanded {} Tryz.checked os 4 .any (Rows.dealApartSpec.pre6 enc Tryz.prog Tryz.f4 Rows.dealApartRow.domain false) (Rows.dealApartSpec.post enc Tryz.prog Tryz.f4 false true false false) := by
  refine returnsInHanded_of_change_sized (C := Tryz.checked) own started (by kernel_rfl) Tryz.func4
    (ChangeSpec.witness6 (enc := enc) (C := Tryz.checked) false ⟨#[], #[.slice none 0 0, .int .i64 0], []⟩ 8 (by kernel_rfl) (by kernel_rfl) (by kernel_rfl) (by kernel_rfl)) ?_
  intro W base args ds gs before hval0 hW hcnd hsz0 _
  have hval : ∀ (j : Nat) t v, Tryz.f4.params[j]? = some t → args[j]? = some v → Value.okWide Tryz.prog W .any base t v := hval0
  have hW' := hW
  obtain ⟨p, q, hA0, hV, rfl, hfz, hnd⟩ := hW
  have hA : DataW.TrodAll enc Tryz.prog W 0 (fun _ => true) true Tryz.f4.params.toList args.toList ds p := hA0
  rw [Tryz.params4] at hA hval
  obtain ⟨v0, vs0, d0, ds0, p0, q0, hargs, rfl, rfl, h0, r0⟩ := trodAll_cons hA
  obtain ⟨v1, vs1, d1, ds1, p1, q1, rfl, rfl, rfl, h1, r1⟩ := trodAll_cons r0
  obtain ⟨rfl, rfl, rfl⟩ := trodAll_nil r1
  obtain rfl : args = #[v0, v1] := by cases args; simp_all
  obtain ⟨rfl, rfl⟩ := trodVars_none hV
  have lt0 : ∀ x ∈ p0, x.block < W.heap.size := by obtain ⟨m, hm⟩ := h0; exact DataW.trod_lt m _ _ _ hm
  obtain ⟨a0, len0, cap0, rfl⟩ := okWide_slice Tryz.underlying22 (hval 0 22 v0 rfl rfl)
  obtain ⟨l0, w0⟩ := ops_open h0
  obtain ⟨n1, rfl, rfl, rfl, wn1⟩ := open_int Tryz.underlying3 (hval 1 3 v1 rfl rfl) h1
  clear hA0 hval0
  refine (walk a0 len0 cap0 l0 n1 W w0 (i64_of_wf wn1)).mono fun e W' ⟨he, bel⟩ => ?_
  subst he
  exact ⟨_, rfl, _, _, _, [], _, [], hW', trodAll_mk1 (shut_bool Tryz.underlying4 _), (trodAll_cons_mk (Below.trod laidOut (by kernel_rfl) (of_decide_eq_true (by kernel_rfl)) h0 bel lt0) (trodAll_cons_mk (shut_int Tryz.underlying3 wn1) trodAll_mk0)), rfl, bel.frame _, fun h => by cases h⟩

theorem over : Rows.dealApartRow.holds Tryz.pinned (OpenSpec.ofChange Rows.dealApartSpec) :=
  OpenClaim.holds_of_wide 4 Tryz.f4 rfl rfl rfl rfl rfl rfl rfl ⟨rfl, rfl, rfl, rfl, rfl⟩ rfl rfl rfl rfl rfl (by kernel_rfl) Tryz.func4 (by kernel_rfl)
    (of_decide_eq_true (by kernel_rfl)) (by unfold Func.isWrapper; first | (rw [if_pos (by decide +kernel)]; kernel_rfl) | (rw [if_neg (by decide +kernel)]; exact ⟨rfl, rfl⟩))
    (fun os started H enc _ => lifted os started H enc)

end Go.Proofs.YtapjbffhihhnbaaGreat.Dl.dealApart
namespace Go.Proofs.YtapjbffhihhnbaaGreat
theorem dealApart_proved : Rows.DealApartSaid := Dl.dealApart.over
#print axioms dealApart_proved
end Go.Proofs.YtapjbffhihhnbaaGreat
