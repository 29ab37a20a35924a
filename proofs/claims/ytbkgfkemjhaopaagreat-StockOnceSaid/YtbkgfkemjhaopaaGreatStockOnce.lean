/-
  THE LAW StockOnce: on a new disk no block is taken twice till it is given back; all can be taken, and no more. It holds for every input.
-/
import Derived.Test.YtbkgfkemjhaopaaGreatFN
import Derived.Deep.RegionHeld3
import Derived.Deep.DeepMust
import Derived.Deep.DeepFit
set_option linter.unusedVariables false
set_option linter.unusedSimpArgs false
namespace Go.Proofs.YtbkgfkemjhaopaaGreat.Dl.stockOnce
open Go.ChangeShapes Go.WideShapes Go.ChangeAt Go.RowKit
open Go.ChangeMaps (open_string shut_string)
open Sl (Turns SlabAt)
open Lg (FS LogAt Whole ownB bcell newD newD_len newD_whole)
open Kr (I64)
open Mk

/-- the pair and the row of the taken ones. -/
abbrev rowF (g gt : Nat) (l : List Bool) : Fram := Fram.add ⟨g, []⟩ gt (bcells l) 4
/-- what holds behind some steps: c blocks are taken. -/
def OnceSt (w wr : World) (B d q p pd pm R r g gt N : Nat) (D base : List ByteArray) (c : Nat) : Prop := ∃ V now m l, St w wr B d q p pd pm R r (rowF g gt l) N D V base now ∧ Crd V N m ∧ Tk m N l ∧ c = tcn l N

section
variable {w0 w : World} {B d q p pd pm R r g gt gx N : Nat} {D V base now : List ByteArray} {tl : List Bool} {op : OpS}
theorem st_c (h : St w0 w B d q p pd pm R r ((rowF g gt tl).add gx (ocells op) 30) N D V base now) : w.cell? ⟨g, 0, none⟩ = some (.pointer (some ⟨d, 0, none⟩)) ∧ w.cell? ⟨gx, 0, none⟩ = some (.int .i64 op.k) ∧ w.cell? ⟨gx, 1, none⟩ = some (.int .i64 op.n) :=
  ⟨h.c0, (show ORow w gx op from h.box).cells.1, (show ORow w gx op from h.box).cells.2⟩
end

set_option maxRecDepth 100000 in
set_option maxHeartbeats 8000000 in
theorem walk (n : Int) (a : Option Addr) (len cap : Nat) (l : List OpS) (w : World) (_hn : -9223372036854775808 ≤ n ∧ n ≤ 9223372036854775807) (ho : OpsAt w w.heap.size a len l ∧ len ≤ cap) :
    Calls Tryz.prog 4 #[.int .i64 n, .slice a len cap] w fun e w' => e = .returned (.bool true) ∧ Below w.heap.size w w' := by
  obtain ⟨hA, hnc⟩ := ho
  obtain ⟨m, hm⟩ : ∃ m, m = min len 60 := ⟨_, rfl⟩
  have hm60 : m ≤ 60 := by omega
  have HA := Lib.hid (hA.take m (by omega))
  generalize l.take m = ops at *
  have HL := Lib.hid (fun W => lives13_any W)
  have HZ := Lib.hid (fun W => size13_any n W)
  have HE := Lib.hid (fun W => early13_any a len cap W hnc)
  rw [← hm] at HE
  obtain ⟨hN1, hN2⟩ := sizeN_b n
  generalize sizeN n = N at *
  have HBG := Lib.hid (fun W => begin13_any N ⟨#[]⟩ W hN1 hN2 (by decide))
  have HCR := Lib.hid (crd_new hN1 hN2)
  have HNB := Lib.hid (⟨hN1, hN2⟩ : 64 ≤ N ∧ N ≤ 400)
  have HTN := Lib.hid (Tk.new N (by omega))
  have hmk := fun W => make_bools N (by omega) W
  have HTC : Hid (0 = tcn (List.replicate N false) N) := by
    show _ = _
    have h1 := (Tk.new N (by omega)).sum (by omega)
    have h2 := fcn_new N (by omega) (N - 51) (by omega)
    rw [show 51 + (N - 51) = N by omega] at h2
    omega
  unfold RetBg at HBG
  generalize newD N = D0 at *
  generalize V0 N ⟨#[]⟩ = VV at *
  clear hA hm hnc _hn hN1 hN2
  go_enter Tryz.func4, Tryz.ntmps4
  go_wp2_with (first
    | (go_at_call 7; refine (HL.out _).mono ?_; rintro e w1 ⟨rfl, b1⟩
       have HB1 := Lib.hid b1
       clear b1)
    | (go_at_call 9; refine (HZ.out w1).mono ?_; rintro e w2 ⟨rfl, h2⟩; subst h2)
    | (go_at_call 8; refine (HBG.out _).mono ?_; rintro e w3 ⟨B, d, q, p, pd, pm, R, r, g, rfl, s3, a3⟩
       have HS3 := Lib.hid (s3.from HB1.out)
       clear s3 a3)
    | (go_at_call 10; refine (HE.out _).mono ?_; rintro e w4 ⟨rfl, h4⟩; subst h4))
  have HGT : Hid (B ≤ w3.heap.size) := HS3.out.hBs
  have HS4 : Hid (OnceSt w (w3.alloc (.cells (bcells (List.replicate N false)) 4)) B d q p pd pm R r g w3.heap.size N D0 D0 0) :=
    ⟨_, _, _, _, (HS3.out.below ((Below.refl _ _).alloc (Nat.le_refl _) _)).add (heap_alloc_new w3 _) (by decide), HCR.out, HTN.out, HTC.out⟩
  clear HBG HL HZ HE HB1 hmk HS3 HTC HTN HCR
  generalize w3.alloc (.cells (bcells (List.replicate N false)) 4) = w4 at *
  generalize w3.heap.size = gt at *
  go_loopw [7, 8] (fun cv iv wr => ∃ c k : Nat, k ≤ m ∧ cv = .int .i64 (c : Int) ∧ iv = .int .i64 (k : Int) ∧ OnceSt w wr B d q p pd pm R r g gt N D0 D0 c) (fun _ iv _ => m - (intOf iv).toNat)
  case atStart => exact ⟨0, 0, Nat.zero_le _, rfl, rfl, HS4.out⟩
  case round =>
    obtain ⟨c, k, hk, rfl, rfl, V, now, mm, tl, st, cd, tk, hc⟩ := hrel
    have hcn := tcn_le tl N
    rw [← hc] at hcn
    have HC := Lib.hid hc
    have ST := Lib.hid st
    have CD := Lib.hid cd
    have TK := Lib.hid tk
    have hN9 := HNB.out
    by_cases h1 : k < m
    · have hlt : (k : Int) < (m : Int) := by omega
      have x0 : (0 : Int) ≤ (k : Int) := by omega
      obtain ⟨b, o, rfl, hbB, c0, c1, hfit⟩ := HA.out.op h1
      have e0 : wr.cell? ⟨b, o + k * 2, none⟩ = some (.int .i64 (ops.getD k OpS.z).k) := (st.hb.cell (p := ⟨b, o + k * 2, none⟩) (by show b < _; exact hbB)).trans c0
      have e1 : wr.cell? ⟨b, o + k * 2 + 1, none⟩ = some (.int .i64 (ops.getD k OpS.z).n) := (st.hb.cell (p := ⟨b, o + k * 2 + 1, none⟩) (by show b < _; exact hbB)).trans c1
      generalize ops.getD k OpS.z = op at *
      have S1 := Lib.hid ((st.below ((Below.refl _ _).alloc (Nat.le_refl _) (.cells (ocells op) 30))).add (heap_alloc_new wr _) (by decide))
      have HK := Lib.hid (fun W => kind13_any op W)
      have HFT := Lib.hid hfit
      have hkb := kdO_b op
      clear st cd tk hc c0 c1 hfit
      generalize hgx : wr.heap.size = gx at *
      rcases (by omega : kdO op = 3 ∨ kdO op = 2 ∨ kdO op = 1 ∨ kdO op = 0) with e | e | e | e
      · rw [e] at HK
        unfold ocells opv at *
        go_wp2_with (go_at_call 13; refine (HK.out _).mono ?_; rintro e w5 ⟨rfl, b5⟩
                     have S5 := Lib.hid (S1.out.below b5)
                     obtain ⟨p0, x1, x2⟩ := st_c S5.out
                     clear b5)
        go_roundw
        case rel => exact ⟨c, k + 1, h1, rfl, by go_num, V, now, mm, tl, S5.out.drop, CD.out, TK.out, HC.out⟩
        case measure => simp only [intOf]; omega
      · rw [e] at HK
        unfold ocells opv at *
        go_wp2_with (go_at_call 13; refine (HK.out _).mono ?_; rintro e w5 ⟨rfl, b5⟩
                     have S5 := Lib.hid (S1.out.below b5)
                     obtain ⟨p0, x1, x2⟩ := st_c S5.out
                     clear b5)
        clear e0 e1
        go_wp2
        obtain ⟨ok, on⟩ := op
        have hdr := drop_st on (S5.out.below (Below.refl _ _).drew) HFT.out.2
        clear hkb HFT HK x1 x2 p0
        by_cases hd : (51 ≤ on ∧ on < N) ∧ bitN mm on.toNat = true
        · obtain ⟨j, rfl⟩ : ∃ j : Nat, on = (j : Int) := ⟨on.toNat, by omega⟩
          obtain ⟨q1, q2⟩ := CD.out.drop (i := j) (by omega) (by omega) (by simpa using hd.2)
          rw [q1] at hdr
          have HDR := Lib.hid hdr
          have CD6 := Lib.hid q2
          have HD := Lib.hid hd
          clear hdr q1 q2 hd
          go_region_held3 (fun v' => v'.cell? ⟨g, 0, none⟩ = some (.pointer (some ⟨d, 0, none⟩)) ∧ v'.cell? ⟨gx, 0, none⟩ = some (.int .i64 ok) ∧ v'.cell? ⟨gx, 1, none⟩ = some (.int .i64 (j : Int)))
            (first | exact st_c (op := ⟨ok, (j : Int)⟩) (S5.out.below (Below.refl _ _).drew) | exact st_c (op := ⟨ok, (j : Int)⟩) S6.out)
            (first
              | (go_at_call 16; go_must (go_fit HDR.out); rintro e w6 ⟨rfl, s6⟩
                 have S6 := Lib.hid s6
                 clear s6))
          obtain ⟨p0, x1, x2⟩ := st_c (op := ⟨ok, (j : Int)⟩) S6.out
          have hj2 : (51 : Int) ≤ (j : Int) := HD.out.1.1
          have hj3 : (j : Int) < (N : Int) := HD.out.1.2
          have hmx : max (j : Int) 0 = (j : Int) := by omega
          have hmn : min (j : Int) ((N : Int) - 1) = (j : Int) := by omega
          have htl : tl.getD j false = true := by
            rw [TK.out.is j (by omega), decide_eq_true (by omega)]
            simpa using HD.out.2
          have bc : w6.cell? ⟨gt, j, none⟩ = some (.bool true) := by
            rw [brow_cell S6.out.drop.box (by rw [TK.out.len]; omega), htl]
          have bf := brow_fz (k := j) S6.out.drop.box
          have HTL := Lib.hid htl
          have S7 := Lib.hid (S6.out.drop.poke HGT.out (by simp) j false)
          clear htl
          go_wp2
          go_roundw
          case rel =>
            have h9 := tcn_false HTL.out (by rw [TK.out.len]; omega) N (by omega)
            have h10 := HC.out
            exact ⟨c - 1, k + 1, h1, by congr 1; omega, by go_num, _, now, _, _, S7.out, CD6.out, TK.out.drop CD.out.sz (by omega) (by omega), by omega⟩
          case measure => simp only [intOf]; omega
        · obtain ⟨q1, q2⟩ := CD.out.nodrop hd
          rw [q1, q2] at hdr
          have HDR := Lib.hid hdr
          have HD := Lib.hid hd
          clear hdr q1 q2 hd
          by_cases hj2 : (51 : Int) ≤ on
          · by_cases hj3 : on < (N : Int)
            · obtain ⟨j, rfl⟩ : ∃ j : Nat, on = (j : Int) := ⟨on.toNat, by omega⟩
              go_region_held3 (fun v' => v'.cell? ⟨g, 0, none⟩ = some (.pointer (some ⟨d, 0, none⟩)) ∧ v'.cell? ⟨gx, 0, none⟩ = some (.int .i64 ok) ∧ v'.cell? ⟨gx, 1, none⟩ = some (.int .i64 (j : Int)))
                (first | exact st_c (op := ⟨ok, (j : Int)⟩) (S5.out.below (Below.refl _ _).drew) | exact st_c (op := ⟨ok, (j : Int)⟩) S6.out)
                (first
                  | (go_at_call 16; go_must (go_fit HDR.out); rintro e w6 ⟨rfl, s6⟩
                     have S6 := Lib.hid s6
                     clear s6))
              obtain ⟨p0, x1, x2⟩ := st_c (op := ⟨ok, (j : Int)⟩) S6.out

              have hmx : max (j : Int) 0 = (j : Int) := by omega
              have hmn : min (j : Int) ((N : Int) - 1) = (j : Int) := by omega
              have htl : tl.getD j false = false := by
                rw [TK.out.is j (by omega), decide_eq_true (by omega)]
                cases hb : bitN mm j with
                | false => rfl
                | true => exact absurd ⟨⟨hj2, hj3⟩, by simpa using hb⟩ HD.out
              have bc : w6.cell? ⟨gt, j, none⟩ = some (.bool false) := by
                rw [brow_cell S6.out.drop.box (by rw [TK.out.len]; omega), htl]
              clear htl
              go_wp2
              go_roundw
              case rel => exact ⟨c, k + 1, h1, rfl, by go_num, V, now, mm, tl, S6.out.drop, CD.out, TK.out, HC.out⟩
              case measure => simp only [intOf]; omega

            · clear HD
              go_region_held3 (fun v' => v'.cell? ⟨g, 0, none⟩ = some (.pointer (some ⟨d, 0, none⟩)) ∧ v'.cell? ⟨gx, 0, none⟩ = some (.int .i64 ok) ∧ v'.cell? ⟨gx, 1, none⟩ = some (.int .i64 on))
                (first | exact st_c (op := ⟨ok, on⟩) (S5.out.below (Below.refl _ _).drew) | exact st_c (op := ⟨ok, on⟩) S6.out)
                (first
                  | (go_at_call 16; go_must (go_fit HDR.out); rintro e w6 ⟨rfl, s6⟩
                     have S6 := Lib.hid s6
                     clear s6))
              obtain ⟨p0, x1, x2⟩ := st_c (op := ⟨ok, on⟩) S6.out

              go_wp2
              go_roundw
              case rel => exact ⟨c, k + 1, h1, rfl, by go_num, V, now, mm, tl, S6.out.drop, CD.out, TK.out, HC.out⟩
              case measure => simp only [intOf]; omega

          · clear HD
            go_region_held3 (fun v' => v'.cell? ⟨g, 0, none⟩ = some (.pointer (some ⟨d, 0, none⟩)) ∧ v'.cell? ⟨gx, 0, none⟩ = some (.int .i64 ok) ∧ v'.cell? ⟨gx, 1, none⟩ = some (.int .i64 on))
              (first | exact st_c (op := ⟨ok, on⟩) (S5.out.below (Below.refl _ _).drew) | exact st_c (op := ⟨ok, on⟩) S6.out)
              (first
                | (go_at_call 16; go_must (go_fit HDR.out); rintro e w6 ⟨rfl, s6⟩
                   have S6 := Lib.hid s6
                   clear s6))
            obtain ⟨p0, x1, x2⟩ := st_c (op := ⟨ok, on⟩) S6.out

            go_wp2
            go_roundw
            case rel => exact ⟨c, k + 1, h1, rfl, by go_num, V, now, mm, tl, S6.out.drop, CD.out, TK.out, HC.out⟩
            case measure => simp only [intOf]; omega

      · rw [e] at HK
        unfold ocells opv at *
        go_wp2_with (go_at_call 13; refine (HK.out _).mono ?_; rintro e w5 ⟨rfl, b5⟩
                     have S5 := Lib.hid (S1.out.below b5)
                     obtain ⟨p0, x1, x2⟩ := st_c S5.out
                     clear b5)
        clear e0 e1
        go_wp2
        obtain ⟨ok, on⟩ := op
        have hdr := run_st on (S5.out.below (Below.refl _ _).drew) HFT.out.2
        clear hkb x1 x2 p0
        by_cases hon : on < 1
        · obtain ⟨q1, q2, q3, q4⟩ := CD.out.bad hon
          rw [q1, q2, q3, q4] at hdr
          have HDR := Lib.hid hdr
          clear hdr q1 q2 q3 q4
          go_region_held3 (fun v' => v'.cell? ⟨g, 0, none⟩ = some (.pointer (some ⟨d, 0, none⟩)) ∧ v'.cell? ⟨gx, 0, none⟩ = some (.int .i64 ok) ∧ v'.cell? ⟨gx, 1, none⟩ = some (.int .i64 on))
            (first | exact st_c (op := ⟨ok, on⟩) (S5.out.below (Below.refl _ _).drew) | exact st_c (op := ⟨ok, on⟩) S6.out)
            (first
              | (go_at_call 15; go_must (go_fit HDR.out); rintro e w6 ⟨rfl, s6⟩
                 have S6 := Lib.hid s6
                 clear s6))
          obtain ⟨p0, x1, x2⟩ := st_c (op := ⟨ok, on⟩) S6.out
          by_cases hcc : (c : Int) < (N : Int) - 51
          · go_wp2_with (go_at_call 13; refine (HK.out _).mono ?_; rintro e w7 ⟨rfl, b7⟩
                         have S7 := Lib.hid (S6.out.below b7)
                         obtain ⟨p0, x1, x2⟩ := st_c (op := ⟨ok, on⟩) S7.out
                         clear b7)
            go_roundw
            case rel => exact ⟨c, k + 1, h1, rfl, by go_num, V, now, mm, tl, S7.out.drop, CD.out, TK.out, HC.out⟩
            case measure => simp only [intOf]; omega
          · go_wp2
            go_roundw
            case rel => exact ⟨c, k + 1, h1, rfl, by go_num, V, now, mm, tl, S6.out.drop, CD.out, TK.out, HC.out⟩
            case measure => simp only [intOf]; omega
        · obtain ⟨L, rfl⟩ : ∃ L : Nat, on = (L : Int) := ⟨on.toNat, by omega⟩
          have hL : 1 ≤ L := by omega
          have hf := fnd_is mm N L CD.out.sz (by omega) hL
          generalize (fndP mm (N : Int) (L : Int)).1 = a1 at *
          generalize (fndP mm (N : Int) (L : Int)).2 = l1 at *
          by_cases hl0 : l1 = 0
          · subst hl0
            obtain ⟨q1, q2, q3, q4⟩ := CD.out.none hL hf
            rw [q1, q2, q3, q4] at hdr
            have HDR := Lib.hid hdr
            clear hdr q1 q2 q3 q4 hon hL
            have hcc : ¬ (c : Int) < (N : Int) - 51 := by
              rcases hf with ⟨_, h2⟩ | ⟨h2, _⟩
              · have h3 := fcn_none h2 N (Nat.le_refl _)
                have h4 := TK.out.sum (by omega)
                have h5 := HC.out
                omega
              · omega
            clear hf
            go_region_held3 (fun v' => v'.cell? ⟨g, 0, none⟩ = some (.pointer (some ⟨d, 0, none⟩)) ∧ v'.cell? ⟨gx, 0, none⟩ = some (.int .i64 ok) ∧ v'.cell? ⟨gx, 1, none⟩ = some (.int .i64 (L : Int)))
              (first | exact st_c (op := ⟨ok, (L : Int)⟩) (S5.out.below (Below.refl _ _).drew) | exact st_c (op := ⟨ok, (L : Int)⟩) S6.out)
              (first
                | (go_at_call 15; go_must (go_fit HDR.out); rintro e w6 ⟨rfl, s6⟩
                   have S6 := Lib.hid s6
                   clear s6))
            obtain ⟨p0, x1, x2⟩ := st_c (op := ⟨ok, (L : Int)⟩) S6.out
            go_wp2
            go_roundw
            case rel => exact ⟨c, k + 1, h1, rfl, by go_num, V, now, mm, tl, S6.out.drop, CD.out, TK.out, HC.out⟩
            case measure => simp only [intOf]; omega
          · obtain ⟨q1, q2, q3, q4⟩ := CD.out.some hL hl0 hf
            rw [q1, q2, q3] at hdr
            have HDR := Lib.hid hdr
            have CD6 := Lib.hid q4
            generalize rnV V (L : Int) = V6 at *
            clear hdr q1 q2 q3 q4 hon hL
            have hfr : Fr mm N a1 l1 := by
              rcases hf with ⟨h2, _⟩ | ⟨_, _, h3, _⟩
              · exact absurd h2 hl0
              · exact h3
            have HFR := Lib.hid hfr
            have hA := hfr.1
            have hB := hfr.2.1
            clear hf hfr hl0
            go_region_held3 (fun v' => v'.cell? ⟨g, 0, none⟩ = some (.pointer (some ⟨d, 0, none⟩)) ∧ v'.cell? ⟨gx, 0, none⟩ = some (.int .i64 ok) ∧ v'.cell? ⟨gx, 1, none⟩ = some (.int .i64 (L : Int)))
              (first | exact st_c (op := ⟨ok, (L : Int)⟩) (S5.out.below (Below.refl _ _).drew) | exact st_c (op := ⟨ok, (L : Int)⟩) S6.out)
              (first
                | (go_at_call 15; go_must (go_fit HDR.out); rintro e w6 ⟨rfl, s6⟩
                   have S6 := Lib.hid s6
                   clear s6))
            obtain ⟨p0, x1, x2⟩ := st_c (op := ⟨ok, (L : Int)⟩) S6.out
            clear p0 x1 x2
            go_wp2
            go_loopw [7, 15] (fun cv jv wr => ∃ t J C : Nat, Hid (J = a1 + t ∧ C = c + t) ∧ t ≤ l1 ∧ C ≤ 1000 ∧ cv = .int .i64 (C : Int) ∧ jv = .int .i64 (J : Int) ∧ St w wr B d q p pd pm R r (rowF g gt (lTo tl a1 t)) N D0 V6 D0 now) (fun _ jv _ => a1 + l1 - (intOf jv).toNat)
            case atStart => exact ⟨0, a1, c, ⟨rfl, rfl⟩, by omega, by omega, rfl, rfl, S6.out.drop⟩
            case round =>
              obtain ⟨t, J, C, HJ, ht, hC, rfl, rfl, st⟩ := hrel
              obtain ⟨hJ, hCt⟩ := HJ.out
              have hct : C ≤ 800 := by omega
              by_cases hlt : J < a1 + l1
              · have g1 : (J : Int) < (a1 : Int) + (l1 : Int) := by omega
                have g2 : ¬ (J : Int) < 51 := by omega
                have g3 : (51 : Int) ≤ (J : Int) := by omega
                have g4 : (J : Int) < (N : Int) := by omega
                have g5 : (0 : Int) ≤ (J : Int) := by omega
                have bc : wr.cell? ⟨gt, J, none⟩ = some (.bool false) := by
                  rw [brow_cell st.box (by rw [lTo_len, TK.out.len]; omega), hJ, TK.out.free HFR.out (by omega)]
                have bf := brow_fz (k := J) st.box
                have HP := Lib.hid (st.poke HGT.out (by simp) J true)
                clear st hJ hCt
                go_wp2
                go_roundw
                case rel => exact ⟨t + 1, J + 1, C + 1, ⟨by have := HJ.out.1; omega, by have := HJ.out.2; omega⟩, by have := HJ.out.1; omega, by omega, by go_num, by go_num, by rw [lTo, ← HJ.out.1]; exact HP.out⟩
                case measure => simp only [intOf]; omega
              · have g1 : ¬ (J : Int) < (a1 : Int) + (l1 : Int) := by omega
                have hte : t = l1 := by omega
                rw [hte] at st
                have ST6 := Lib.hid st
                have hcount := TK.out.tcnTo HFR.out l1 (Nat.le_refl _)
                have hC0 := HC.out
                clear st hJ
                go_wp2
                go_roundw
                case rel => exact ⟨C, k + 1, h1, rfl, by go_num, _, now, _, _, ST6.out, CD6.out, TK.out.take HFR.out CD.out.sz (by omega), by omega⟩
                case measure => simp only [intOf]; omega
      · rw [e] at HK
        unfold ocells opv at *
        go_wp2_with (go_at_call 13; refine (HK.out _).mono ?_; rintro e w5 ⟨rfl, b5⟩
                     have S5 := Lib.hid (S1.out.below b5)
                     obtain ⟨p0, x1, x2⟩ := st_c S5.out
                     clear b5)
        clear e0 e1
        obtain ⟨ok, on⟩ := op
        have hdr := take_st S5.out
        clear hkb x1 x2
        have hf := fnd_is mm N 1 CD.out.sz (by omega) (by omega)
        generalize (fndP mm (N : Int) ((1 : Nat) : Int)).1 = a1 at *
        generalize hl1 : (fndP mm (N : Int) ((1 : Nat) : Int)).2 = l1 at *
        clear hl1
        by_cases hl0 : l1 = 0
        · subst hl0
          have hq : rnE V 1 = 10 ∧ rnA V 1 = 0 ∧ rnL V 1 = 0 ∧ rnV V 1 = V := CD.out.none (n := 1) (by omega) hf
          obtain ⟨q1, q2, q3, q4⟩ := hq
          rw [q1, q2, q4] at hdr
          have HDR := Lib.hid hdr
          clear hdr q1 q2 q3 q4
          have hcc : ¬ (c : Int) < (N : Int) - 51 := by
            rcases hf with ⟨_, h2⟩ | ⟨h2, _⟩
            · have h3 := fcn_none h2 N (Nat.le_refl _)
              have h4 := TK.out.sum (by omega)
              have h5 := HC.out
              omega
            · omega
          clear hf
          go_wp2_with (go_at_call 14; refine HDR.out.mono ?_; rintro e w6 ⟨rfl, s6⟩
                       have S6 := Lib.hid s6
                       obtain ⟨p0, x1, x2⟩ := st_c (op := ⟨ok, on⟩) S6.out
                       clear s6)
          go_roundw
          case rel => exact ⟨c, k + 1, h1, rfl, by go_num, V, now, mm, tl, S6.out.drop, CD.out, TK.out, HC.out⟩
          case measure => simp only [intOf]; omega
        · have hl1 : l1 = 1 := by
            rcases hf with ⟨h2, _⟩ | ⟨h2, h3, _⟩ <;> omega
          subst hl1
          have hq : rnE V 1 = 0 ∧ rnA V 1 = (a1 : Int) ∧ rnL V 1 = 1 ∧ Crd (rnV V 1) N (takeN mm a1 1) := CD.out.some (n := 1) (by omega) hl0 hf
          obtain ⟨q1, q2, q3, q4⟩ := hq
          rw [q1, q2] at hdr
          have HDR := Lib.hid hdr
          have CD6 := Lib.hid q4
          generalize rnV V 1 = V6 at *
          clear hdr q1 q2 q3 q4
          have hfr : Fr mm N a1 1 := by
            rcases hf with ⟨h2, _⟩ | ⟨_, _, h3, _⟩
            · exact absurd h2 hl0
            · exact h3
          have HFR := Lib.hid hfr
          have hA := hfr.1
          have hB := hfr.2.1
          clear hf hfr hl0
          go_wp2_with (go_at_call 14; refine HDR.out.mono ?_; rintro e w6 ⟨rfl, s6⟩
                       have S6 := Lib.hid s6
                       obtain ⟨p0, x1, x2⟩ := st_c (op := ⟨ok, on⟩) S6.out
                       clear s6)
          clear p0 x1 x2
          go_loopw [7, 15] (fun cv jv wr => ∃ t J C : Nat, Hid (J = a1 + t ∧ C = c + t) ∧ t ≤ 1 ∧ C ≤ 1000 ∧ cv = .int .i64 (C : Int) ∧ jv = .int .i64 (J : Int) ∧ St w wr B d q p pd pm R r (rowF g gt (lTo tl a1 t)) N D0 V6 D0 now) (fun _ jv _ => a1 + 1 - (intOf jv).toNat)
          case atStart => exact ⟨0, a1, c, ⟨rfl, rfl⟩, by omega, by omega, rfl, rfl, S6.out.drop⟩
          case round =>
            obtain ⟨t, J, C, HJ, ht, hC, rfl, rfl, st⟩ := hrel
            obtain ⟨hJ, hCt⟩ := HJ.out
            have hct : C ≤ 800 := by omega
            by_cases hlt : J < a1 + 1
            · have g1 : (J : Int) < (a1 : Int) + 1 := by omega
              have g2 : ¬ (J : Int) < 51 := by omega
              have g3 : (51 : Int) ≤ (J : Int) := by omega
              have g4 : (J : Int) < (N : Int) := by omega
              have g5 : (0 : Int) ≤ (J : Int) := by omega
              have bc : wr.cell? ⟨gt, J, none⟩ = some (.bool false) := by
                rw [brow_cell st.box (by rw [lTo_len, TK.out.len]; omega), hJ, TK.out.free HFR.out (by omega)]
              have bf := brow_fz (k := J) st.box
              have HP := Lib.hid (st.poke HGT.out (by simp) J true)
              clear st hJ hCt
              go_wp2
              go_roundw
              case rel => exact ⟨t + 1, J + 1, C + 1, ⟨by have := HJ.out.1; omega, by have := HJ.out.2; omega⟩, by have := HJ.out.1; omega, by omega, by go_num, by go_num, by rw [lTo, ← HJ.out.1]; exact HP.out⟩
              case measure => simp only [intOf]; omega
            · have g1 : ¬ (J : Int) < (a1 : Int) + 1 := by omega
              have hte : t = 1 := by omega
              rw [hte] at st
              have ST6 := Lib.hid st
              have hcount := TK.out.tcnTo HFR.out 1 (Nat.le_refl _)
              have hC0 := HC.out
              clear st hJ
              go_wp2
              go_roundw
              case rel => exact ⟨C, k + 1, h1, rfl, by go_num, _, now, _, _, ST6.out, CD6.out, TK.out.take HFR.out CD.out.sz (by omega), by omega⟩
              case measure => simp only [intOf]; omega
    · have hnlt : ¬ (k : Int) < (m : Int) := by omega
      have hfr := free_st st
      obtain ⟨f1, f2⟩ := cd.free
      rw [f1, f2] at hfr
      have HFR := Lib.hid hfr
      have hsum := tk.sum (by omega)
      have c0 : wr.cell? ⟨g, 0, none⟩ = some (.pointer (some ⟨d, 0, none⟩)) := st.c0
      have HEQ : Hid (((fcn mm N : Nat) : Int) = (N : Int) - 51 - (c : Int)) := by show _ = _; omega
      have hc4 : c ≤ 400 := by omega
      rw [HEQ.out] at HFR
      clear st cd tk hc f1 f2 hfr hsum
      go_wp2_with (go_at_call 17; refine HFR.out.mono ?_; rintro e w7 ⟨rfl, b7⟩)
      go_ret
      exact ⟨rfl, ST.out.hb.trans (b7.mono ST.out.hb.size)⟩

set_option maxRecDepth 100000 in
theorem lifted (os : Os) (started : os.Started) (H : Type) (enc : TypeId × Value → H) :
    ReturnsInHanded {} Tryz.checked os 4 .any (Rows.stockOnceSpec.pre6 enc Tryz.prog Tryz.f4 Rows.stockOnceRow.domain false) (Rows.stockOnceSpec.post enc Tryz.prog Tryz.f4 false true false false) := by
  refine returnsInHanded_of_change_sized (C := Tryz.checked) own started (by kernel_rfl) Tryz.func4
    (ChangeSpec.witness6 (enc := enc) (C := Tryz.checked) false ⟨#[], #[.int .i64 0, .slice none 0 0], []⟩ 8 (by kernel_rfl) (by kernel_rfl) (by kernel_rfl) (by kernel_rfl)) ?_
  intro W base args ds gs before hval0 hW hcnd hsz0 _
  have hval : ∀ (j : Nat) t v, Tryz.f4.params[j]? = some t → args[j]? = some v → Value.okWide Tryz.prog W .any base t v := hval0
  have hW' := hW
  obtain ⟨p, q, hA0, hV, rfl, hfz, hnd⟩ := hW
  have hA : DataW.TrodAll enc Tryz.prog W 0 (fun _ => true) true Tryz.f4.params.toList args.toList ds p := hA0
  rw [Tryz.params4] at hA hval
  obtain ⟨v0, vs0, d0, ds0, p0, q0, hargs, rfl, rfl, h0, r0⟩ := trodAll_cons hA
  obtain ⟨v1, vs1, d1, ds1, p1, q1, rfl, rfl, rfl, h1, r1⟩ := trodAll_cons r0
  obtain ⟨rfl, rfl, rfl⟩ := trodAll_nil r1
  obtain rfl : args = #[v0, v1] := by cases args; simp_all
  obtain ⟨rfl, rfl⟩ := trodVars_none hV
  obtain ⟨n0, rfl, rfl, rfl, wn0⟩ := open_int Tryz.underlying3 (hval 0 3 v0 rfl rfl) h0
  have lt1 : ∀ x ∈ p1, x.block < W.heap.size := by obtain ⟨m, hm⟩ := h1; exact DataW.trod_lt m _ _ _ hm
  obtain ⟨a1, len1, cap1, rfl⟩ := okWide_slice Tryz.underlying22 (hval 1 22 v1 rfl rfl)
  obtain ⟨l1, w1⟩ := ops_open h1
  clear hA0 hval0
  refine (walk n0 a1 len1 cap1 l1 W (i64_of_wf wn0) w1).mono fun e W' ⟨he, bel⟩ => ?_
  subst he
  exact ⟨_, rfl, _, _, _, [], _, [], hW', trodAll_mk1 (shut_bool Tryz.underlying4 _), (trodAll_cons_mk (shut_int Tryz.underlying3 wn0) (trodAll_cons_mk (Below.trod laidOut (by kernel_rfl) (of_decide_eq_true (by kernel_rfl)) h1 bel lt1) trodAll_mk0)), rfl, bel.frame _, fun h => by cases h⟩

theorem over : Rows.stockOnceRow.holds Tryz.pinned (OpenSpec.ofChange Rows.stockOnceSpec) :=
  OpenClaim.holds_of_wide 4 Tryz.f4 rfl rfl rfl rfl rfl rfl rfl ⟨rfl, rfl, rfl, rfl, rfl⟩ rfl rfl rfl rfl rfl (by kernel_rfl) Tryz.func4 (by kernel_rfl)
    (of_decide_eq_true (by kernel_rfl)) (by unfold Func.isWrapper; first | (rw [if_pos (by decide +kernel)]; kernel_rfl) | (rw [if_neg (by decide +kernel)]; exact ⟨rfl, rfl⟩))
    (fun os started H enc _ => lifted os started H enc)

end Go.Proofs.YtbkgfkemjhaopaaGreat.Dl.stockOnce
namespace Go.Proofs.YtbkgfkemjhaopaaGreat
theorem stockOnce_proved : Rows.StockOnceSaid := Dl.stockOnce.over
#print axioms stockOnce_proved
end Go.Proofs.YtbkgfkemjhaopaaGreat
