/-
  THE LAW StockRow: a row that is taken is as long as was asked, or there was no such row: then it is the longest one. It holds for every input.
-/
import Derived.Test.YtbkgfkemjhaopaaGreatFF
import Derived.Test.YtbkgfkemjhaopaaGreatFM
set_option linter.unusedVariables false
set_option linter.unusedSimpArgs false
namespace Go.Proofs.YtbkgfkemjhaopaaGreat.Dl.stockRow
open Go.ChangeShapes Go.WideShapes Go.ChangeAt Go.RowKit
open Go.ChangeMaps (open_string shut_string)
open Sl (Turns SlabAt)
open Lg (FS LogAt Whole ownB bcell newD newD_len newD_whole)
open Kr (I64)
open Mk

theorem crd_run {V : List ByteArray} {b : Nat} {m : ByteArray} (h : Crd V b m) (n : Int) : ∃ m', Crd (rnV V n) b m' := by
  by_cases hn : n < 1
  · rw [(h.bad hn).2.2.2]; exact ⟨m, h⟩
  · obtain ⟨k, rfl⟩ : ∃ k : Nat, n = (k : Int) := ⟨n.toNat, by omega⟩
    have hf := fnd_is m b k h.sz (by have := h.b2; omega) (by omega)
    by_cases hl : (fndP m (b : Int) (k : Int)).2 = 0
    · rw [hl] at hf
      rw [(h.none (by omega) hf).2.2.2]; exact ⟨m, h⟩
    · exact ⟨_, (h.some (by omega) hl hf).2.2.2⟩
theorem crd_st {V : List ByteArray} {b : Nat} {m : ByteArray} (h : Crd V b m) (o : OpS) : ∃ m', Crd (stV V o) b m' := by
  unfold stV
  split
  · exact crd_run h 1
  · split
    · exact crd_run h o.n
    · split
      · by_cases hd : (51 ≤ o.n ∧ o.n < b) ∧ bitN m o.n.toNat = true
        · obtain ⟨k, hk⟩ : ∃ k : Nat, o.n = (k : Int) := ⟨o.n.toNat, by omega⟩
          rw [hk] at hd ⊢
          exact ⟨_, (h.drop (by omega) (by omega) hd.2).2⟩
        · rw [(h.nodrop hd).2]; exact ⟨m, h⟩
      · exact ⟨m, h⟩
/-- what holds behind some steps. -/
def PlaySt (w wr : World) (B d q p pd pm R r g N : Nat) (D base : List ByteArray) : Prop := ∃ V now m, St w wr B d q p pd pm R r ⟨g, []⟩ N D V base now ∧ Agree N V D now base ∧ Crd V N m
theorem ret_true {b : Bool} (h : b = true) : Ending.returned (.bool b) = .returned (.bool true) := by rw [h]

set_option maxRecDepth 100000 in
set_option maxHeartbeats 8000000 in
theorem walk (n : Int) (a : Option Addr) (len cap : Nat) (l : List OpS) (want : Int) (w : World) (_hn : -9223372036854775808 ≤ n ∧ n ≤ 9223372036854775807) (ho : OpsAt w w.heap.size a len l ∧ len ≤ cap) (hw : -9223372036854775808 ≤ want ∧ want ≤ 9223372036854775807) :
    Calls Tryz.prog 5 #[.int .i64 n, .slice a len cap, .int .i64 want] w fun e w' => e = .returned (.bool true) ∧ Below w.heap.size w w' := by
  obtain ⟨hA, hnc⟩ := ho
  obtain ⟨m, hm⟩ : ∃ m, m = min len 60 := ⟨_, rfl⟩
  have hm60 : m ≤ 60 := by omega
  have HA := Lib.hid (hA.take m (by omega))
  generalize l.take m = ops at *
  have HL := Lib.hid (fun W => lives13_any W)
  have HZ := Lib.hid (fun W => size13_any n W)
  have HE := Lib.hid (fun W => early13_any a len cap W hnc)
  rw [← hm] at HE
  obtain ⟨hN1, hN2⟩ := sizeN_b n
  generalize sizeN n = N at *
  have HBG := Lib.hid (fun W => begin13_any N ⟨#[]⟩ W hN1 hN2 (by decide))
  have HCR := Lib.hid (crd_new hN1 hN2)
  have HNB := Lib.hid (⟨hN1, hN2⟩ : 64 ≤ N ∧ N ≤ 400)
  have HW := Lib.hid hw
  unfold RetBg at HBG
  generalize newD N = D0 at *
  generalize V0 N ⟨#[]⟩ = VV at *
  clear hA hm hnc _hn hN1 hN2 hw
  go_enter Tryz.func5, Tryz.ntmps5
  go_wp2_with (first
    | (go_at_call 7; refine (HL.out _).mono ?_; rintro e w1 ⟨rfl, b1⟩
       have HB1 := Lib.hid b1
       clear b1)
    | (go_at_call 9; refine (HZ.out w1).mono ?_; rintro e w2 ⟨rfl, h2⟩; subst h2)
    | (go_at_call 8; refine (HBG.out _).mono ?_; rintro e w3 ⟨B, d, q, p, pd, pm, R, r, g, rfl, s3, a3⟩
       have HS3 : Hid (PlaySt w w3 B d q p pd pm R r g N D0 D0) := ⟨_, _, _, s3.from HB1.out, a3, HCR.out⟩
       clear s3 a3)
    | (go_at_call 10; refine (HE.out _).mono ?_; rintro e w4 ⟨rfl, h4⟩; subst h4))
  have HB0 : Hid (∀ wr, PlaySt w wr B d q p pd pm R r g N D0 D0 → Below w.heap.size w wr) := fun wr ⟨V, now, m, st, _⟩ => st.hb
  clear HBG HL HZ HE HB1
  go_loopw [8] (fun iv wr => ∃ k : Nat, k ≤ m ∧ iv = .int .i64 (k : Int) ∧ PlaySt w wr B d q p pd pm R r g N D0 D0) (fun iv _ => m - (intOf iv).toNat)
  case atStart => exact ⟨0, Nat.zero_le _, rfl, HS3.out⟩
  case round =>
    obtain ⟨k, hk, rfl, V, now, mm, st, ag, cd⟩ := hrel
    have CD := Lib.hid cd
    have ST := Lib.hid st
    have AG := Lib.hid ag
    by_cases h1 : k < m
    · have hlt : (k : Int) < (m : Int) := by omega
      have x0 : (0 : Int) ≤ (k : Int) := by omega
      obtain ⟨b, o, rfl, hbB, c0, c1, hfit⟩ := HA.out.op h1
      have e0 : wr.cell? ⟨b, o + k * 2, none⟩ = some (.int .i64 (ops.getD k OpS.z).k) := (st.hb.cell (p := ⟨b, o + k * 2, none⟩) (by show b < _; exact hbB)).trans c0
      have e1 : wr.cell? ⟨b, o + k * 2 + 1, none⟩ = some (.int .i64 (ops.getD k OpS.z).n) := (st.hb.cell (p := ⟨b, o + k * 2 + 1, none⟩) (by show b < _; exact hbB)).trans c1
      have stp := step13_any (ops.getD k OpS.z) st ag hfit
      have STP : Hid (Calls Tryz.prog 11 #[.pointer (some ⟨g, 0, none⟩), opv (ops.getD k OpS.z)] wr fun e w' => e = .returned (.bool true) ∧ ∃ V' now' m', St w w' B d q p pd pm R r ⟨g, []⟩ N D0 V' D0 now' ∧ Agree N V' D0 now' D0 ∧ Crd V' N m') :=
        stp.mono fun e w' ⟨h1, now', h2, h3⟩ => by
          obtain ⟨m', h4⟩ := crd_st CD.out (ops.getD k OpS.z)
          exact ⟨h1, _, now', m', h2, h3, h4⟩
      generalize ops.getD k OpS.z = op at *
      clear st ag c0 c1 hfit stp cd
      unfold opv at *
      go_wp2_with (go_at_call 11; refine STP.out.mono ?_; rintro e w6 ⟨rfl, V', now', m', s6, a6, cd6⟩)
      go_roundw
      case rel => exact ⟨k + 1, h1, by push_cast; rfl, V', now', m', s6, a6, cd6⟩
      case measure => simp only [intOf]; omega
    · have hnlt : ¬ (k : Int) < (m : Int) := by omega
      clear st ag cd
      go_wp2_with fail
      have HN9 := HNB.out
      generalize wr = W0 at *
      go_loopw [9, 10, 11] (fun bv rv iv wr => ∃ i b r : Nat, 51 ≤ i ∧ i ≤ N ∧ bv = .int .i64 (b : Int) ∧ rv = .int .i64 (r : Int) ∧ iv = .int .i64 (i : Int) ∧ Hid (Bst mm N i b r) ∧ Below W0.heap.size W0 wr) (fun _ _ iv _ => N - (intOf iv).toNat)
      case atStart => exact ⟨51, 0, 0, by omega, by omega, rfl, rfl, rfl, Bst.zero mm N, Below.refl _ _⟩
      case round =>
        obtain ⟨i, b, r2, hi1, hi2, rfl, rfl, rfl, HBS, hb⟩ := hrel
        have hri := HBS.out.ri
        have hrb := HBS.out.rb
        have hbN : b ≤ 400 := by
          rcases HBS.out.one with e | ⟨j, _, h2, _⟩ <;> omega
        have st2 := ST.out.below hb
        have c0 : wr.cell? ⟨g, 0, none⟩ = some (.pointer (some ⟨d, 0, none⟩)) := st2.c0
        by_cases hlt : i < N
        · have g1 : (i : Int) < (N : Int) := by omega
          have hu := used_st (i : Int) st2 (by unfold I64; omega)
          obtain ⟨u1, u2⟩ := CD.out.used hi1 hlt
          rw [u1, u2] at hu
          cases hbt : bitN mm i with
          | true =>
            rw [hbt] at hu
            have HU := Lib.hid hu
            have HB2 := Lib.hid (HBS.out.yes hbt)
            have HBW := Lib.hid hb
            have hmx : max (b : Int) 0 = (b : Int) := by omega
            clear hu u1 u2 hbt st2 hb HBS
            go_wp2_with (go_at_call 18; refine HU.out.mono ?_; rintro e w7 ⟨rfl, b7⟩
                         have HB7 := Lib.hid (HBW.out.trans (b7.mono HBW.out.size))
                         clear b7)
            go_roundw
            case rel => exact ⟨i + 1, b, 0, by omega, by omega, rfl, rfl, by go_num, HB2.out, HB7.out⟩
            case measure => simp only [intOf]; omega
          | false =>
            rw [hbt] at hu
            have HU := Lib.hid hu
            have HB2 := Lib.hid (HBS.out.no hbt)
            have HBW := Lib.hid hb
            clear hu u1 u2 hbt st2 hb HBS
            by_cases hm : r2 + 1 ≤ b
            · have hmx : max (b : Int) ((r2 : Int) + 1) = (b : Int) := by omega
              rw [Nat.max_eq_left hm] at HB2
              go_wp2_with (go_at_call 18; refine HU.out.mono ?_; rintro e w7 ⟨rfl, b7⟩
                           have HB7 := Lib.hid (HBW.out.trans (b7.mono HBW.out.size))
                           clear b7)
              go_roundw
              case rel => exact ⟨i + 1, b, r2 + 1, by omega, by omega, rfl, by go_num, by go_num, HB2.out, HB7.out⟩
              case measure => simp only [intOf]; omega
            · have hmx : max (b : Int) ((r2 : Int) + 1) = (r2 : Int) + 1 := by omega
              rw [Nat.max_eq_right (by omega)] at HB2
              go_wp2_with (go_at_call 18; refine HU.out.mono ?_; rintro e w7 ⟨rfl, b7⟩
                           have HB7 := Lib.hid (HBW.out.trans (b7.mono HBW.out.size))
                           clear b7)
              go_roundw
              case rel => exact ⟨i + 1, r2 + 1, r2 + 1, by omega, by omega, by go_num, by go_num, by go_num, HB2.out, HB7.out⟩
              case measure => simp only [intOf]; omega
        · have g1 : ¬ (i : Int) < (N : Int) := by omega
          obtain rfl : i = N := by omega
          have hr := run_st want st2 HW.out
          have HBS2 := Lib.hid HBS.out
          by_cases hw1 : want < 1
          · obtain ⟨q1, q2, q3, q4⟩ := CD.out.bad hw1
            rw [q1, q3] at hr
            have HRR := Lib.hid hr
            clear hr q1 q2 q3 q4 st2 hb HBS HBS2
            go_wp2_with (go_at_call 15; refine HRR.out.mono ?_; rintro e w7 ⟨rfl, s7⟩)
            go_ret
            exact ⟨rfl, s7.hb⟩
          · obtain ⟨L, rfl⟩ : ∃ L : Nat, want = (L : Int) := ⟨want.toNat, by omega⟩
            have hf := fnd_is mm i L CD.out.sz (by omega) (by omega)
            have hlm := HBS2.out.fnd (by omega) hf
            by_cases hb0 : b = 0
            · have hl0 : (fndP mm (i : Int) (L : Int)).2 = 0 := by omega
              rw [hl0] at hf
              obtain ⟨q1, q2, q3, q4⟩ := CD.out.none (by omega) hf
              rw [q1, q3] at hr
              have HRR := Lib.hid hr
              have hbz : ((b : Int) == 0) = true := by rw [beq_iff_eq]; omega
              clear hr q1 q2 q3 q4 st2 hb HBS HBS2 hlm hl0 hf hb0
              go_wp2_with (go_at_call 15; refine HRR.out.mono ?_; rintro e w7 ⟨rfl, s7⟩)
              go_ret
              exact ⟨rfl, s7.hb⟩
            · have hl0 : (fndP mm (i : Int) (L : Int)).2 ≠ 0 := by omega
              obtain ⟨q1, q2, q3, q4⟩ := CD.out.some (by omega) hl0 hf
              rw [q1, q3, hlm] at hr
              have HRR := Lib.hid hr
              have hbz : ((b : Int) == 0) = false := by rw [beq_eq_false_iff_ne]; omega
              have hmn : ((min L b : Nat) : Int) = min (L : Int) (b : Int) := by omega
              rw [hmn] at HRR
              clear hr q1 q2 q3 q4 st2 hb HBS HBS2 hlm hl0 hf hb0 hmn
              go_wp2_with (go_at_call 15; refine HRR.out.mono ?_; rintro e w7 ⟨rfl, s7⟩)
              go_ret
              exact ⟨rfl, s7.hb⟩

set_option maxRecDepth 100000 in
theorem lifted (os : Os) (started : os.Started) (H : Type) (enc : TypeId × Value → H) :
    ReturnsInHanded {} Tryz.checked os 5 .any (Rows.stockRowSpec.pre6 enc Tryz.prog Tryz.f5 Rows.stockRowRow.domain false) (Rows.stockRowSpec.post enc Tryz.prog Tryz.f5 false true false false) := by
  refine returnsInHanded_of_change_sized (C := Tryz.checked) own started (by kernel_rfl) Tryz.func5
    (ChangeSpec.witness6 (enc := enc) (C := Tryz.checked) false ⟨#[], #[.int .i64 0, .slice none 0 0, .int .i64 0], []⟩ 8 (by kernel_rfl) (by kernel_rfl) (by kernel_rfl) (by kernel_rfl)) ?_
  intro W base args ds gs before hval0 hW hcnd hsz0 _
  have hval : ∀ (j : Nat) t v, Tryz.f5.params[j]? = some t → args[j]? = some v → Value.okWide Tryz.prog W .any base t v := hval0
  have hW' := hW
  obtain ⟨p, q, hA0, hV, rfl, hfz, hnd⟩ := hW
  have hA : DataW.TrodAll enc Tryz.prog W 0 (fun _ => true) true Tryz.f5.params.toList args.toList ds p := hA0
  rw [Tryz.params5] at hA hval
  obtain ⟨v0, vs0, d0, ds0, p0, q0, hargs, rfl, rfl, h0, r0⟩ := trodAll_cons hA
  obtain ⟨v1, vs1, d1, ds1, p1, q1, rfl, rfl, rfl, h1, r1⟩ := trodAll_cons r0
  obtain ⟨v2, vs2, d2, ds2, p2, q2, rfl, rfl, rfl, h2, r2⟩ := trodAll_cons r1
  obtain ⟨rfl, rfl, rfl⟩ := trodAll_nil r2
  obtain rfl : args = #[v0, v1, v2] := by cases args; simp_all
  obtain ⟨rfl, rfl⟩ := trodVars_none hV
  obtain ⟨n0, rfl, rfl, rfl, wn0⟩ := open_int Tryz.underlying3 (hval 0 3 v0 rfl rfl) h0
  have lt1 : ∀ x ∈ p1, x.block < W.heap.size := by obtain ⟨m, hm⟩ := h1; exact DataW.trod_lt m _ _ _ hm
  obtain ⟨a1, len1, cap1, rfl⟩ := okWide_slice Tryz.underlying22 (hval 1 22 v1 rfl rfl)
  obtain ⟨l1, w1⟩ := ops_open h1
  obtain ⟨n2, rfl, rfl, rfl, wn2⟩ := open_int Tryz.underlying3 (hval 2 3 v2 rfl rfl) h2
  clear hA0 hval0
  refine (walk n0 a1 len1 cap1 l1 n2 W (i64_of_wf wn0) w1 (i64_of_wf wn2)).mono fun e W' ⟨he, bel⟩ => ?_
  subst he
  exact ⟨_, rfl, _, _, _, [], _, [], hW', trodAll_mk1 (shut_bool Tryz.underlying4 _), (trodAll_cons_mk (shut_int Tryz.underlying3 wn0) (trodAll_cons_mk (Below.trod laidOut (by kernel_rfl) (of_decide_eq_true (by kernel_rfl)) h1 bel lt1) (trodAll_cons_mk (shut_int Tryz.underlying3 wn2) trodAll_mk0))), rfl, bel.frame _, fun h => by cases h⟩

theorem over : Rows.stockRowRow.holds Tryz.pinned (OpenSpec.ofChange Rows.stockRowSpec) :=
  OpenClaim.holds_of_wide 5 Tryz.f5 rfl rfl rfl rfl rfl rfl rfl ⟨rfl, rfl, rfl, rfl, rfl⟩ rfl rfl rfl rfl rfl (by kernel_rfl) Tryz.func5 (by kernel_rfl)
    (of_decide_eq_true (by kernel_rfl)) (by unfold Func.isWrapper; first | (rw [if_pos (by decide +kernel)]; kernel_rfl) | (rw [if_neg (by decide +kernel)]; exact ⟨rfl, rfl⟩))
    (fun os started H enc _ => lifted os started H enc)

end Go.Proofs.YtbkgfkemjhaopaaGreat.Dl.stockRow
namespace Go.Proofs.YtbkgfkemjhaopaaGreat
theorem stockRow_proved : Rows.StockRowSaid := Dl.stockRow.over
#print axioms stockRow_proved
end Go.Proofs.YtbkgfkemjhaopaaGreat
