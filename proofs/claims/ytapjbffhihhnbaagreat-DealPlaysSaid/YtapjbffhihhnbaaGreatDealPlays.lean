/-
  THE LAW DealPlays: what a deal answers, which blocks are changed, and what the slab has, in whatever row. It holds for every input.
-/
import Derived.Test.YtapjbffhihhnbaaGreatEF
set_option linter.unusedVariables false
set_option linter.unusedSimpArgs false
namespace Go.Proofs.YtapjbffhihhnbaaGreat.Dl.dealPlays
open Go.ChangeShapes Go.WideShapes Go.ChangeAt Go.RowKit
open Go.ChangeMaps (open_string shut_string)
open Sl (Turns SlabAt)
open Lg (FS LogAt Whole ownB bcell newD newD_len newD_whole)

theorem diff_fit (now base : List ByteArray) (h : now.length ≤ 1000) : ∀ z ∈ diffL now base, Fit z := fun z hz => by
  obtain ⟨i, hi, rfl⟩ := List.mem_map.1 hz
  have := List.mem_range.1 (List.mem_filter.1 hi).1
  unfold Fit; omega
/-- what holds behind k steps. -/
def PlaySt (w wr : World) (B d q p pd pm R r N k : Nat) : Prop := ∃ (K c : Nat) (D V : List ByteArray) (v : Value) (gb cb gn cn : Nat) (base now : List ByteArray),
  DV wr B d q p pd pm K c D V v ∧ RD wr R r gb cb gn cn N base now ∧ Whole now ∧ Whole base ∧ D.length = N ∧ Agree N V D now base ∧ c ≤ 100 * k ∧ K ≤ k ∧ Below w.heap.size w wr

set_option maxRecDepth 100000 in
set_option maxHeartbeats 8000000 in
theorem walk (n1 : Int) (a : Option Addr) (len cap : Nat) (l : List OpD) (w : World) (_hn : -9223372036854775808 ≤ n1 ∧ n1 ≤ 9223372036854775807) (ho : OpsAt w w.heap.size a len l ∧ len ≤ cap) :
    Calls Tryz.prog 3 #[.int .i64 n1, .slice a len cap] w fun e w' => e = .returned (.bool true) ∧ Below w.heap.size w w' := by
  obtain ⟨hA, hnc⟩ := ho
  obtain ⟨j, hj⟩ : ∃ j : Nat, (j : Int) = n1 % 18446744073709551616 % 60 := ⟨(n1 % 18446744073709551616 % 60).toNat, by omega⟩
  have hj1 : j < 60 := by omega
  have HJ : Hid (wrap64 ((IntKind.u64.wrap n1).tmod 60) = (j : Int)) := by show _ = _; rw [mod_num _ _ (by decide), hj]
  obtain ⟨N, hN⟩ : ∃ N : Nat, N = 64 + j := ⟨_, rfl⟩
  have HJ2 : Hid (wrap64 (64 + wrap64 ((IntKind.u64.wrap n1).tmod 60)) = (N : Int)) := by
    show _ = _
    rw [HJ.out]
    unfold wrap64
    omega
  have hN1 : 64 ≤ N := by omega
  have hN2 : N ≤ 1000 := by omega
  obtain ⟨m, hm⟩ : ∃ m, m = min len 150 := ⟨_, rfl⟩
  have HM := Lib.hid hm
  have hm25 : m ≤ 150 := by omega
  have HA := Lib.hid (hA.take m (by omega))
  generalize l.take m = ops at *
  have HL := Lib.hid (fun W => lives12_any W)
  have HE := Lib.hid (fun W => early12_any a len cap W hnc)
  rw [← hm] at HE
  have HBG := Lib.hid (fun W => begin12_any N hN1 hN2 W)
  have HDL : Hid ((newD N).length = N) := newD_len N
  have HDW : Hid (Whole (newD N)) := newD_whole N
  have HAG0 : Hid (Agree N (newD N) (newD N) (newD N) (newD N)) := Agree.new _ _
  generalize newD N = D0 at *
  clear hA hm hj hN hj1 HJ hnc _hn
  go_enter Tryz.func3, Tryz.ntmps3
  go_wp2_with fail
  refine (HL.out _).mono ?_
  rintro e w1 ⟨rfl, b1⟩
  have HB1 := Lib.hid b1
  clear b1
  go_wp2_with fail
  refine (HE.out w1).mono ?_
  rintro e w2 ⟨rfl, h2⟩
  subst h2
  go_wp2_with fail
  rw [HJ2.out]
  refine (HBG.out _).mono ?_
  rintro e w3 ⟨d, q, p, pd, pm, rfl, hd, hq, hp, hpd, hpm, d3, b3⟩
  have hs1 := HB1.out.size
  have HGE : Hid (w.heap.size ≤ d ∧ w.heap.size ≤ q ∧ w.heap.size ≤ p ∧ w.heap.size ≤ pd ∧ w.heap.size ≤ pm) := ⟨by omega, by omega, by omega, by omega, by omega⟩
  have HB3 := Lib.hid (HB1.out.trans (b3.mono HB1.out.size))
  have HD3 := Lib.hid d3
  have IM := Lib.hid (Lg.image_calm p pd pm D0 0 w3 d3.sl)
  rw [HDL.out] at IM
  clear d3 b3 hd hq hp hpd hpm HBG HE HL HJ2
  go_wp2_with fail
  refine IM.out.mono ?_
  rintro e w4 ⟨rfl, r4, b4⟩
  have HB4 := Lib.hid (HB3.out.trans (b4.mono HB3.out.size))
  have HD4 := Lib.hid (HD3.out.below b4)
  have hss4 := Lg.rowSs (B := w4.heap.size) r4 r4.lt
  rw [HDL.out] at hss4
  have RB := Lib.hid (rbegin_any _ N N w4.heap.size D0 w4 hss4 (Nat.le_refl _) (by omega) hN2)
  have hs34 := b4.size
  clear r4 b4 hss4 IM
  go_wp2_with fail
  refine RB.out.mono ?_
  rintro e w5 ⟨r, gb, cb, gn, cn, rfl, r5, b5⟩
  have HST0 : Hid (PlaySt w w5 w3.heap.size d q p pd pm w4.heap.size r N 0) :=
    ⟨0, 0, D0, D0, _, gb, cb, gn, cn, D0, D0, HD4.out.below b5, r5, HDW.out, HDW.out, HDL.out, HAG0.out, by omega, Nat.le_refl _, HB4.out.trans (b5.mono HB4.out.size)⟩
  have hw3 : w.heap.size ≤ w3.heap.size := HB3.out.size
  clear r5 b5 RB HD4 HB4 HAG0
  generalize hB : w3.heap.size = B at *
  generalize hR : w4.heap.size = R at *
  go_wp2
  go_loopw [8] (fun j wr => ∃ k : Nat, k ≤ m ∧ j = .int .i64 (k : Int) ∧ PlaySt w wr B d q p pd pm R r N k) (fun j _ => m - (intOf j).toNat)
  case atStart => exact ⟨0, Nat.zero_le _, rfl, HST0.out⟩
  case round =>
    obtain ⟨k, hk, rfl, hst⟩ := hrel
    by_cases h1 : k < m
    · have hlt : (k : Int) < (m : Int) := by omega
      have x0 : (0 : Int) ≤ (k : Int) := by omega
      obtain ⟨K, c, D, V, v, gb, cb, gn, cn, base, now, dv, rd, hwn, hwb, hdl, ag, hc, hK, hb⟩ := hst
      obtain ⟨b, o, A1, n1, k1, A2, n2, k2, rfl, hbB, hcs, hop⟩ := HA.out.op h1
      have HBW := Lib.hid hb
      have HOP := Lib.hid (hop.below hb (Nat.le_refl _))
      have STP := Lib.hid (fun (W : World) (hW : Below wr.heap.size wr W) => step_any B d q p pd pm K c D V v R r gb cb gn cn N base now _ _ w.heap.size W (dv.below hW) (rd.below hW) (by omega) hdl hwn hwb (hop.below (hb.trans (hW.mono hb.size)) (Nat.le_refl _)) (Nat.le_trans hb.size hW.size) HGE.out.1 (by omega) (by omega))
      have hbw : ∀ j, j < 15 → wr.drew.cell? ⟨b, o + k * 15 + j, none⟩ = (ocells (ops.getD k OpD.z) A1 n1 k1 A2 n2 k2)[j]? := fun j hj => (hb.cell (p := ⟨b, o + k * 15 + j, none⟩) (by show b < _; exact hbB)).trans (hcs j hj)
      generalize ops.getD k OpD.z = op at *
      have e0 : wr.drew.cell? ⟨b, o + k * 15, none⟩ = some (.int .i64 op.k) := hbw 0 (by omega)
      have e1 : wr.drew.cell? ⟨b, o + k * 15 + 1, none⟩ = some (.int .i64 op.i) := hbw 1 (by omega)
      have e2 : wr.drew.cell? ⟨b, o + k * 15 + 2, none⟩ = some (.string op.s) := hbw 2 (by omega)
      have e3 : wr.drew.cell? ⟨b, o + k * 15 + 3, none⟩ = some (.int .i64 op.f) := hbw 3 (by omega)
      have e4 : wr.drew.cell? ⟨b, o + k * 15 + 4, none⟩ = some (.int .i64 op.b) := hbw 4 (by omega)
      have e5 : wr.drew.cell? ⟨b, o + k * 15 + 5, none⟩ = some (.int .i64 op.u) := hbw 5 (by omega)
      have e6 : wr.drew.cell? ⟨b, o + k * 15 + 6, none⟩ = some (.int .i64 op.cd.fm) := hbw 6 (by omega)
      have e7 : wr.drew.cell? ⟨b, o + k * 15 + 7, none⟩ = some (.int .i64 op.cd.kd) := hbw 7 (by omega)
      have e8 : wr.drew.cell? ⟨b, o + k * 15 + 8, none⟩ = some (.int .i64 op.cd.ln) := hbw 8 (by omega)
      have e9 : wr.drew.cell? ⟨b, o + k * 15 + 9, none⟩ = some (.int .i64 op.cd.sz) := hbw 9 (by omega)
      have e10 : wr.drew.cell? ⟨b, o + k * 15 + 10, none⟩ = some (.slice A1 n1 k1) := hbw 10 (by omega)
      have e11 : wr.drew.cell? ⟨b, o + k * 15 + 11, none⟩ = some (.int .i64 op.cd.sg) := hbw 11 (by omega)
      have e12 : wr.drew.cell? ⟨b, o + k * 15 + 12, none⟩ = some (.int .i64 op.cd.db) := hbw 12 (by omega)
      have e13 : wr.drew.cell? ⟨b, o + k * 15 + 13, none⟩ = some (.slice A2 n2 k2) := hbw 13 (by omega)
      have e14 : wr.drew.cell? ⟨b, o + k * 15 + 14, none⟩ = some (.int .i64 op.cd.ov) := hbw 14 (by omega)
      have DRW : Hid (Below wr.heap.size wr wr.drew) := ⟨rfl, rfl, rfl, Nat.le_refl _, fun _ _ => rfl⟩
      have AG := Lib.hid ag
      have HC := Lib.hid hc
      have HK := Lib.hid hK
      have HDV := Lib.hid dv
      have HRD := Lib.hid rd
      have HGN := Lib.hid rd.gn_ge.1
      have HRR := Lib.hid rd.hR
      have HDLL := Lib.hid hdl
      have HOG := Lib.hid dv.own_ge
      have hBw : Hid (w.heap.size ≤ B ∧ B ≤ R) := ⟨by omega, by omega⟩
      clear hcs hop hbw hb dv rd hwn hwb hdl ag hc hK
      go_wp2_with fail
      go_region_with (first
        | (go_at_call 12; refine (STP.out _ DRW.out).mono ?_
           rintro e w6 ⟨res, k', c', D', V', v', gb', cb', gn', cn', base', now', rfl, hk', hc', d6, r6, hw6, hwb6, hl6, t6, hag, _⟩
           obtain ⟨rfl, ag6⟩ := hag AG.out
           have HAG6 := Lib.hid ag6
           have HD6 := Lib.hid d6
           have HR6 := Lib.hid r6
           have HW6 := Lib.hid hw6
           have HWB6 := Lib.hid hwb6
           have HL6 := Lib.hid hl6
           have HK6 := Lib.hid hk'
           have HC6 := Lib.hid hc'
           have HB6 : Hid (Below w.heap.size w w6) := (HBW.out.trans (DRW.out.mono HBW.out.size)).trans (t6.below (Nat.le_trans HBW.out.size DRW.out.size) (by
             intro j hj
             have h1 := HGE.out
             have h2 := HGN.out
             have h3 := HRR.out
             have h4 := hBw.out
             simp only [List.mem_cons] at hj
             rcases hj with rfl | rfl | rfl | rfl | rfl | rfl | rfl | hj
             · exact h1.1
             · exact h1.2.1
             · exact h1.2.2.1
             · exact h1.2.2.2.1
             · exact h1.2.2.2.2
             · omega
             · omega
             · rcases HOG.out j (List.mem_cons_of_mem _ hj) with e | e <;> omega))
           have hdf : diffL V' D' = diffL now' base' := ag6.diff (d6.len.trans hl6) r6.ln (fun i hi => d6.own hi)
           have hf6 := diff_fit now' base' (by rw [r6.ln]; exact hN2)
           have hl7 : (diffL now' base').length ≤ 1000 := by
             have := diffP_len now' base' N
             have e : diffP now' base' N = diffL now' base' := by unfold diffP diffL; rw [r6.ln]
             rw [e] at this; omega
           have HCH := Lib.hid (fun (W : World) (hW : Below w6.heap.size w6 W) => changed_dv B d q p pd pm k' c' D' V' v' W (d6.below hW))
           rw [hdf] at HCH
           have HRC := Lib.hid (fun (W : World) (hW : Below w6.heap.size w6 W) => rchanged_any R r gb' cb' gn' cn' N base' now' W (r6.below hW) hN2)
           have HIM := Lib.hid (fun (W : World) (hW : Below w6.heap.size w6 W) => Lg.image_calm p pd pm D' c' W (d6.below hW).sl)
           rw [hl6] at HIM
           have HSB : Hid (Lg.sameB D' base' = true) := Lg.sameB_t.2 ⟨by rw [hl6, r6.lb], fun i hi ho => (ag6.hbase i (by omega) ho).symm⟩
           have HBB := Lib.hid (fun (W : World) (hW : Below w6.heap.size w6 W) => (r6.below hW).ssB)
           have HC0 := Lib.hid (fun (W : World) (hW : Below w6.heap.size w6 W) => (r6.below hW).c0)
           have HDF := Lib.hid hf6
           have HDL7 := Lib.hid hl7
           have hb6 : Below w6.heap.size w6 w6 := Below.refl _ _
           clear e0 e1 e2 e3 e4 e5 e6 e7 e8 e9 e10 e11 e12 e13 e14 hag ag6 d6 r6 hw6 hwb6 hl6 t6 hk' hc' hdf hf6 hl7 STP
           generalize diffL now' base' = dl at *)
        | (go_at_call 14; refine (HCH.out _ hb6).mono ?_
           rintro e w7 ⟨g7, rfl, hg7, r7, b7⟩
           have hb7 := hb6.trans (b7.mono hb6.size)
           have HI7 := Lib.hid (Lg.IntRow.ints r7 HDF.out r7.lt)
           clear r7 b7)
        | (go_at_call 15; refine (HRC.out _ hb7).mono ?_
           rintro e w8 ⟨A8, c8, rfl, o8, b8⟩
           have hb8 := hb7.trans (b8.mono hb7.size)
           have HI8 := Lib.hid (Lg.IntsAt.of_own o8 rfl HDF.out)
           have HJ8 := Lib.hid ((HI7.out.below b8 (Nat.le_refl _)).more b8.size)
           clear o8 b8)
        | (go_at_call 13; refine (rsame_ints _ _ _ _ _ _ _ _ dl dl true _ (by simp) HJ8.out HI8.out (by have := HDL7.out; omega) (by have := HDL7.out; omega)).mono ?_
           rintro e w9 ⟨rfl, h9⟩
           have hb9 : Below w6.heap.size w6 w9 := by obtain ⟨m9, rfl⟩ := h9; exact Lg.Below.drews hb8 ⟨_, rfl⟩
           have c9 := HC0.out _ hb9
           clear h9)
        | (go_at_call 11; refine (HIM.out _ hb9).mono ?_
           rintro e w10 ⟨rfl, r10, b10⟩
           have hb10 := hb9.trans (b10.mono hb9.size)
           have c10 := HC0.out _ hb10
           have HS10 := Lib.hid (Lg.rowSs (B := w10.heap.size) r10 r10.lt)
           rw [HL6.out] at HS10
           clear r10 b10)
        | (go_at_call 16; refine (Lg.same_any _ _ _ _ _ _ w10.heap.size D' base' w10 HS10.out (HBB.out _ hb10) (Nat.le_refl _) hN2).mono ?_
           rw [HSB.out]
           rintro e w11 ⟨rfl, b11⟩
           have hb11 := hb10.trans (b11.mono hb10.size)))
      all_goals
        go_wp2
        go_roundw
        case rel => exact ⟨k + 1, h1, by push_cast; rfl, k', c', D', V', v', gb', cb', gn', cn', base', now', HD6.out.below hb11, HR6.out.below hb11, HW6.out, HWB6.out, HL6.out, HAG6.out, by have h2 := HC6.out; have h3 := HC.out; omega, by have h2 := HK6.out; have h3 := HK.out; omega, HB6.out.trans (hb11.mono HB6.out.size)⟩
        case measure => simp only [intOf]; omega
    · have hnlt : ¬ (k : Int) < (m : Int) := by omega
      obtain ⟨K, c, D, V, v, gb, cb, gn, cn, base, now, dv, rd, hwn, hwb, hdl, ag, hc, hK, hb⟩ := hst
      clear dv rd hwn hwb hdl ag hc hK
      go_wp2
      go_ret
      exact ⟨rfl, hb⟩

set_option maxRecDepth 100000 in
theorem lifted (os : Os) (started : os.Started) (H : Type) (enc : TypeId × Value → H) :
    ReturnsInHanded {} Tryz.checked os 3 .any (Rows.dealPlaysSpec.pre6 enc Tryz.prog Tryz.f3 Rows.dealPlaysRow.domain false) (Rows.dealPlaysSpec.post enc Tryz.prog Tryz.f3 false true false false) := by
  refine returnsInHanded_of_change_sized (C := Tryz.checked) own started (by kernel_rfl) Tryz.func3
    (ChangeSpec.witness6 (enc := enc) (C := Tryz.checked) false ⟨#[], #[.int .i64 0, .slice none 0 0], []⟩ 8 (by kernel_rfl) (by kernel_rfl) (by kernel_rfl) (by kernel_rfl)) ?_
  intro W base args ds gs before hval0 hW hcnd hsz0 _
  have hval : ∀ (j : Nat) t v, Tryz.f3.params[j]? = some t → args[j]? = some v → Value.okWide Tryz.prog W .any base t v := hval0
  have hW' := hW
  obtain ⟨p, q, hA0, hV, rfl, hfz, hnd⟩ := hW
  have hA : DataW.TrodAll enc Tryz.prog W 0 (fun _ => true) true Tryz.f3.params.toList args.toList ds p := hA0
  rw [Tryz.params3] at hA hval
  obtain ⟨v0, vs0, d0, ds0, p0, q0, hargs, rfl, rfl, h0, r0⟩ := trodAll_cons hA
  obtain ⟨v1, vs1, d1, ds1, p1, q1, rfl, rfl, rfl, h1, r1⟩ := trodAll_cons r0
  obtain ⟨rfl, rfl, rfl⟩ := trodAll_nil r1
  obtain rfl : args = #[v0, v1] := by cases args; simp_all
  obtain ⟨rfl, rfl⟩ := trodVars_none hV
  obtain ⟨n0, rfl, rfl, rfl, wn0⟩ := open_int Tryz.underlying3 (hval 0 3 v0 rfl rfl) h0
  have lt1 : ∀ x ∈ p1, x.block < W.heap.size := by obtain ⟨m, hm⟩ := h1; exact DataW.trod_lt m _ _ _ hm
  obtain ⟨a1, len1, cap1, rfl⟩ := okWide_slice Tryz.underlying22 (hval 1 22 v1 rfl rfl)
  obtain ⟨l1, w1⟩ := ops_open h1
  clear hA0 hval0
  refine (walk n0 a1 len1 cap1 l1 W (i64_of_wf wn0) w1).mono fun e W' ⟨he, bel⟩ => ?_
  subst he
  exact ⟨_, rfl, _, _, _, [], _, [], hW', trodAll_mk1 (shut_bool Tryz.underlying4 _), (trodAll_cons_mk (shut_int Tryz.underlying3 wn0) (trodAll_cons_mk (Below.trod laidOut (by kernel_rfl) (of_decide_eq_true (by kernel_rfl)) h1 bel lt1) trodAll_mk0)), rfl, bel.frame _, fun h => by cases h⟩

theorem over : Rows.dealPlaysRow.holds Tryz.pinned (OpenSpec.ofChange Rows.dealPlaysSpec) :=
  OpenClaim.holds_of_wide 3 Tryz.f3 rfl rfl rfl rfl rfl rfl rfl ⟨rfl, rfl, rfl, rfl, rfl⟩ rfl rfl rfl rfl rfl (by kernel_rfl) Tryz.func3 (by kernel_rfl)
    (of_decide_eq_true (by kernel_rfl)) (by unfold Func.isWrapper; first | (rw [if_pos (by decide +kernel)]; kernel_rfl) | (rw [if_neg (by decide +kernel)]; exact ⟨rfl, rfl⟩))
    (fun os started H enc _ => lifted os started H enc)

end Go.Proofs.YtapjbffhihhnbaaGreat.Dl.dealPlays
namespace Go.Proofs.YtapjbffhihhnbaaGreat
theorem dealPlays_proved : Rows.DealPlaysSaid := Dl.dealPlays.over
#print axioms dealPlays_proved
end Go.Proofs.YtapjbffhihhnbaaGreat
