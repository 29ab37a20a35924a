/-
  THE LAW StockPlays: what is taken and given back, and what blocks are then, in whatever row, of any marks. It holds for every input.
-/
import Derived.Test.YtbkgfkemjhaopaaGreatFF
import Derived.Deep.RegionHeld3
set_option linter.unusedVariables false
set_option linter.unusedSimpArgs false
namespace Go.Proofs.YtbkgfkemjhaopaaGreat.Dl.stockPlays
open Go.ChangeShapes Go.WideShapes Go.ChangeAt Go.RowKit
open Go.ChangeMaps (open_string shut_string)
open Sl (Turns SlabAt)
open Lg (FS LogAt Whole ownB bcell newD newD_len newD_whole)
open Kr (I64)

/-- what holds behind some steps. -/
def PlaySt (w wr : World) (B d q p pd pm R r g N : Nat) (D base : List ByteArray) : Prop := ∃ V now, St w wr B d q p pd pm R r ⟨g, []⟩ N D V base now ∧ Agree N V D now base

set_option maxRecDepth 100000 in
set_option maxHeartbeats 8000000 in
theorem walk (n : Int) (s : ByteArray) (a : Option Addr) (len cap : Nat) (l : List OpS) (w : World) (_hn : -9223372036854775808 ≤ n ∧ n ≤ 9223372036854775807) (hs : s.size ≤ 140737488355328) (ho : OpsAt w w.heap.size a len l ∧ len ≤ cap) :
    Calls Tryz.prog 3 #[.int .i64 n, .string s, .slice a len cap] w fun e w' => e = .returned (.bool true) ∧ Below w.heap.size w w' := by
  obtain ⟨hA, hnc⟩ := ho
  obtain ⟨m, hm⟩ : ∃ m, m = min len 60 := ⟨_, rfl⟩
  have hm60 : m ≤ 60 := by omega
  have HA := Lib.hid (hA.take m (by omega))
  generalize l.take m = ops at *
  have HL := Lib.hid (fun W => lives13_any W)
  have HZ := Lib.hid (fun W => size13_any n W)
  have HE := Lib.hid (fun W => early13_any a len cap W hnc)
  rw [← hm] at HE
  obtain ⟨hN1, hN2⟩ := sizeN_b n
  generalize sizeN n = N at *
  have HBG := Lib.hid (fun W => begin13_any N s W hN1 hN2 hs)
  unfold RetBg at HBG
  generalize newD N = D0 at *
  generalize V0 N s = VV at *
  clear hA hm hnc _hn hN1 hN2 hs
  go_enter Tryz.func3, Tryz.ntmps3
  go_wp2_with (first
    | (go_at_call 7; refine (HL.out _).mono ?_; rintro e w1 ⟨rfl, b1⟩
       have HB1 := Lib.hid b1
       clear b1)
    | (go_at_call 9; refine (HZ.out w1).mono ?_; rintro e w2 ⟨rfl, h2⟩; subst h2)
    | (go_at_call 8; refine (HBG.out _).mono ?_; rintro e w3 ⟨B, d, q, p, pd, pm, R, r, g, rfl, s3, a3⟩
       have HS3 : Hid (PlaySt w w3 B d q p pd pm R r g N D0 D0) := ⟨_, _, s3.from HB1.out, a3⟩
       clear s3 a3)
    | (go_at_call 10; refine (HE.out _).mono ?_; rintro e w4 ⟨rfl, h4⟩; subst h4))
  have HB0 : Hid (∀ wr, PlaySt w wr B d q p pd pm R r g N D0 D0 → Below w.heap.size w wr) := fun wr ⟨V, now, st, _⟩ => st.hb
  clear HBG HL HZ HE HB1
  go_loopw [8] (fun iv wr => ∃ k : Nat, k ≤ m ∧ iv = .int .i64 (k : Int) ∧ PlaySt w wr B d q p pd pm R r g N D0 D0) (fun iv _ => m - (intOf iv).toNat)
  case atStart => exact ⟨0, Nat.zero_le _, rfl, HS3.out⟩
  case round =>
    obtain ⟨k, hk, rfl, V, now, st, ag⟩ := hrel
    have ST := Lib.hid st
    have AG := Lib.hid ag
    by_cases h1 : k < m
    · have hlt : (k : Int) < (m : Int) := by omega
      have x0 : (0 : Int) ≤ (k : Int) := by omega
      obtain ⟨b, o, rfl, hbB, c0, c1, hfit⟩ := HA.out.op h1
      have e0 : wr.cell? ⟨b, o + k * 2, none⟩ = some (.int .i64 (ops.getD k OpS.z).k) := (st.hb.cell (p := ⟨b, o + k * 2, none⟩) (by show b < _; exact hbB)).trans c0
      have e1 : wr.cell? ⟨b, o + k * 2 + 1, none⟩ = some (.int .i64 (ops.getD k OpS.z).n) := (st.hb.cell (p := ⟨b, o + k * 2 + 1, none⟩) (by show b < _; exact hbB)).trans c1
      have stp := step13_any (ops.getD k OpS.z) st ag hfit
      have STP : Hid (Calls Tryz.prog 11 #[.pointer (some ⟨g, 0, none⟩), opv (ops.getD k OpS.z)] wr fun e w' => e = .returned (.bool true) ∧ ∃ V' now', St w w' B d q p pd pm R r ⟨g, []⟩ N D0 V' D0 now' ∧ Agree N V' D0 now' D0) :=
        stp.mono fun e w' ⟨h1, now', h2, h3⟩ => ⟨h1, _, now', h2, h3⟩
      generalize ops.getD k OpS.z = op at *
      clear st ag c0 c1 hfit stp
      unfold opv at *
      go_wp2_with (go_at_call 11; refine STP.out.mono ?_; rintro e w6 ⟨rfl, V', now', s6, a6⟩)
      go_roundw
      case rel => exact ⟨k + 1, h1, by push_cast; rfl, V', now', s6, a6⟩
      case measure => simp only [intOf]; omega
    · have hnlt : ¬ (k : Int) < (m : Int) := by omega
      have sm := same13_any ST.out AG.out
      have SM : Hid (Calls Tryz.prog 12 #[.pointer (some ⟨g, 0, none⟩)] wr fun e w' => e = .returned (.bool true) ∧ Below wr.heap.size wr w') := sm
      clear st ag sm
      go_wp2_with (go_at_call 12; refine SM.out.mono ?_; rintro e w6 ⟨rfl, b6⟩)
      go_ret
      exact ⟨rfl, ST.out.hb.trans (b6.mono ST.out.hb.size)⟩

set_option maxRecDepth 100000 in
theorem lifted (os : Os) (started : os.Started) (H : Type) (enc : TypeId × Value → H) :
    ReturnsInHanded {} Tryz.checked os 3 .any (Rows.stockPlaysSpec.pre6 enc Tryz.prog Tryz.f3 Rows.stockPlaysRow.domain false) (Rows.stockPlaysSpec.post enc Tryz.prog Tryz.f3 false true false false) := by
  refine returnsInHanded_of_change_sized (C := Tryz.checked) own started (by kernel_rfl) Tryz.func3
    (ChangeSpec.witness6 (enc := enc) (C := Tryz.checked) false ⟨#[], #[.int .i64 0, .string ByteArray.empty, .slice none 0 0], []⟩ 8 (by kernel_rfl) (by kernel_rfl) (by kernel_rfl) (by kernel_rfl)) ?_
  intro W base args ds gs before hval0 hW hcnd hsz0 _
  have hval : ∀ (j : Nat) t v, Tryz.f3.params[j]? = some t → args[j]? = some v → Value.okWide Tryz.prog W .any base t v := hval0
  have hsz : (DataW.weightsEach Tryz.prog (Tryz.f3.params.toList ++ Rows.stockPlaysSpec.plain.varTypes Tryz.prog) (ds ++ gs)).all (· ≤ reachBytes) = true := hsz0
  have hW' := hW
  obtain ⟨p, q, hA0, hV, rfl, hfz, hnd⟩ := hW
  have hA : DataW.TrodAll enc Tryz.prog W 0 (fun _ => true) true Tryz.f3.params.toList args.toList ds p := hA0
  rw [Tryz.params3] at hA hval hsz
  obtain ⟨v0, vs0, d0, ds0, p0, q0, hargs, rfl, rfl, h0, r0⟩ := trodAll_cons hA
  obtain ⟨v1, vs1, d1, ds1, p1, q1, rfl, rfl, rfl, h1, r1⟩ := trodAll_cons r0
  obtain ⟨v2, vs2, d2, ds2, p2, q2, rfl, rfl, rfl, h2, r2⟩ := trodAll_cons r1
  obtain ⟨rfl, rfl, rfl⟩ := trodAll_nil r2
  obtain rfl : args = #[v0, v1, v2] := by cases args; simp_all
  obtain ⟨rfl, rfl⟩ := trodVars_none hV
  obtain ⟨n0, rfl, rfl, rfl, wn0⟩ := open_int Tryz.underlying3 (hval 0 3 v0 rfl rfl) h0
  obtain ⟨s1, rfl, rfl, rfl, hs1⟩ := open_string Tryz.underlying9 (hval 1 9 v1 rfl rfl) h1
  have b1 : s1.size ≤ 140737488355328 := by
    have := sized_string hsz (j := 1) (t := 9) rfl rfl
    rw [Array.length_toList] at this
    simp only [reachBytes] at this
    exact Nat.le_trans this (by decide)
  have lt2 : ∀ x ∈ p2, x.block < W.heap.size := by obtain ⟨m, hm⟩ := h2; exact DataW.trod_lt m _ _ _ hm
  obtain ⟨a2, len2, cap2, rfl⟩ := okWide_slice Tryz.underlying22 (hval 2 22 v2 rfl rfl)
  obtain ⟨l2, w2⟩ := ops_open h2
  clear hA0 hval0
  refine (walk n0 s1 a2 len2 cap2 l2 W (i64_of_wf wn0) b1 w2).mono fun e W' ⟨he, bel⟩ => ?_
  subst he
  exact ⟨_, rfl, _, _, _, [], _, [], hW', trodAll_mk1 (shut_bool Tryz.underlying4 _), (trodAll_cons_mk (shut_int Tryz.underlying3 wn0) (trodAll_cons_mk (shut_string Tryz.underlying9 hs1) (trodAll_cons_mk (Below.trod laidOut (by kernel_rfl) (of_decide_eq_true (by kernel_rfl)) h2 bel lt2) trodAll_mk0))), rfl, bel.frame _, fun h => by cases h⟩

theorem over : Rows.stockPlaysRow.holds Tryz.pinned (OpenSpec.ofChange Rows.stockPlaysSpec) :=
  OpenClaim.holds_of_wide 3 Tryz.f3 rfl rfl rfl rfl rfl rfl rfl ⟨rfl, rfl, rfl, rfl, rfl⟩ rfl rfl rfl rfl rfl (by kernel_rfl) Tryz.func3 (by kernel_rfl)
    (of_decide_eq_true (by kernel_rfl)) (by unfold Func.isWrapper; first | (rw [if_pos (by decide +kernel)]; kernel_rfl) | (rw [if_neg (by decide +kernel)]; exact ⟨rfl, rfl⟩))
    (fun os started H enc _ => lifted os started H enc)

end Go.Proofs.YtbkgfkemjhaopaaGreat.Dl.stockPlays
namespace Go.Proofs.YtbkgfkemjhaopaaGreat
theorem stockPlays_proved : Rows.StockPlaysSaid := Dl.stockPlays.over
#print axioms stockPlays_proved
end Go.Proofs.YtbkgfkemjhaopaaGreat
