/-
  LogCommits: without a crash, which commits end well, in how many calls, and what blocks are behind them, also when the log is opened anew, is what the document says. Condition (of the second form): what comes in is of bulk at most 1048576.
-/
import Derived.Test.YtpljifeebbeakaaLFrame
namespace Go.Proofs.Ytpljifeebbeakaa.logCommits
open Go.ChangeShapes Go.WideShapes Go.ChangeAt Go.RowKit
open Go.ChangeMaps (open_string shut_string)
open Sl (St SlabAt Turns RowAt)

theorem u64_wrap (x : Int) : IntKind.u64.wrap x = x % 18446744073709551616 := by
  simp [IntKind.wrap, IntKind.signed, IntKind.bits]
theorem mod_num (kd : Int) (m : Int) (hm : 0 < m ∧ m ≤ 9223372036854775807) : wrap64 ((IntKind.u64.wrap kd).tmod m) = (kd % 18446744073709551616) % m := by
  rw [u64_wrap]
  have h0 : 0 ≤ kd % 18446744073709551616 := Int.emod_nonneg _ (by decide)
  rw [Int.tmod_eq_emod_of_nonneg h0]
  have h1 := Int.emod_nonneg (kd % 18446744073709551616) (show m ≠ 0 by omega)
  have h2 := Int.emod_lt_of_pos (kd % 18446744073709551616) hm.1
  generalize kd % 18446744073709551616 % m = z at *
  unfold wrap64
  omega
theorem own_sliceC {w : World} {base n : Nat} {v : Value} {xs : List Value} (h : w.ownsRow base 58 2 v n xs) : ∃ A c, v = .slice A n c ∧ n ≤ c ∧ ∀ a, A = some a → base ≤ a.block := by
  rcases h.2 with ⟨rfl, rfl⟩ | ⟨g, cap, cur, rfl, hb, _, hc, _⟩
  · exact ⟨none, 0, rfl, Nat.le_refl _, fun a ha => by cases ha⟩
  · exact ⟨_, cap, rfl, hc, fun a ha => by cases ha; exact hb⟩
theorem out_of {A : Option Addr} {base : Nat} {L : List Nat} (h : ∀ a, A = some a → base ≤ a.block) (hL : ∀ j ∈ L, j < base) : Out A L := fun a ha hj => by
  have h1 := h a ha
  have h2 := hL _ hj
  omega

/-- what holds ahead of a batch: the slab, the log, the image that is kept, how many calls and commits so far. -/
structure CmAt (w wr : World) (q p pd pm N k : Nat) (v8 v9 v10 : Value) (D I : List ByteArray) (C K : Nat) (A8 : Option Addr) (c8 : Nat) : Prop where
  i : v10 = .int .i64 (k : Int)
  cnt : v9 = .int .i64 (K : Int)
  img : v8 = .slice A8 N c8
  ss : SsAt wr wr.heap.size A8 N I
  out : Out A8 [q, p, pd, pm]
  slab : SlabAt wr p pd pm (FS D C)
  log : LogAt wr q p K
  whole : Whole D
  len : D.length = N
  one : D.getD 1 ⟨#[]⟩ = z128
  same : sameB D I = true
  calls : C ≤ 100 * k
  cms : K ≤ k
  bel : Below w.heap.size w wr

set_option maxRecDepth 100000 in
set_option maxHeartbeats 8000000 in
theorem walk (A : Option Addr) (n c : Nat) (l : List Bat) (n1 : Int) (w : World) (hT : BatsAt w w.heap.size A n l ∧ n ≤ c) (_hn : -9223372036854775808 ≤ n1 ∧ n1 ≤ 9223372036854775807) :
    Calls Try.prog 3 #[.slice A n c, .int .i64 n1] w fun e w' => e = .returned (.bool true) ∧ Below w.heap.size w w' := by
  obtain ⟨hA, hnc⟩ := hT
  obtain ⟨j, hj⟩ : ∃ j : Nat, (j : Int) = (n1 % 18446744073709551616) % 100 := ⟨((n1 % 18446744073709551616) % 100).toNat, by omega⟩
  have hj1 : j < 100 := by omega
  have HJ : Hid (wrap64 ((IntKind.u64.wrap n1).tmod 100) = (j : Int)) := by show _ = _; rw [mod_num _ _ (by decide), hj]
  obtain ⟨N, hN⟩ : ∃ N, N = 64 + j := ⟨_, rfl⟩
  have HJ2 : Hid (wrap64 (64 + wrap64 ((IntKind.u64.wrap n1).tmod 100)) = (N : Int)) := by
    show _ = _
    rw [HJ.out, hN]
    unfold wrap64
    omega
  have hN1 : 64 ≤ N := by omega
  have hN2 : N < 164 := by omega
  obtain ⟨m, hm⟩ : ∃ m, m = min n 25 := ⟨_, rfl⟩
  have HM := Lib.hid hm
  have hm25 : m ≤ 25 := by omega
  have hmn : m ≤ n := by omega
  have hmc : m ≤ c := by omega
  have HA := Lib.hid hA
  have hd0 : (newD N).getD 1 ⟨#[]⟩ = z128 := newD_get (by omega)
  obtain ⟨k1, k2, k3⟩ := calm_open hd0 0
  have K0 := Lib.hid hd0
  have K1 := Lib.hid k1
  have K2 := Lib.hid k2
  have K3 := Lib.hid k3
  have HLN : Hid ((newD N).length = N) := newD_len N
  have HWN : Hid (Whole (newD N)) := newD_whole N
  have HNEW := Lib.hid (new_calm N (by omega))
  generalize newD N = D0 at *
  clear hA hm hj hN hj1 HJ hd0 k1 k2 k3
  go_enter Try.func3, Try.ntmps3
  go_wp2_with fail
  refine (lives_any w).mono ?_
  rintro e w1 ⟨rfl, b1⟩
  have HB1 := Lib.hid b1
  clear b1
  go_wp2_with fail
  refine (early_any A n c w1 hnc).mono ?_
  rintro e w2 ⟨rfl, rfl⟩
  rw [← HM.out]
  go_wp2_with fail
  rw [HJ2.out]
  refine (HNEW.out _).mono ?_
  rintro e w3 ⟨p, pd, pm, rfl, s3, hp, hpd, hpm, b3⟩
  have HB3 := Lib.hid (HB1.out.trans (b3.mono HB1.out.size))
  have OP := Lib.hid (open_any p pd pm D0 0 w3 s3 HWN.out (by omega))
  have h3 : p < w3.heap.size ∧ pd < w3.heap.size ∧ pm < w3.heap.size := ⟨s3.lt_p, s3.lt_d, s3.lt_m⟩
  have hs1 := HB1.out.size
  clear s3 b3 HNEW HJ2
  go_wp2_with fail
  refine OP.out.mono ?_
  rintro e w4 ⟨t4, _, _, hx⟩
  obtain ⟨q, rfl, hq, Q4, s4⟩ := hx (by rw [HLN.out]; omega) K1.out
  rw [K2.out, K3.out] at s4
  have HB4 := Lib.hid (HB3.out.trans (t4.below HB3.out.size (by simp; omega)))
  have S4 := Lib.hid s4
  have Q4 := Lib.hid Q4
  have IM := Lib.hid (image_calm p pd pm D0 0 w4 s4)
  rw [HLN.out] at IM
  have hq4 : q < w4.heap.size := Q4.out.lt
  have hz4 := t4.size
  have HQN : Hid (q ∉ [p, pd, pm]) := by show _ ∉ _; simp; omega
  clear t4 hx s4 OP
  go_wp2_with fail
  refine IM.out.mono ?_
  rintro e w5 ⟨rfl, r5, b5⟩
  have HB5 := Lib.hid (HB4.out.trans (b5.mono HB4.out.size))
  have hss5 := rowSs (B := w5.heap.size) r5 r5.lt
  rw [HLN.out] at hss5
  have HC5 : Hid (CmAt w w5 q p pd pm N 0 (.slice (some ⟨w4.heap.size, 0, none⟩) N N) (.int .i64 0) (.int .i64 0) D0 D0 0 0 (some ⟨w4.heap.size, 0, none⟩) N) :=
    ⟨rfl, rfl, rfl, hss5, by intro a ha; cases ha; simp; omega, S4.out.keptB (Turns.of_below [] b5), Q4.out.below b5 hq4, HWN.out, HLN.out, K0.out, same_refl D0, Nat.le_refl _, Nat.le_refl _, HB5.out⟩
  clear r5 b5 hss5 IM
  go_wp2
  go_loopw [8, 9, 10, 11, 12, 13, 14] (fun v8 v9 v10 _ _ _ _ wr => ∃ (k : Nat) (D I : List ByteArray) (C K : Nat) (A8 : Option Addr) (c8 : Nat), k ≤ m ∧ CmAt w wr q p pd pm N k v8 v9 v10 D I C K A8 c8) (fun _ _ v10 _ _ _ _ _ => m - (intOf v10).toNat)
  case atStart => exact ⟨0, D0, D0, 0, 0, _, N, Nat.zero_le _, HC5.out⟩
  case round =>
    obtain ⟨k, D, I, C, K, A8, c8, hk, rfl, rfl, rfl, ss, out, slab, log, whole, len, one, same, calls, cms, bel⟩ := hrel
    have SS := Lib.hid ss
    have OUT := Lib.hid out
    have SLAB := Lib.hid slab
    have LOG := Lib.hid log
    have WHOLE := Lib.hid whole
    have LEN := Lib.hid len
    have ONE := Lib.hid one
    have SAME := Lib.hid same
    have BEL := Lib.hid bel
    have hqw : q < wr.heap.size := log.lt
    have h4w : p < wr.heap.size ∧ pd < wr.heap.size ∧ pm < wr.heap.size := ⟨slab.lt_p, slab.lt_d, slab.lt_m⟩
    clear ss out slab log whole len one same
    by_cases h1 : k < m
    · have hlt : (k : Int) < (m : Int) := by omega
      have x0 : (0 : Int) ≤ (k : Int) := by omega
      obtain ⟨b, o, A1, c1, A2, c2, rfl, hbB, d0, d1, hi, hy, hz⟩ := HA.out.2 k (by omega)
      have e0 := bcell bel d0 hbB
      have e1 := bcell bel d1 hbB
      have HCH := Lib.hid (changes_any A1 A2 _ c1 _ c2 w.heap.size _ _ wr (hi.below bel (Nat.le_refl _)) (hy.keep fun a ha => bel.cell ha) bel.size (by omega))
      have HFT : Hid (∀ x ∈ chgs (l.getD k Bat.z).zs (l.getD k Bat.z).bs, x.fit) := chgs_fit hi.2.1
      have HCL : Hid ((chgs (l.getD k Bat.z).zs (l.getD k Bat.z).bs).length ≤ 1048576) := by show _ ≤ _; rw [chgs_len]; exact hz
      have HCZ : Hid (∀ x ∈ chgs (l.getD k Bat.z).zs (l.getD k Bat.z).bs, x.dt.size = 128) := chgs_size
      unfold batV at HCH
      generalize chgs (l.getD k Bat.z).zs (l.getD k Bat.z).bs = cl at *
      generalize (l.getD k Bat.z).zs.length = nz at *
      generalize (l.getD k Bat.z).bs.length = nb at *
      clear d0 d1 hi hy hz bel
      go_wp2_with fail
      refine HCH.out.mono ?_
      rintro e w6 ⟨v11, rfl, ho6, b6⟩
      obtain ⟨A11, c11, rfl, hc11, ha11⟩ := own_sliceC ho6
      have hcs := ChsAt.of_own ho6 rfl HFT.out
      have CS := Lib.hid hcs
      have O11 : Hid (Out A11 [q, p, pd, pm]) := out_of ha11 (by simp; omega)
      have S6 := Lib.hid (SLAB.out.keptB (Turns.of_below [] b6))
      have Q6 := Lib.hid (LOG.out.below b6 LOG.out.lt)
      have I6 := Lib.hid ((SS.out.below b6 (Nat.le_refl _)).more b6.size)
      have B6 := Lib.hid (BEL.out.trans (b6.mono BEL.out.size))
      have CA6 := Lib.hid (calls_calm p pd pm D C w6 S6.out)
      have RIG := Lib.hid (fun (v : World) (h : ChsAt v v.heap.size A11 cl.length cl) => rright_any A11 cl.length c11 v.heap.size N cl v h (Nat.le_refl _) (by have := HCL.out; omega))
      clear ho6 b6 ha11 hcs HCH
      go_wp2_with fail
      refine CA6.out.mono ?_
      rintro e w7 ⟨rfl, rfl⟩
      clear CA6
      by_cases hr : rightC cl N = 0
      · by_cases hn0 : cl.length = 0
        · have hcl : cl = [] := List.eq_nil_of_length_eq_zero hn0
          subst hcl
          have NON := Lib.hid (commit_none q K p pd pm D C A11 c11 w6.heap.size w6 Q6.out S6.out CS.out (Nat.le_refl _))
          have e0 : rightC [] N = 0 := rfl
          go_wp2_with fail
          refine NON.out.mono ?_
          rintro e w8 ⟨rfl, b8⟩
          have CS8 := (CS.out.below b8 (Nat.le_refl _)).more b8.size
          have R8 := Lib.hid (RIG.out w8 CS8)
          rw [e0] at R8
          have S8 := Lib.hid (S6.out.keptB (Turns.of_below [] b8))
          have Q8 := Lib.hid (Q6.out.below b8 Q6.out.lt)
          have I8 := Lib.hid ((I6.out.below b8 (Nat.le_refl _)).more b8.size)
          have B8 := Lib.hid (B6.out.trans (b8.mono B6.out.size))
          have C8 := Lib.hid CS8
          clear b8 CS8 NON RIG e0
          go_wp2_with fail
          refine R8.out.mono ?_
          rintro e w9 ⟨rfl, b9⟩
          have S9 := Lib.hid (S8.out.keptB (Turns.of_below [] b9))
          have Q9 := Lib.hid (Q8.out.below b9 Q8.out.lt)
          have I9 := Lib.hid ((I8.out.below b9 (Nat.le_refl _)).more b9.size)
          have C9 := Lib.hid ((C8.out.below b9 (Nat.le_refl _)).more b9.size)
          have B9 := Lib.hid (B8.out.trans (b9.mono B8.out.size))
          have WI := Lib.hid (with_any A8 A11 N c8 0 c11 w9.heap.size I [] w9 I9.out C9.out (Nat.le_refl _) (by omega) (by omega) (by intro x hx; cases hx) (by omega))
          have hset : setL I [] = I := rfl
          rw [hset] at WI
          clear b9 R8 hset
          go_wp2_with fail
          refine WI.out.mono ?_
          rintro e w10 ⟨v10', rfl, ho10, b10⟩
          obtain ⟨A10, c10, rfl, hc10, ha10⟩ := own_sliceS ho10
          have hss10 := own_ss ho10
          have HIL := I9.out.len
          rw [HIL] at hss10 ⊢
          have SB := Lib.hid (S9.out.keptB (Turns.of_below [] b10))
          have QB := Lib.hid (Q9.out.below b10 Q9.out.lt)
          have IB := Lib.hid hss10
          have BB := Lib.hid (B9.out.trans (b10.mono B9.out.size))
          have hq9 : q < w9.heap.size := Q9.out.lt
          have hp9 : p < w9.heap.size ∧ pd < w9.heap.size ∧ pm < w9.heap.size := ⟨S9.out.lt_p, S9.out.lt_d, S9.out.lt_m⟩
          have OB : Hid (Out A10 [q, p, pd, pm]) := out_of ha10 (by simp; omega)
          have WB := Lib.hid WHOLE.out
          have LB := Lib.hid LEN.out
          have OB1 := Lib.hid ONE.out
          have MB := Lib.hid SAME.out
          have CB : Hid (C ≤ 100 * (k + 1)) := by show _ ≤ _; omega
          have KB : Hid (K ≤ k + 1) := by show _ ≤ _; omega
          have CC0 := Lib.hid (calls_any 0 w10 (by omega))
          clear ho10 b10 hss10 ha10 HIL WI
          go_wp2_with fail
          refine CC0.out.mono ?_
          rintro e w11 ⟨rfl, rfl⟩

          have CAL := Lib.hid (calls_calm p pd pm (D) (C) w10 SB.out)
          go_wp2_with fail
          refine CAL.out.mono ?_
          rintro e w20 ⟨rfl, rfl⟩
          have LOO := Lib.hid (Sl.loose_calm p pd pm (FS (D) (C)) w10 SB.out rfl)
          clear CAL
          go_wp2_with fail
          refine LOO.out.mono ?_
          rintro e w21 ⟨A21, c21, rfl, b21⟩
          have SB1 := Lib.hid (SB.out.keptB (Turns.of_below [] b21))
          have QB1 := Lib.hid (QB.out.below b21 QB.out.lt)
          have IB1 := Lib.hid ((IB.out.below b21 (Nat.le_refl _)).more b21.size)
          have BB1 := Lib.hid (BB.out.trans (b21.mono BB.out.size))
          have IMA := Lib.hid (image_calm p pd pm (D) (C) w21 SB1.out)
          rw [LB.out] at IMA
          clear b21 LOO
          go_wp2_with fail
          refine IMA.out.mono ?_
          rintro e w22 ⟨rfl, r22, b22⟩
          have SB2 := Lib.hid (SB1.out.keptB (Turns.of_below [] b22))
          have QB2 := Lib.hid (QB1.out.below b22 QB1.out.lt)
          have IB2 := Lib.hid ((IB1.out.below b22 (Nat.le_refl _)).more b22.size)
          have BB2 := Lib.hid (BB1.out.trans (b22.mono BB1.out.size))
          have hr22 := rowSs (B := w22.heap.size) r22 r22.lt
          rw [LB.out] at hr22
          have SAM := Lib.hid (same_any _ _ N N N c10 w22.heap.size (D) (I) w22 hr22 IB2.out (Nat.le_refl _) (by omega))
          rw [MB.out] at SAM
          clear r22 b22 hr22 IMA
          go_wp2_with fail
          refine SAM.out.mono ?_
          rintro e w23 ⟨rfl, b23⟩
          have SB3 := Lib.hid (SB2.out.keptB (Turns.of_below [] b23))
          have QB3 := Lib.hid (QB2.out.below b23 QB2.out.lt)
          have IB3 := Lib.hid ((IB2.out.below b23 (Nat.le_refl _)).more b23.size)
          have BB3 := Lib.hid (BB2.out.trans (b23.mono BB2.out.size))
          have COM := Lib.hid (lcommits_any q (K) p w23 QB3.out)
          clear b23 SAM
          go_wp2_with fail
          refine COM.out.mono ?_
          rintro e w24 ⟨rfl, rfl⟩
          clear COM
          go_wp2
          go_roundw
          case rel => exact ⟨k + 1, (D), (I), (C), (K), (A10), (c10), h1, by push_cast; rfl, by push_cast; rfl, rfl, IB3.out, OB.out, SB3.out, QB3.out, WB.out, LB.out, OB1.out, MB.out, CB.out, KB.out, BB3.out⟩
          case measure => simp only [intOf]; omega
        · have hn0' : 0 < cl.length := Nat.pos_of_ne_zero hn0
          obtain ⟨h40, hokl⟩ := rightC_0 hr
          have hrD : rightC cl D.length = 0 := by rw [LEN.out]; exact hr
          have hkk : k < 25 := by omega
          have YE := Lib.hid (commit_yes q K p pd pm D C A11 cl.length c11 w6.heap.size cl w6 Q6.out S6.out CS.out (Nat.le_refl _) (fun a ha hj => O11.out a ha (by simp at hj ⊢; omega)) HQN.out hrD hn0' (by omega) (by rw [LEN.out]; omega) (by omega))
          have WB : Hid (Whole (cmD D cl)) := whole_cm WHOLE.out HCZ.out (by omega)
          have LB : Hid ((cmD D cl).length = N) := by show _ = _; rw [cmD_len, LEN.out]
          have OB1 : Hid ((cmD D cl).getD 1 ⟨#[]⟩ = z128) := by
            show _ = _
            rw [cmD_one (by rw [LEN.out]; omega), head_nil]
          have MB : Hid (sameB (cmD D cl) (setL I cl) = true) := same_cm SAME.out (by omega)
          have HIN : Hid (InL N cl) := okL_in hokl
          generalize cmD D cl = E at *
          have g1 : decide ((0 : Int) < (cl.length : Int)) = true := by simp; omega
          have hlz : cl.length ≤ 40 := by omega
          obtain ⟨nc, hnc2⟩ : ∃ nc, nc = cl.length := ⟨_, rfl⟩
          have HNC := Lib.hid hnc2
          rw [← hnc2] at CS YE RIG g1 hn0' hlz ⊢
          clear hrD h40 hokl hnc2 hn0
          go_wp2_with fail
          refine YE.out.mono ?_
          rintro e w8 ⟨rfl, s8, q8, t8⟩
          have hO8 := OUT.out
          have CS8 := (CS.out.turns t8 O11.out).more t8.size
          have R8 := Lib.hid (RIG.out w8 CS8)
          rw [hr] at R8
          have S8 := Lib.hid s8
          have Q8 := Lib.hid q8
          have I8 := Lib.hid ((I6.out.turns t8 OUT.out).more t8.size)
          have hz6 := B6.out.size
          have B8 := Lib.hid (B6.out.trans (t8.below B6.out.size (by simp; omega)))
          have C8 := Lib.hid CS8
          clear s8 q8 t8 CS8 YE RIG hr hO8
          go_wp2_with fail
          refine R8.out.mono ?_
          rintro e w9 ⟨rfl, b9⟩
          have S9 := Lib.hid (S8.out.keptB (Turns.of_below [] b9))
          have Q9 := Lib.hid (Q8.out.below b9 Q8.out.lt)
          have I9 := Lib.hid ((I8.out.below b9 (Nat.le_refl _)).more b9.size)
          have C9 := Lib.hid ((C8.out.below b9 (Nat.le_refl _)).more b9.size)
          have B9 := Lib.hid (B8.out.trans (b9.mono B8.out.size))
          have WI := Lib.hid (with_any A8 A11 N c8 nc c11 w9.heap.size I cl w9 I9.out C9.out (Nat.le_refl _) (by omega) (by omega) HIN.out (by omega))
          have HIL : Hid ((setL I cl).length = N) := by show _ = _; rw [setL_len, I9.out.len]
          generalize setL I cl = J at *
          clear b9 R8
          go_wp2_with fail
          refine WI.out.mono ?_
          rintro e w10 ⟨v10', rfl, ho10, b10⟩
          obtain ⟨A10, c10, rfl, hc10, ha10⟩ := own_sliceS ho10
          have hss10 := own_ss ho10
          rw [HIL.out] at hss10 ⊢
          have SB := Lib.hid (S9.out.keptB (Turns.of_below [] b10))
          have QB := Lib.hid (Q9.out.below b10 Q9.out.lt)
          have IB := Lib.hid hss10
          have BB := Lib.hid (B9.out.trans (b10.mono B9.out.size))
          have hq9 : q < w9.heap.size := Q9.out.lt
          have hp9 : p < w9.heap.size ∧ pd < w9.heap.size ∧ pm < w9.heap.size := ⟨S9.out.lt_p, S9.out.lt_d, S9.out.lt_m⟩
          have OB : Hid (Out A10 [q, p, pd, pm]) := out_of ha10 (by simp; omega)
          have CB : Hid (C + 2 * nc + 6 ≤ 100 * (k + 1)) := by show _ ≤ _; omega
          have KB : Hid (K + 1 ≤ k + 1) := by show _ ≤ _; omega
          have CC0 := Lib.hid (calls_any nc w10 (by omega))
          rw [if_neg (show ¬ nc = 0 by omega)] at CC0
          clear ho10 b10 hss10 ha10 WI
          go_wp2_with fail
          refine CC0.out.mono ?_
          rintro e w11 ⟨rfl, rfl⟩
          have hsum : (C : Int) + (2 * (nc : Int) + 6) = ((C + 2 * nc + 6 : Nat) : Int) := by omega

          have CAL := Lib.hid (calls_calm p pd pm (E) (C + 2 * nc + 6) w10 SB.out)
          go_wp2_with fail
          refine CAL.out.mono ?_
          rintro e w20 ⟨rfl, rfl⟩
          have LOO := Lib.hid (Sl.loose_calm p pd pm (FS (E) (C + 2 * nc + 6)) w10 SB.out rfl)
          clear CAL
          go_wp2_with fail
          refine LOO.out.mono ?_
          rintro e w21 ⟨A21, c21, rfl, b21⟩
          have SB1 := Lib.hid (SB.out.keptB (Turns.of_below [] b21))
          have QB1 := Lib.hid (QB.out.below b21 QB.out.lt)
          have IB1 := Lib.hid ((IB.out.below b21 (Nat.le_refl _)).more b21.size)
          have BB1 := Lib.hid (BB.out.trans (b21.mono BB.out.size))
          have IMA := Lib.hid (image_calm p pd pm (E) (C + 2 * nc + 6) w21 SB1.out)
          rw [LB.out] at IMA
          clear b21 LOO
          go_wp2_with fail
          refine IMA.out.mono ?_
          rintro e w22 ⟨rfl, r22, b22⟩
          have SB2 := Lib.hid (SB1.out.keptB (Turns.of_below [] b22))
          have QB2 := Lib.hid (QB1.out.below b22 QB1.out.lt)
          have IB2 := Lib.hid ((IB1.out.below b22 (Nat.le_refl _)).more b22.size)
          have BB2 := Lib.hid (BB1.out.trans (b22.mono BB1.out.size))
          have hr22 := rowSs (B := w22.heap.size) r22 r22.lt
          rw [LB.out] at hr22
          have SAM := Lib.hid (same_any _ _ N N N c10 w22.heap.size (E) (J) w22 hr22 IB2.out (Nat.le_refl _) (by omega))
          rw [MB.out] at SAM
          clear r22 b22 hr22 IMA
          go_wp2_with fail
          refine SAM.out.mono ?_
          rintro e w23 ⟨rfl, b23⟩
          have SB3 := Lib.hid (SB2.out.keptB (Turns.of_below [] b23))
          have QB3 := Lib.hid (QB2.out.below b23 QB2.out.lt)
          have IB3 := Lib.hid ((IB2.out.below b23 (Nat.le_refl _)).more b23.size)
          have BB3 := Lib.hid (BB2.out.trans (b23.mono BB2.out.size))
          have COM := Lib.hid (lcommits_any q (K + 1) p w23 QB3.out)
          clear b23 SAM
          go_wp2_with fail
          refine COM.out.mono ?_
          rintro e w24 ⟨rfl, rfl⟩
          clear COM
          go_wp2
          go_roundw
          case rel => exact ⟨k + 1, (E), (J), (C + 2 * nc + 6), (K + 1), (A10), (c10), h1, by push_cast; rfl, by push_cast; rfl, rfl, IB3.out, OB.out, SB3.out, QB3.out, WB.out, LB.out, OB1.out, MB.out, CB.out, KB.out, BB3.out⟩
          case measure => simp only [intOf]; omega
      · have hrD : rightC cl D.length ≠ 0 := by rw [LEN.out]; exact hr
        have NO := Lib.hid (commit_no q K p pd pm D C A11 cl.length c11 w6.heap.size cl w6 Q6.out S6.out CS.out (Nat.le_refl _) (by have := HCL.out; omega) hrD)
        rw [LEN.out] at NO
        have g0 : (rightC cl N == 0) = false := by simpa using hr
        generalize rightC cl N = r at *
        clear hrD
        go_wp2_with fail
        refine NO.out.mono ?_
        rintro e w8 ⟨rfl, b8⟩
        have CS8 := (CS.out.below b8 (Nat.le_refl _)).more b8.size
        have R8 := Lib.hid (RIG.out w8 CS8)
        have S8 := Lib.hid (S6.out.keptB (Turns.of_below [] b8))
        have Q8 := Lib.hid (Q6.out.below b8 Q6.out.lt)
        have I8 := Lib.hid ((I6.out.below b8 (Nat.le_refl _)).more b8.size)
        have B8 := Lib.hid (B6.out.trans (b8.mono B6.out.size))
        clear b8 CS8 NO RIG
        go_wp2_with fail
        refine R8.out.mono ?_
        rintro e w9 ⟨rfl, b9⟩
        have SB := Lib.hid (S8.out.keptB (Turns.of_below [] b9))
        have QB := Lib.hid (Q8.out.below b9 Q8.out.lt)
        have IB := Lib.hid ((I8.out.below b9 (Nat.le_refl _)).more b9.size)
        have BB := Lib.hid (B8.out.trans (b9.mono B8.out.size))
        have OB := Lib.hid OUT.out
        have WB := Lib.hid WHOLE.out
        have LB := Lib.hid LEN.out
        have OB1 := Lib.hid ONE.out
        have MB := Lib.hid SAME.out
        have CB : Hid (C ≤ 100 * (k + 1)) := by show _ ≤ _; omega
        have KB : Hid (K ≤ k + 1) := by show _ ≤ _; omega
        clear b9 R8
        have CAL := Lib.hid (calls_calm p pd pm (D) (C) w9 SB.out)
        go_wp2_with fail
        refine CAL.out.mono ?_
        rintro e w20 ⟨rfl, rfl⟩
        have LOO := Lib.hid (Sl.loose_calm p pd pm (FS (D) (C)) w9 SB.out rfl)
        clear CAL
        go_wp2_with fail
        refine LOO.out.mono ?_
        rintro e w21 ⟨A21, c21, rfl, b21⟩
        have SB1 := Lib.hid (SB.out.keptB (Turns.of_below [] b21))
        have QB1 := Lib.hid (QB.out.below b21 QB.out.lt)
        have IB1 := Lib.hid ((IB.out.below b21 (Nat.le_refl _)).more b21.size)
        have BB1 := Lib.hid (BB.out.trans (b21.mono BB.out.size))
        have IMA := Lib.hid (image_calm p pd pm (D) (C) w21 SB1.out)
        rw [LB.out] at IMA
        clear b21 LOO
        go_wp2_with fail
        refine IMA.out.mono ?_
        rintro e w22 ⟨rfl, r22, b22⟩
        have SB2 := Lib.hid (SB1.out.keptB (Turns.of_below [] b22))
        have QB2 := Lib.hid (QB1.out.below b22 QB1.out.lt)
        have IB2 := Lib.hid ((IB1.out.below b22 (Nat.le_refl _)).more b22.size)
        have BB2 := Lib.hid (BB1.out.trans (b22.mono BB1.out.size))
        have hr22 := rowSs (B := w22.heap.size) r22 r22.lt
        rw [LB.out] at hr22
        have SAM := Lib.hid (same_any _ _ N N N c8 w22.heap.size (D) (I) w22 hr22 IB2.out (Nat.le_refl _) (by omega))
        rw [MB.out] at SAM
        clear r22 b22 hr22 IMA
        go_wp2_with fail
        refine SAM.out.mono ?_
        rintro e w23 ⟨rfl, b23⟩
        have SB3 := Lib.hid (SB2.out.keptB (Turns.of_below [] b23))
        have QB3 := Lib.hid (QB2.out.below b23 QB2.out.lt)
        have IB3 := Lib.hid ((IB2.out.below b23 (Nat.le_refl _)).more b23.size)
        have BB3 := Lib.hid (BB2.out.trans (b23.mono BB2.out.size))
        have COM := Lib.hid (lcommits_any q (K) p w23 QB3.out)
        clear b23 SAM
        go_wp2_with fail
        refine COM.out.mono ?_
        rintro e w24 ⟨rfl, rfl⟩
        clear COM
        go_wp2
        go_roundw
        case rel => exact ⟨k + 1, (D), (I), (C), (K), (A8), (c8), h1, by push_cast; rfl, by push_cast; rfl, rfl, IB3.out, OB.out, SB3.out, QB3.out, WB.out, LB.out, OB1.out, MB.out, CB.out, KB.out, BB3.out⟩
        case measure => simp only [intOf]; omega
    · have hnlt : ¬ (k : Int) < (m : Int) := by omega
      obtain ⟨j1, j2, j3⟩ := calm_open ONE.out C
      have J1 := Lib.hid j1
      have J2 := Lib.hid j2
      have J3 := Lib.hid j3
      have hC7 : C ≤ 700000 := by omega
      have OP := Lib.hid (open_any p pd pm D C wr SLAB.out WHOLE.out hC7)
      clear j1 j2 j3 HA
      go_wp2_with fail
      refine OP.out.mono ?_
      rintro e w8 ⟨t8, _, _, hx⟩
      obtain ⟨q8, rfl, hq8, Q8, s8⟩ := hx (by rw [LEN.out]; omega) J1.out
      rw [J2.out, J3.out] at s8
      have S8 := Lib.hid s8
      have hzw := BEL.out.size
      have B8 := Lib.hid (BEL.out.trans (t8.below BEL.out.size (by simp; omega)))
      have I8 := Lib.hid ((SS.out.turns t8 (fun a ha hj => OUT.out a ha (by simp at hj ⊢; omega))).more t8.size)
      have SZ := Lib.hid (lsize_any q8 0 p pd pm (FS D C) w8 Q8 s8)
      have hdl : (FS D C).dur.length = N := LEN.out
      rw [hdl] at SZ
      clear t8 hx s8 Q8 OP hdl bel
      go_wp2_with fail
      refine SZ.out.mono ?_
      rintro e w9 ⟨rfl, rfl⟩
      have IM := Lib.hid (image_calm p pd pm D C w8 S8.out)
      rw [LEN.out] at IM
      clear SZ
      go_wp2_with fail
      refine IM.out.mono ?_
      rintro e w9 ⟨rfl, r9, b9⟩
      have hr9 := rowSs (B := w9.heap.size) r9 r9.lt
      rw [LEN.out] at hr9
      have SA := Lib.hid (same_any _ _ N N N c8 w9.heap.size D I w9 hr9 ((I8.out.below b9 (Nat.le_refl _)).more b9.size) (Nat.le_refl _) (by omega))
      rw [SAME.out] at SA
      have B9 := Lib.hid (B8.out.trans (b9.mono B8.out.size))
      clear r9 b9 hr9 IM
      go_wp2_with fail
      refine SA.out.mono ?_
      rintro e w10 ⟨rfl, b10⟩
      have B10 := Lib.hid (B9.out.trans (b10.mono B9.out.size))
      clear b10
      go_wp2
      go_ret
      exact ⟨rfl, B10.out⟩
set_option maxRecDepth 100000 in
theorem contract (H : Type) (enc : TypeId × Value → H) (W : World) (base : Nat) (args : Array Value) (ds gs : List (DataW H)) (before : List MemPlace)
    (hval0 : ∀ (j : Nat) t v, Try.f3.params[j]? = some t → args[j]? = some v → Value.okWide Try.prog W .any base t v)
    (hW : DataW.Whole enc Try.prog Try.f3.params.toList Rows.logCommitsSpec.vars false W args.toList ds gs before) (hk : Rows.uptoSmall H (ds ++ gs) = true) :
    Calls Try.prog 3 args W fun e W' => ∃ v, e = .returned v ∧ Rows.logCommitsSpec.post enc Try.prog Try.f3 false true false false W args v W' := by
  have hval : ∀ (j : Nat) t v, Try.f3.params[j]? = some t → args[j]? = some v → Value.okWide Try.prog W .any base t v := hval0
  have hmost := bulk_most hk
  have hW' := hW
  obtain ⟨p, q, hA0, hV, rfl, hfz, hnd⟩ := hW
  have hA : DataW.TrodAll enc Try.prog W 0 (fun _ => true) true Try.f3.params.toList args.toList ds p := hA0
  rw [Try.params3] at hA hval
  obtain ⟨v0, vs0, d0, ds0, p0, q0, hargs, rfl, rfl, h0, r0⟩ := trodAll_cons hA
  obtain ⟨v1, vs1, d1, ds1, p1, q1, rfl, rfl, rfl, h1, r1⟩ := trodAll_cons r0
  obtain ⟨rfl, rfl, rfl⟩ := trodAll_nil r1
  obtain rfl : args = #[v0, v1] := by cases args; simp_all
  obtain ⟨rfl, rfl⟩ := trodVars_none hV
  have lt0 : ∀ x ∈ p0, x.block < W.heap.size := by obtain ⟨m, hm⟩ := h0; exact DataW.trod_lt m _ _ _ hm
  have m0 : Rows.uptoBulk d0 ≤ 1048576 := Nat.le_trans (bulk_part (by simp)) hmost
  obtain ⟨a0, len0, cap0, rfl⟩ := okWide_slice Try.underlying22 (hval 0 22 v0 rfl rfl)
  obtain ⟨l0, w0⟩ := bats_open h0 m0
  obtain ⟨n1, rfl, rfl, rfl, wn1⟩ := open_int Try.underlying3 (hval 1 3 v1 rfl rfl) h1
  clear hA0 hval0
  refine (walk a0 len0 cap0 l0 n1 W w0 (i64_of_wf wn1)).mono fun e W' ⟨he, bel⟩ => ?_
  subst he
  exact ⟨_, rfl, _, _, _, [], _, [], hW', trodAll_mk1 (shut_bool Try.underlying4 _), (trodAll_cons_mk (Below.trod laidOut (by kernel_rfl) (of_decide_eq_true (by kernel_rfl)) h0 bel lt0) (trodAll_cons_mk (shut_int Try.underlying3 wn1) trodAll_mk0)), rfl, bel.frame _, fun h => by cases h⟩

set_option maxRecDepth 100000 in
theorem lifted (os : Os) (started : os.Started) (H : Type) (enc : TypeId × Value → H) (F : Stop.Interp) :
    ReturnsInHanded {} Try.checked os 3 .any ((Rows.OpenSpec.upto Rows.logCommitsSpec).pre6 enc Try.prog Try.f3 Rows.logCommitsUptoRow.domain false) (((Rows.OpenSpec.upto Rows.logCommitsSpec).at F).post enc Try.prog Try.f3 false true false false) := by
  refine returnsInHanded_of_cond (C := Try.checked) (s := Rows.OpenSpec.upto Rows.logCommitsSpec) (k := Rows.uptoSmall) rfl own started (by kernel_rfl) Try.func3
    (OpenSpec.witness (enc := enc) (C := Try.checked) (s := Rows.OpenSpec.upto Rows.logCommitsSpec) (k := Rows.uptoSmall) rfl false ⟨#[], #[.slice none 0 0, .int .i64 0], []⟩ 8 (by kernel_rfl) (by kernel_rfl) (by kernel_rfl)
      (x := ([.nil, .lit (.int .i64 0)], [], [])) (by kernel_rfl) rfl (by kernel_rfl)) ?_
  intro W base args ds gs before hval hW _ hk _
  exact contract H enc W base args ds gs before hval hW hk

theorem over : Rows.logCommitsUptoRow.holds Try.pinned (Rows.OpenSpec.upto Rows.logCommitsSpec) :=
  OpenClaim.holds_of_cond 3 Try.f3 rfl rfl rfl rfl rfl rfl rfl ⟨rfl, rfl, rfl, rfl, rfl⟩ rfl rfl rfl rfl rfl (by kernel_rfl) Try.func3 (by kernel_rfl)
    (of_decide_eq_true (by kernel_rfl)) (by unfold Func.isWrapper; first | (rw [if_pos (by decide +kernel)]; kernel_rfl) | (rw [if_neg (by decide +kernel)]; exact ⟨rfl, rfl⟩))
    (fun os started H enc _ F => lifted os started H enc F)

end Go.Proofs.Ytpljifeebbeakaa.logCommits
namespace Go.Proofs.Ytpljifeebbeakaa
theorem logCommits_proved : Rows.LogCommitsUptoSaid := logCommits.over
#print axioms logCommits_proved
end Go.Proofs.Ytpljifeebbeakaa
