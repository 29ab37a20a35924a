/-
  WALK: the reference's Drop. Conditions: at most 10000 pages, at most 100000 entries in all.
-/
import Derived.Test.YtflijnhgonigjaaPRJoined
import Derived.Test.YtflijnhgonigjaaPDrop
namespace Go.Proofs.Ytflijnhgonigjaa
open Go.RowKit
set_option linter.unusedVariables false

theorem RetDP.own {w wr W : World} {base : Nat} {v : Value} {R : Pg} {z : Int} (h : OwnPg wr base v R) (hb : Below w.heap.size w wr) (hd : Drew wr W) : RetDP w (R, z, 0) (.returned (.tuple #[v, .int .i64 z, .int .i64 0])) W := by
  obtain ⟨A, c, rfl, hc, hP⟩ := h.pgs
  obtain ⟨q, rfl⟩ := hd
  exact ⟨A, c, rfl, hc, hP.keep (fun a _ => Drew.cells ⟨q, rfl⟩ a), Below.drews hb ⟨q, rfl⟩⟩
theorem RetPgs.dp {w W W' : World} {R : Pg} {e : Ending} {z : Int} (h : RetPgs W R e W') (hb : Below w.heap.size w W) : ∃ v, e = .returned v ∧ RetDP w (R, z, 0) (.returned (.tuple #[v, .int .i64 z, .int .i64 0])) W' := by
  obtain ⟨A, c, rfl, hc, hP, hb2⟩ := h
  exact ⟨_, rfl, A, c, rfl, hc, hP, hb.trans (hb2.mono hb.size)⟩

set_option maxRecDepth 100000 in
set_option maxHeartbeats 4000000 in
theorem rdrop_err (A : Option Addr) (n c B : Nat) (p : Pg) (s : ByteArray) (w : World) (hA : PgsAt w B A n p) (hB : B ≤ w.heap.size) (hn : n ≤ 10000) (hm : p.flatten.length ≤ 100000)
    (hno : ¬ (rightP p = true ∧ hasL p.flatten s = true)) :
    Calls Try.prog 23 #[.slice A n c, .string s] w (RetDP w (dropP p s)) := by
  have K14 := Lib.hid (rright_anyP A n c B p w hA hB (by omega) hm)
  have K11 := Lib.hid (fun W (hW : Below w.heap.size w W) => rfind_anyP A n c B p s W (hA.below hW hB) (Nat.le_trans hB hW.size) (by omega) hm)
  clear hA
  cases hr : rightP p with
  | false =>
    rw [dropP_1 hr]
    rw [hr] at K14
    clear hr hno
    go_enter Try.func23, Try.ntmps23
    go_wp2_with fail
    refine K14.out.mono ?_
    rintro e w1 ⟨rfl, b1⟩
    go_wp2
    go_ret3
    exact RetDP.err w 1 b1
  | true =>
    have hh : hasL p.flatten s = false := by
      cases h : hasL p.flatten s with
      | false => rfl
      | true => exact absurd ⟨hr, h⟩ hno
    have e2 : findP p s = (0, false) := findP_none hh
    rw [dropP_2 hr hh]
    rw [hr] at K14
    rw [e2] at K11
    clear hr hno hh e2
    go_enter Try.func23, Try.ntmps23
    go_wp2_with fail
    refine K14.out.mono ?_
    rintro e w1 ⟨rfl, b1⟩
    go_wp2_with fail
    refine (K11.out _ b1).mono ?_
    rintro e w2 ⟨rfl, b2⟩
    go_wp2
    go_ret3
    exact RetDP.err w 5 (b1.trans (b2.mono b1.size))

set_option maxRecDepth 100000 in
set_option maxHeartbeats 16000000 in
theorem rdrop_some (A : Option Addr) (n c B : Nat) (p : Pg) (s : ByteArray) (w : World) (hA : PgsAt w B A n p) (hB : B ≤ w.heap.size) (hn : n ≤ 10000) (hm : p.flatten.length ≤ 100000)
    (hr : rightP p = true) (hh : hasL p.flatten s = true) :
    Calls Try.prog 23 #[.slice A n c, .string s] w (RetDP w (dropP p s)) := by
  have hlen := hA.len
  have hp := has_ne hh
  obtain ⟨hk0, hk1⟩ := has_at hr hh
  have K14 := Lib.hid (rright_anyP A n c B p w hA hB (by omega) hm)
  have K11 := Lib.hid (fun W (hW : Below w.heap.size w W) => rfind_anyP A n c B p s W (hA.below hW hB) (Nat.le_trans hB hW.size) (by omega) hm)
  have HA := Lib.hid hA
  have HRL := Lib.hid (fun k (hk : k < n) => right_len' hr (i := k) (by rw [hlen]; exact hk))
  have hat : atP p s < p.length := atP_lt hp s
  have HAT : Hid (atP p s < n) := by show _ < _; rw [← hlen]; exact hat
  have HKO : Hid (∀ k, k < n → k ≠ atP p s → keepN s (p.getD k []) = p.getD k []) := fun k hk hne => keepN_other hr hp (by rw [hlen]; exact hk) hne
  have HKI : Hid (keepN s (p.getD (atP p s) []) = cutL (p.getD (atP p s) []) (kL (p.getD (atP p s) []) s)) := keepN_at (page_asc hr hat) hk0 hk1
  have HCL : Hid ((cutL (p.getD (atP p s) []) (kL (p.getD (atP p s) []) s)).length + 1 = (p.getD (atP p s) []).length) := by show _ = _; rw [cutL_len hk0]; omega
  have HFP : Hid (∀ k, k < n → ∀ e ∈ p.getD k [], e.fit) := fun k hk => by
    rw [pg_getD (by rw [hlen]; exact hk)]; exact hA.fits _ (List.getElem_mem _)
  have e2 : findP p s = (nodeOf p.flatten s, true) := by unfold findP; rw [if_pos ⟨hr, hh⟩]
  have HRES : Hid (dropP p s = (shrinkP p (atP p s) (cutL (p.getD (atP p s) []) (kL (p.getD (atP p s) []) s)), nodeOf p.flatten s, 0)) := by
    show _ = _; unfold dropP; rw [if_pos hr, if_pos hh]
  rw [HRES.out]
  rw [hr] at K14
  rw [e2] at K11
  generalize nodeOf p.flatten s = nd at *
  generalize cutL (p.getD (atP p s) []) (kL (p.getD (atP p s) []) s) = C at *
  generalize atP p s = I at *
  have HOO := Lib.hid (fun k (hk : k < n) => outTo_other (p := p) (i := I) C (k := k) (by rw [hlen]; exact hk))
  have HOA := Lib.hid (outTo_at (p := p) (i := I) C hat)
  have HON := Lib.hid (outTo_none (p := p) (i := I) C hat)
  have HOE : Hid (outTo p I C n = if C.length = 0 then p.take I ++ p.drop (I + 1) else p.set I C) := by show _ = _; rw [← hlen]; exact outTo_end C hat
  have HOL := Lib.hid (outTo_len p I C)
  have HOI := Lib.hid (outTo_lenI (p := p) (i := I) C hat)
  have HSETL : Hid ((p.set I C).length = n) := by show _ = _; rw [List.length_set, hlen]
  have HSETM : Hid (∀ l ∈ p.set I C, l.length ≤ 10000) := fun l hl => by
    rcases List.mem_or_eq_of_mem_set hl with h | rfl
    · have := flat_ge p h
      have h2 := (rightP_iff.1 hr).1 l h
      omega
    · have := HCL.out; have := HRL.out I HAT.out; omega
  clear hA hp hk0 hk1 e2 hr hh HRES hat hm hlen
  go_enter Try.func23, Try.ntmps23
  go_wp2_with fail
  refine K14.out.mono ?_
  rintro e w1 ⟨rfl, b1⟩
  go_wp2_with fail
  refine (K11.out _ b1).mono ?_
  rintro e w2 ⟨rfl, b2⟩
  have B2 := Lib.hid (b1.trans (b2.mono b1.size))
  clear b1 b2
  go_wp2
  go_loopw [9, 10, 11, 12, 13] (fun v a q _ _ wr => ∃ k : Nat, k ≤ n ∧ q = .int .i64 (k : Int) ∧ a = .int .i64 (markTo I C k) ∧ OwnPg wr w.heap.size v (outTo p I C k) ∧ Below w.heap.size w wr) (fun _ _ q _ _ _ => n - (intOf q).toNat)
  case atStart => exact ⟨0, by omega, rfl, by rw [markTo_zero], by rw [outTo_zero]; exact OwnPg.nil _ _, B2.out⟩
  case round =>
    obtain ⟨k, hk, rfl, rfl, hown, hb⟩ := hrel
    obtain ⟨A5, c5, rfl⟩ := hown.slice
    have hsz := hb.size
    by_cases hlt : k < n
    · have x1 : (k : Int) < (n : Int) := by omega
      have x2 : (0 : Int) ≤ (k : Int) := by omega
      obtain ⟨W1, hW1⟩ : ∃ W1, W1 = wr := ⟨_, rfl⟩
      subst hW1
      obtain ⟨b, o, A1, c1, rfl, hbB, hcell, hlc, hE1⟩ := HA.out.at_ hlt
      have D0 : Hid (W1.cell? ⟨b, o + k, none⟩ = some (.slice A1 (p.getD k []).length c1)) := bcell hb hcell (by show b < _; omega)
      have HE : Hid (EnsAt W1 B A1 (p.getD k []).length (p.getD k [])) := hE1.below hb hB
      have hBr : B ≤ W1.heap.size := Nat.le_trans hB hsz
      have hrl := HRL.out k hlt
      have hfp := Lib.hid (HFP.out k hlt)
      have HOWN := Lib.hid hown
      have HB := Lib.hid hb
      have HKOk := Lib.hid (HKO.out k hlt)
      have HOOk := Lib.hid (HOO.out k hlt)
      have HAL : Hid ((outTo p I C k).length ≤ 20000) := by show _ ≤ _; have := HOL.out k; omega
      have HKIk : Hid (k = I → keepN s (p.getD k []) = C) := fun h => by rw [h]; exact HKI.out
      have HCLk : Hid (k = I → C.length + 1 = (p.getD k []).length) := fun h => by rw [h]; exact HCL.out
      clear hown hb hcell hlc hE1 HRL HFP HKO HOO HOL HKI HCL
      generalize hpl : (p.getD k []).length = len at *
      generalize p.getD k [] = pg at *
      have HPL := Lib.hid hpl
      clear hpl
      go_wp2
      go_loopw [12, 13] (fun v2 q2 wr => ∃ j : Nat, j ≤ len ∧ q2 = .int .i64 (j : Int) ∧ wr.ownsRow W1.heap.size 47 2 v2 (keepN s (pg.take j)).length (ensCells (keepN s (pg.take j))) ∧ Below W1.heap.size W1 wr) (fun _ q2 _ => len - (intOf q2).toNat)
      case atStart => exact ⟨0, by omega, rfl, World.ownsRow_nil _ _ _ _, Below.refl _ _⟩
      case round =>
        obtain ⟨j, hj, rfl, hown2, hb2⟩ := hrel
        by_cases hjl : j < len
        · obtain ⟨b1, o1, rfl, hb1, g1, g2⟩ := HE.out.at_ hjl
          have d0 := bcell hb2 D0.out (by show b < _; omega)
          have d1 := bcell hb2 g1 (by show b1 < _; omega)
          have d2 := bcell hb2 g2 (by show b1 < _; omega)
          have HST : Hid (keepN s (pg.take (j + 1)) = keepN s (pg.take j) ++ (if eqB (pg.getD j En.z).nm s = true then [] else [pg.getD j En.z])) := keepN_step (by rw [HPL.out]; exact hjl)
          have HKL : Hid ((keepN s (pg.take j)).length ≤ 100000) := by
            show _ ≤ _
            have := keepN_len s (pg.take j)
            rw [List.length_take] at this; omega
          have HO2 := Lib.hid hown2
          have HB2 := Lib.hid hb2
          have hsz2 := hb2.size
          have y1 : (j : Int) < (len : Int) := by omega
          have y2 : (0 : Int) ≤ (j : Int) := by omega
          clear hown2 hb2 g1 g2
          generalize pg.getD j En.z = x at *
          obtain ⟨nm, z⟩ := x
          simp only at d1 d2 HST
          generalize hkk : keepN s (pg.take j) = acc2 at *
          clear hkk
          cases heq : eqB nm s with
          | true =>
            have HS : Hid (keepN s (pg.take (j + 1)) = acc2) := by show _ = _; rw [HST.out, heq]; simp
            have e1 : (nm.toList == s.toList) = true := heq
            clear HST heq
            go_wp2
            go_roundw
            case rel => exact ⟨j + 1, by omega, by go_num, by rw [HS.out]; exact HO2.out, HB2.out⟩
            case measure => simp [intOf]; omega
          | false =>
            have HS : Hid (keepN s (pg.take (j + 1)) = acc2 ++ [⟨nm, z⟩]) := by show _ = _; rw [HST.out, heq]; simp
            have e1 : (nm.toList == s.toList) = false := heq
            clear HST heq
            go_wp2_with (at_builtin; refine push_law rfl (.tmp 50) (.tmp 58) rfl W1.heap.size wr _ acc2 nm z rfl rfl HO2.out HKL.out hsz2 ?_)
            intro v3 w3 ho3 b3
            have HO3 : Hid (w3.ownsRow W1.heap.size 47 2 v3 (keepN s (pg.take (j + 1))).length (ensCells (keepN s (pg.take (j + 1))))) := by
              show World.ownsRow _ _ _ _ _ _ _
              rw [HS.out, List.length_append]; exact ho3
            have HB3 := Lib.hid (HB2.out.trans (b3.mono (Nat.le_refl _)))
            clear ho3 b3
            go_wp2
            go_roundw
            case rel => exact ⟨j + 1, by omega, by go_num, HO3.out, HB3.out⟩
            case measure => simp [intOf]; omega
        · have y1 : ¬ (j : Int) < (len : Int) := by omega
          obtain rfl : j = len := by omega
          have hke : keepN s (pg.take j) = keepN s pg := by rw [List.take_of_length_le (by rw [HPL.out]; exact Nat.le_refl _)]
          rw [hke] at hown2
          have d0 := bcell hb2 D0.out (by show b < _; omega)
          have HBW := Lib.hid (HB.out.trans (hb2.mono hsz))
          have hsz3 : w.heap.size ≤ wr.heap.size := HBW.out.size
          have HOW := Lib.hid (HOWN.out.below hb2)
          by_cases hkI : k = I
          · have hcl := HCLk.out hkI
            rw [HKIk.out hkI] at hown2
            by_cases hC : C.length = 0
            · obtain ⟨A6, c6, rfl, -⟩ := own_slice hown2
              have HM : Hid (markTo I C (k + 1) = markTo I C k) := by show _ = _; rw [markTo_none _ hC, markTo_none _ hC]
              have HQ : Hid (outTo p I C (k + 1) = outTo p I C k) := by show _ = _; rw [hkI]; exact HON.out hC
              rw [hC]
              clear hown2 hb2 hke hkI hcl
              generalize markTo I C k = mk at *
              generalize outTo p I C k = acc at *
              go_wp2
              go_roundw
              case rel => exact ⟨k + 1, by omega, by go_num, by rw [HM.out], by rw [HQ.out]; exact HOW.out, HBW.out⟩
              case measure => simp [intOf]; omega
            · obtain ⟨A6, c6, rfl, hsl⟩ := own_slE hown2 (fun e he => by rw [← HKIk.out hkI] at he; exact hfp.out e (keepN_mem he)) HOWN.out
              have HM : Hid (markTo I C (k + 1) = ((outTo p I C k).length : Int)) := by show _ = _; rw [hkI, markTo_at hC, HOI.out]
              have HQ : Hid (outTo p I C (k + 1) = outTo p I C k ++ [C]) := by show _ = _; rw [hkI]; exact HOA.out hC
              have HV := Lib.hid hsl
              have q1 : decide ((0 : Int) < ((C.length : Nat) : Int)) = true := by simp; omega
              have q2 : decide (0 < C.length) = true := by simp; omega
              have q3 : decide (((C.length : Nat) : Int) < (j : Int)) = true := by simp; omega
              have q4 : decide (C.length < j) = true := by simp; omega
              have q5 : (0 : Int) < ((C.length : Nat) : Int) := by omega
              have q6 : ((C.length : Nat) : Int) < (j : Int) := by omega
              clear hown2 hb2 hke hsl hC hcl hkI
              generalize C.length = ll at *
              generalize outTo p I C k = acc at *
              generalize hal : acc.length = al at *
              have hal2 := HAL.out
              go_wp2_with (at_builtin; refine pushP_law rfl (.tmp 78) (.tmp 80) rfl w.heap.size wr (.slice A5 al c5) acc [.slice A6 ll c6] [C] rfl 1 1 rfl HOW.out (PgV.single HV.out) rfl (by omega) (by omega) hsz3 ?_)
              intro v' w7 ho7 b7 hkp
              clear hkp
              rw [← HQ.out] at ho7
              obtain ⟨A7, c7, rfl⟩ := ho7.slice
              have HO7 := Lib.hid ho7
              have HB7 : Hid (Below w.heap.size w w7) := HBW.out.trans (b7.mono (Nat.le_refl _))
              clear ho7 b7
              go_wp2
              go_roundw
              case rel => exact ⟨k + 1, by omega, by go_num, by rw [HM.out], HO7.out, HB7.out⟩
              case measure => simp [intOf]; omega
          · rw [HKOk.out hkI] at hown2
            obtain ⟨A6, c6, rfl, hsl⟩ := own_slE hown2 hfp.out HOWN.out
            have HM := Lib.hid (markTo_other C hkI)
            have HQ := Lib.hid (HOOk.out hkI)
            have HV := Lib.hid hsl
            rw [HPL.out] at HV ⊢
            have q1 : decide ((0 : Int) < (j : Int)) = true := by simp; omega
            have q2 : decide (0 < j) = true := by simp; omega
            have q5 : (0 : Int) < (j : Int) := by omega
            clear hown2 hb2 hke hsl
            generalize markTo I C k = mk at *
            generalize outTo p I C k = acc at *
            generalize hal : acc.length = al at *
            have hal2 := HAL.out
            go_wp2_with (at_builtin; refine pushP_law rfl (.tmp 78) (.tmp 80) rfl w.heap.size wr (.slice A5 al c5) acc [.slice A6 j c6] [pg] rfl 1 1 rfl HOW.out (PgV.single HV.out) rfl (by omega) (by omega) hsz3 ?_)
            intro v' w7 ho7 b7 hkp
            clear hkp
            rw [← HQ.out] at ho7
            obtain ⟨A7, c7, rfl⟩ := ho7.slice
            have HO7 := Lib.hid ho7
            have HB7 : Hid (Below w.heap.size w w7) := HBW.out.trans (b7.mono (Nat.le_refl _))
            clear ho7 b7
            go_wp2
            go_roundw
            case rel => exact ⟨k + 1, by omega, by go_num, by rw [HM.out], HO7.out, HB7.out⟩
            case measure => simp [intOf]; omega
    · have x1 : ¬ (k : Int) < (n : Int) := by omega
      obtain rfl : k = n := by omega
      rw [HOE.out] at hown ⊢
      clear HOO HOA HON HOE HOL HOI HRL HKO HKI HFP
      by_cases hC : C.length = 0
      · rw [markTo_none _ hC]
        rw [if_pos hC] at hown ⊢
        have hres : shrinkP p I C = p.take I ++ p.drop (I + 1) := by unfold shrinkP; rw [if_pos hC]
        have HRES := Lib.hid hres
        have HOW := Lib.hid hown
        have HB := Lib.hid hb
        clear hown hb hres
        generalize p.take I ++ p.drop (I + 1) = R at *
        generalize hrl : R.length = rl at *
        have HRLn := Lib.hid hrl
        clear hrl
        go_wp2_with fail
        refine wp_region_quiet_lit (by kernel_rfl) (by kernel_rfl) ?_
        repeat (go_big_quiet_step (fail))
        refine wpQuiet_nil ?_
        intro _ hw'
        obtain ⟨nq1, hw''⟩ := hw'
        subst hw''
        go_wp2_with fail
        refine wp_region_quiet_lit (by kernel_rfl) (by kernel_rfl) ?_
        repeat (go_big_quiet_step (fail))
        refine wpQuiet_nil ?_
        intro _ hw'
        obtain ⟨nq2, hw''⟩ := hw'
        subst hw''
        go_wp2_with fail
        go_ret3
        rw [HRES.out]
        exact RetDP.own HOW.out HB.out (by first | exact Drew.trans ⟨nq1, rfl⟩ ⟨nq2, rfl⟩ | exact ⟨nq1 + nq2, rfl⟩)
      · rw [markTo_end HAT.out hC]
        rw [if_neg hC] at hown ⊢
        have HSH : Hid (shrinkP p I C = if canJ (p.set I C) I = true then joinP (p.set I C) I else if 1 ≤ I ∧ canJ (p.set I C) (I - 1) = true then joinP (p.set I C) (I - 1) else p.set I C) := by
          show _ = _; unfold shrinkP; rw [if_neg hC]
        have hR := hown.pgs
        obtain ⟨A', c', e', hc', hP⟩ := hR
        injection e' with e1 _ e3
        subst e1 e3
        rw [HSETL.out] at hP hc' ⊢
        have hIn := HAT.out
        have HOW := Lib.hid hown
        have HB := Lib.hid hb
        have HPG := Lib.hid hP
        have HPF := Lib.hid hP
        have hHM : ∀ j, j < k → ((p.set I C).getD j []).length ≤ 10000 := fun j hj => by
          rw [pg_getD (by rw [HSETL.out]; exact hj)]; exact HSETM.out _ (List.getElem_mem _)
        have HHM := Lib.hid hHM
        clear hown hb hP hHM
        obtain ⟨b, o, A1, c1, rfl, hbB, f1, -, -⟩ := HPG.out.at_ hIn
        have hl1 := HHM.out I hIn
        have hszb : b < wr.heap.size := hbB
        have w1 : (I : Int) < (k : Int) := by omega
        have w2 : (0 : Int) ≤ (I : Int) := by omega
        have w3 : decide ((0 : Int) ≤ (I : Int)) = true := by simp
        have w4 : IntKind.i64.wrap ((I : Int) + 1) = (I : Int) + 1 := by rw [IntKind.wrap_i64]; omega
        have HCJ : Hid (canJ (p.set I C) I = (decide (I + 1 < k) && decide (((p.set I C).getD I []).length + ((p.set I C).getD (I + 1) []).length ≤ 6))) := by
          show _ = _; unfold canJ; rw [HSETL.out]
        have HCJ2 : Hid (1 ≤ I → canJ (p.set I C) (I - 1) = decide (((p.set I C).getD (I - 1) []).length + ((p.set I C).getD I []).length ≤ 6)) := fun h => by
          unfold canJ; rw [HSETL.out, show I - 1 + 1 = I by omega, decide_eq_true (show I < k by omega), Bool.true_and]
        generalize p.set I C = R at *
        generalize hl1e : (R.getD I []).length = l1 at *
        clear hl1e
        have HFIN : Hid (∀ W', Drew wr W' → RetDP w (R, nd, 0) (.returned (.tuple #[.slice (some ⟨b, o, none⟩) k c5, .int .i64 nd, .int .i64 0])) W') := fun W' hd => by
          have := RetDP.own (z := nd) HOW.out HB.out hd
          rw [HSETL.out] at this
          exact this
        have HJN : Hid (∀ W' i, Drew wr W' → i + 1 < k → Calls Try.prog 50 #[.slice (some ⟨b, o, none⟩) k c5, .int .i64 (i : Int)] W' fun e w' => ∃ v, e = .returned v ∧ RetDP w (joinP R i, nd, 0) (.returned (.tuple #[v, .int .i64 nd, .int .i64 0])) w') := fun W' i hd hi => by
          have hbd := Below.drews HB.out hd
          have hP' : PgsAt W' W'.heap.size (some ⟨b, o, none⟩) k R := by
            obtain ⟨q, rfl⟩ := hd
            exact HPG.out.keep (fun a _ => Drew.cells ⟨q, rfl⟩ a)
          exact (joined_any _ k c5 _ i R W' hP' (Nat.le_refl _) hn HSETM.out hi).mono fun e w' h => h.dp hbd
        by_cases hI : I + 1 < k
        · obtain ⟨b2, o2, A2, c2, e2, hb2, f2, -, -⟩ := HPG.out.at_ (k := I + 1) hI
          injection e2 with e2
          injection e2 with e21 e22
          subst e21 e22
          have hl2 := HHM.out (I + 1) hI
          generalize (R.getD (I + 1) []).length = l2 at *
          have u1 : decide ((I : Int) + 1 < (k : Int)) = true := by simp; omega
          have u2 : decide (I + 1 < k) = true := by simp; omega
          have u3 : (I : Int) + 1 < (k : Int) := by omega
          have u4 : ((I : Int) + 1).toNat = I + 1 := by omega
          have u5 : (0 : Int) ≤ (I : Int) + 1 := by omega
          have hcj := HCJ.out
          rw [u2, Bool.true_and] at hcj
          by_cases h6 : l1 + l2 ≤ 6
          · have u6 : decide ((l1 : Int) + (l2 : Int) ≤ 6) = true := by simp; omega
            have u7 : decide (l1 + l2 ≤ 6) = true := by simpa using h6
            have HX : Hid (shrinkP p I C = joinP R I) := by show _ = _; rw [HSH.out, if_pos (show canJ R I = true by rw [hcj]; exact u7)]
            have HJ := Lib.hid (fun W' hd => HJN.out W' I hd hI)
            clear hcj HCJ HCJ2 h6
            go_wp2_with fail
            refine wp_region_quiet_lit (by kernel_rfl) (by kernel_rfl) ?_
            repeat (go_big_quiet_step (fail))
            refine wpQuiet_nil ?_
            intro _ hw'
            obtain ⟨nq1, hw''⟩ := hw'
            subst hw''
            go_wp2_with fail
            refine (HJ.out _ ⟨nq1, rfl⟩).mono ?_
            rintro e w9 ⟨v9, rfl, hfin⟩
            go_wp2_with fail
            go_ret3
            rw [HX.out]
            exact hfin
          · have u6 : decide ((l1 : Int) + (l2 : Int) ≤ 6) = false := by simp; omega
            have u7 : decide (l1 + l2 ≤ 6) = false := by simpa using h6
            have hsh1 := HSH.out
            rw [if_neg (show ¬ canJ R I = true by rw [hcj, u7]; decide)] at hsh1
            have HSH1 := Lib.hid hsh1
            clear hsh1
            clear hcj HCJ h6
            have HCJ : True := trivial
            rcases Nat.eq_zero_or_pos I with hI0 | hIp
            · have v1 : decide ((0 : Int) < (I : Int)) = false := by simp; omega
              have v2 : decide (0 < I) = false := by simp; omega
              have HX : Hid (shrinkP p I C = R) := by show _ = _; rw [HSH1.out, if_neg (show ¬ (1 ≤ I ∧ canJ R (I - 1) = true) from fun h => by omega)]
              clear hI0
              go_wp2_with fail
              refine wp_region_quiet_lit (by kernel_rfl) (by kernel_rfl) ?_
              repeat (go_big_quiet_step (fail))
              refine wpQuiet_nil ?_
              intro _ hw'
              obtain ⟨nq1, hw''⟩ := hw'
              subst hw''
              go_wp2_with fail
              refine wp_region_quiet_lit (by kernel_rfl) (by kernel_rfl) ?_
              repeat (go_big_quiet_step (fail))
              refine wpQuiet_nil ?_
              intro _ hw'
              obtain ⟨nq2, hw''⟩ := hw'
              subst hw''
              go_wp2_with fail
              go_ret3
              rw [HX.out]
              exact HFIN.out _ (by first | exact Drew.trans ⟨nq1, rfl⟩ ⟨nq2, rfl⟩ | exact ⟨nq1 + nq2, rfl⟩)
            · obtain ⟨i, hi⟩ : ∃ i, i = I - 1 := ⟨_, rfl⟩
              have v1 : decide ((0 : Int) < (I : Int)) = true := by simp; omega
              have v2 : decide (0 < I) = true := by simp; omega
              have v3 : (I : Int) - 1 = (i : Int) := by omega
              have v4 : (i : Int) < (k : Int) := by omega
              have v5 : (0 : Int) ≤ (i : Int) := by omega
              obtain ⟨b0, o0, A0, c0, e0, hb0, f0, -, -⟩ := HPG.out.at_ (k := i) (by omega)
              injection e0 with e0
              injection e0 with e01 e02
              subst e01 e02
              have hl0 := HHM.out i (by omega)
              have hcj2 := HCJ2.out hIp
              rw [← hi] at hcj2 HSH1
              generalize (R.getD i []).length = l0 at *
              by_cases h7 : l0 + l1 ≤ 6
              · have HX : Hid (shrinkP p I C = joinP R i) := by show _ = _; rw [HSH1.out, if_pos (show 1 ≤ I ∧ canJ R i = true from ⟨hIp, by rw [hcj2]; simpa using h7⟩)]
                have v6 : decide ((l0 : Int) + (l1 : Int) ≤ 6) = true := by simp; omega
                have v7 : decide (l0 + l1 ≤ 6) = true := by simpa using h7
                have HJ := Lib.hid (fun W' hd => HJN.out W' i hd (by omega))
                clear hi hcj2 HCJ2 h7 hIp HCJ
                go_wp2_with fail
                refine wp_region_quiet_lit (by kernel_rfl) (by kernel_rfl) ?_
                repeat (go_big_quiet_step (fail))
                refine wpQuiet_nil ?_
                intro _ hw'
                obtain ⟨nq1, hw''⟩ := hw'
                subst hw''
                go_wp2_with fail
                refine wp_region_quiet_lit (by kernel_rfl) (by kernel_rfl) ?_
                repeat (go_big_quiet_step (fail))
                refine wpQuiet_nil ?_
                intro _ hw'
                obtain ⟨nq2, hw''⟩ := hw'
                subst hw''
                go_wp2_with fail
                refine (HJ.out _ (by first | exact Drew.trans ⟨nq1, rfl⟩ ⟨nq2, rfl⟩ | exact ⟨nq1 + nq2, rfl⟩)).mono ?_
                rintro e w9 ⟨v9, rfl, hfin⟩
                go_wp2_with fail
                go_ret3
                rw [HX.out]
                exact hfin
              · have HX : Hid (shrinkP p I C = R) := by show _ = _; rw [HSH1.out, if_neg (show ¬ (1 ≤ I ∧ canJ R i = true) from fun h => by rw [hcj2] at h; exact h7 (by simpa using h.2))]
                have v6 : decide ((l0 : Int) + (l1 : Int) ≤ 6) = false := by simp; omega
                have v7 : decide (l0 + l1 ≤ 6) = false := by simpa using h7
                clear hi hcj2 HCJ2 h7 hIp HCJ
                go_wp2_with fail
                refine wp_region_quiet_lit (by kernel_rfl) (by kernel_rfl) ?_
                repeat (go_big_quiet_step (fail))
                refine wpQuiet_nil ?_
                intro _ hw'
                obtain ⟨nq1, hw''⟩ := hw'
                subst hw''
                go_wp2_with fail
                refine wp_region_quiet_lit (by kernel_rfl) (by kernel_rfl) ?_
                repeat (go_big_quiet_step (fail))
                refine wpQuiet_nil ?_
                intro _ hw'
                obtain ⟨nq2, hw''⟩ := hw'
                subst hw''
                go_wp2_with fail
                go_ret3
                rw [HX.out]
                exact HFIN.out _ (by first | exact Drew.trans ⟨nq1, rfl⟩ ⟨nq2, rfl⟩ | exact ⟨nq1 + nq2, rfl⟩)
        · have u1 : decide ((I : Int) + 1 < (k : Int)) = false := by simp; omega
          have u2 : decide (I + 1 < k) = false := by simp; omega
          have hsh1 := HSH.out
          rw [if_neg (show ¬ canJ R I = true by rw [HCJ.out, u2]; simp)] at hsh1
          have HSH1 := Lib.hid hsh1
          clear hsh1
          clear hI
          rcases Nat.eq_zero_or_pos I with hI0 | hIp
          · have v1 : decide ((0 : Int) < (I : Int)) = false := by simp; omega
            have v2 : decide (0 < I) = false := by simp; omega
            have HX : Hid (shrinkP p I C = R) := by show _ = _; rw [HSH1.out, if_neg (show ¬ (1 ≤ I ∧ canJ R (I - 1) = true) from fun h => by omega)]
            clear hI0
            go_wp2_with fail
            refine wp_region_quiet_lit (by kernel_rfl) (by kernel_rfl) ?_
            repeat (go_big_quiet_step (fail))
            refine wpQuiet_nil ?_
            intro _ hw'
            obtain ⟨nq1, hw''⟩ := hw'
            subst hw''
            go_wp2_with fail
            refine wp_region_quiet_lit (by kernel_rfl) (by kernel_rfl) ?_
            repeat (go_big_quiet_step (fail))
            refine wpQuiet_nil ?_
            intro _ hw'
            obtain ⟨nq2, hw''⟩ := hw'
            subst hw''
            go_wp2_with fail
            go_ret3
            rw [HX.out]
            exact HFIN.out _ (by first | exact Drew.trans ⟨nq1, rfl⟩ ⟨nq2, rfl⟩ | exact ⟨nq1 + nq2, rfl⟩)
          · obtain ⟨i, hi⟩ : ∃ i, i = I - 1 := ⟨_, rfl⟩
            have v1 : decide ((0 : Int) < (I : Int)) = true := by simp; omega
            have v2 : decide (0 < I) = true := by simp; omega
            have v3 : (I : Int) - 1 = (i : Int) := by omega
            have v4 : (i : Int) < (k : Int) := by omega
            have v5 : (0 : Int) ≤ (i : Int) := by omega
            obtain ⟨b0, o0, A0, c0, e0, hb0, f0, -, -⟩ := HPG.out.at_ (k := i) (by omega)
            injection e0 with e0
            injection e0 with e01 e02
            subst e01 e02
            have hl0 := HHM.out i (by omega)
            have hcj2 := HCJ2.out hIp
            rw [← hi] at hcj2 HSH1
            generalize (R.getD i []).length = l0 at *
            by_cases h7 : l0 + l1 ≤ 6
            · have HX : Hid (shrinkP p I C = joinP R i) := by show _ = _; rw [HSH1.out, if_pos (show 1 ≤ I ∧ canJ R i = true from ⟨hIp, by rw [hcj2]; simpa using h7⟩)]
              have v6 : decide ((l0 : Int) + (l1 : Int) ≤ 6) = true := by simp; omega
              have v7 : decide (l0 + l1 ≤ 6) = true := by simpa using h7
              have HJ := Lib.hid (fun W' hd => HJN.out W' i hd (by omega))
              clear hi hcj2 HCJ2 h7 hIp HCJ
              go_wp2_with fail
              refine wp_region_quiet_lit (by kernel_rfl) (by kernel_rfl) ?_
              repeat (go_big_quiet_step (fail))
              refine wpQuiet_nil ?_
              intro _ hw'
              obtain ⟨nq1, hw''⟩ := hw'
              subst hw''
              go_wp2_with fail
              refine wp_region_quiet_lit (by kernel_rfl) (by kernel_rfl) ?_
              repeat (go_big_quiet_step (fail))
              refine wpQuiet_nil ?_
              intro _ hw'
              obtain ⟨nq2, hw''⟩ := hw'
              subst hw''
              go_wp2_with fail
              refine (HJ.out _ (by first | exact Drew.trans ⟨nq1, rfl⟩ ⟨nq2, rfl⟩ | exact ⟨nq1 + nq2, rfl⟩)).mono ?_
              rintro e w9 ⟨v9, rfl, hfin⟩
              go_wp2_with fail
              go_ret3
              rw [HX.out]
              exact hfin
            · have HX : Hid (shrinkP p I C = R) := by show _ = _; rw [HSH1.out, if_neg (show ¬ (1 ≤ I ∧ canJ R i = true) from fun h => by rw [hcj2] at h; exact h7 (by simpa using h.2))]
              have v6 : decide ((l0 : Int) + (l1 : Int) ≤ 6) = false := by simp; omega
              have v7 : decide (l0 + l1 ≤ 6) = false := by simpa using h7
              clear hi hcj2 HCJ2 h7 hIp HCJ
              go_wp2_with fail
              refine wp_region_quiet_lit (by kernel_rfl) (by kernel_rfl) ?_
              repeat (go_big_quiet_step (fail))
              refine wpQuiet_nil ?_
              intro _ hw'
              obtain ⟨nq1, hw''⟩ := hw'
              subst hw''
              go_wp2_with fail
              refine wp_region_quiet_lit (by kernel_rfl) (by kernel_rfl) ?_
              repeat (go_big_quiet_step (fail))
              refine wpQuiet_nil ?_
              intro _ hw'
              obtain ⟨nq2, hw''⟩ := hw'
              subst hw''
              go_wp2_with fail
              go_ret3
              rw [HX.out]
              exact HFIN.out _ (by first | exact Drew.trans ⟨nq1, rfl⟩ ⟨nq2, rfl⟩ | exact ⟨nq1 + nq2, rfl⟩)

theorem rdrop_any (A : Option Addr) (n c B : Nat) (p : Pg) (s : ByteArray) (w : World) (hA : PgsAt w B A n p) (hB : B ≤ w.heap.size) (hn : n ≤ 10000) (hm : p.flatten.length ≤ 100000) :
    Calls Try.prog 23 #[.slice A n c, .string s] w (RetDP w (dropP p s)) := by
  by_cases h : rightP p = true ∧ hasL p.flatten s = true
  · exact rdrop_some A n c B p s w hA hB hn hm h.1 h.2
  · exact rdrop_err A n c B p s w hA hB hn hm h
end Go.Proofs.Ytflijnhgonigjaa
