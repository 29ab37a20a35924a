/-
  LogOpens: which slabs may be opened, and what their blocks are then, is what the document says, of any head and any blocks.
-/
import Derived.Test.YtpljifeebbeakaaLFrame
namespace Go.Proofs.Ytpljifeebbeakaa.logOpens
open Go.ChangeShapes Go.WideShapes Go.ChangeAt Go.RowKit
open Go.ChangeMaps (open_string shut_string)
open Sl (St SlabAt Turns RowAt)

theorem u64_wrap (x : Int) : IntKind.u64.wrap x = x % 18446744073709551616 := by
  simp [IntKind.wrap, IntKind.signed, IntKind.bits]
theorem mod_num (kd : Int) (m : Int) (hm : 0 < m ∧ m ≤ 9223372036854775807) : wrap64 ((IntKind.u64.wrap kd).tmod m) = (kd % 18446744073709551616) % m := by
  rw [u64_wrap]
  have h0 : 0 ≤ kd % 18446744073709551616 := Int.emod_nonneg _ (by decide)
  rw [Int.tmod_eq_emod_of_nonneg h0]
  have h1 := Int.emod_nonneg (kd % 18446744073709551616) (show m ≠ 0 by omega)
  have h2 := Int.emod_lt_of_pos (kd % 18446744073709551616) hm.1
  generalize kd % 18446744073709551616 % m = z at *
  unfold wrap64
  omega
/-- the first k of N texts, and empty ones behind them. -/
def parF (F : Nat → ByteArray) (N k : Nat) : List ByteArray := (List.range N).map fun i : Nat => if i < k then F i else ⟨#[]⟩
theorem parF_0 (F : Nat → ByteArray) (N : Nat) : parF F N 0 = List.replicate N ⟨#[]⟩ := by
  apply List.ext_getElem (by simp [parF])
  intro i h1 h2
  simp [parF]
theorem parF_len (F : Nat → ByteArray) (N k : Nat) : (parF F N k).length = N := by simp [parF]
theorem parF_set {F : Nat → ByteArray} {N k : Nat} : (parF F N k).set k (F k) = parF F N (k + 1) := by
  apply List.ext_getElem (by simp [parF])
  intro i h1 h2
  rw [List.getElem_set]
  simp only [parF, List.getElem_map, List.getElem_range]
  by_cases e : k = i
  · subst e; rw [if_pos rfl, if_pos (by omega)]
  · rw [if_neg e]
    by_cases hk : i < k
    · rw [if_pos hk, if_pos (by omega)]
    · rw [if_neg hk, if_neg (by omega)]
theorem parF_set2 {F : Nat → ByteArray} {N k : Nat} (s : ByteArray) : ((parF F N k).set k s).set k (F k) = parF F N (k + 1) := by
  rw [List.set_set]; exact parF_set
/-- what a law fills an image with. -/
def imF (ss : List ByteArray) (i : Nat) : ByteArray := if i < ss.length then Sl.wholeS (ss.getD i ⟨#[]⟩) else z128
theorem imF_size (ss : List ByteArray) (i : Nat) : (imF ss i).size = 128 := by
  unfold imF
  split
  · exact whole_size _
  · exact z128_size
theorem parF_whole (ss : List ByteArray) (N : Nat) : Whole (parF (imF ss) N N) := by
  intro s hs
  obtain ⟨i, hi, rfl⟩ := List.mem_map.1 hs
  rw [if_pos (List.mem_range.1 hi)]
  exact imF_size ss i

set_option maxRecDepth 100000 in
set_option maxHeartbeats 8000000 in
theorem walk (n1 : Int) (h : ByteArray) (A : Option Addr) (n c : Nat) (ss : List ByteArray) (w : World) (_hn : -9223372036854775808 ≤ n1 ∧ n1 ≤ 9223372036854775807) (hh : h.size ≤ 140737488355328)
    (hT : Sl.StrsAt w A n ss ∧ ss.length = n ∧ n ≤ c ∧ ∀ s, s ∈ ss → s.size ≤ 9223372036854775807) :
    Calls Try.prog 4 #[.int .i64 n1, .string h, .slice A n c] w fun e w' => e = .returned (.bool true) ∧ Below w.heap.size w w' := by
  have _hh : h.size ≤ 9223372036854775807 := by omega
  obtain ⟨hA, hl, _, hsz⟩ := hT
  obtain ⟨N, hN⟩ : ∃ N : Nat, (N : Int) = (n1 % 18446744073709551616) % 150 := ⟨((n1 % 18446744073709551616) % 150).toNat, by omega⟩
  have hN1 : N < 150 := by omega
  have hNN : wrap64 ((IntKind.u64.wrap n1).tmod 150) = (N : Int) := by rw [mod_num _ _ (by decide), hN]
  obtain ⟨M, hM, hmk⟩ := Sl.make_strs N (by omega)
  have HROW : Hid (∀ v : World, RowAt (v.alloc (.cells M 9)) v.heap.size (parF (imF ss) N 0)) := fun v => rowB v _ M (by rw [parF_0]; exact hM)
  have HSET : Hid (∀ k, k < N → ¬ k < n → (parF (imF ss) N k).set k z128 = parF (imF ss) N (k + 1)) := fun k _ h2 => by
    rw [← parF_set]; congr 1; unfold imF; rw [if_neg (by omega)]
  have HSET2 : Hid (∀ k, k < N → k < n → ((parF (imF ss) N k).set k z128).set k (Sl.wholeS (ss.getD k ⟨#[]⟩)) = parF (imF ss) N (k + 1)) := fun k _ h2 => by
    rw [← parF_set2 z128]; congr 1; unfold imF; rw [if_pos (by omega)]
  have HLEN : Hid (∀ k, (parF (imF ss) N k).length = N) := fun k => parF_len _ _ _
  have HWH : Hid (Whole (parF (imF ss) N N)) := parF_whole _ _
  have HSZ : Hid (∀ k, k < n → (ss.getD k ⟨#[]⟩).size ≤ 9223372036854775807) := fun k hk => by
    have e : ss.getD k ⟨#[]⟩ = ss[k] := by simp [List.getD, show k < ss.length by omega]
    rw [e]; exact hsz _ (List.getElem_mem _)
  have HA := Lib.hid hA
  clear hA hM hl hsz hh hN
  go_enter Try.func4, Try.ntmps4
  go_wp2_with fail
  refine (lives_any w).mono ?_
  rintro e w1 ⟨rfl, b1⟩
  have HB1 := Lib.hid (b1.alloc b1.size (.cells M 9))
  have hsz1 := b1.size
  have HR1 := Lib.hid (HROW.out w1)
  clear b1 HROW
  go_wp2
  rw [hNN]
  clear hNN
  go_loopw [8] (fun j wr => ∃ k : Nat, k ≤ N ∧ j = .int .i64 (k : Int) ∧ RowAt wr w1.heap.size (parF (imF ss) N k) ∧ Below w.heap.size w wr) (fun j _ => N - (intOf j).toNat)
  case atStart => exact ⟨0, by omega, rfl, HR1.out, HB1.out⟩
  case round =>
    obtain ⟨k, hk, rfl, hr, hb⟩ := hrel
    have HR := Lib.hid hr
    have HB := Lib.hid hb
    by_cases h1 : k < N
    · have y1 : (k : Int) < (N : Int) := by omega
      have x0 : (0 : Int) ≤ (k : Int) := by omega
      have hkl : k < (parF (imF ss) N k).length := by rw [HLEN.out k]; exact h1
      have HKL := Lib.hid hkl
      clear hr hb hkl
      go_wp2_with fail
      refine (whole_z _).mono ?_
      rintro e w3 ⟨rfl, b3⟩
      have hr3 := HR.out.below b3 HR.out.lt
      have HB3 := Lib.hid (HB.out.trans (b3.mono HB.out.size))
      have c0 := hr3.cell HKL.out
      have f0 := hr3.fz k
      have HR4 := Lib.hid (hr3.set k z128)
      have HB4 := Lib.hid (HB3.out.setCell (p := ⟨w1.heap.size, k, none⟩) hsz1 (.string z128))
      generalize (parF (imF ss) N k).getD k ⟨#[]⟩ = s0 at *
      clear hr3 b3
      by_cases h2 : k < n
      · have y2 : (k : Int) < (n : Int) := by omega
        obtain ⟨b, o, rfl, d0⟩ := HA.out k h2
        have d4 := bcell HB4.out d0 (cell_lt d0)
        have hsk := HSZ.out k h2
        have HWS := Lib.hid (fun v : World => Sl.whole_any (ss.getD k ⟨#[]⟩) v hsk)
        have HST := Lib.hid (HSET2.out k h1 h2)
        have HKL2 : Hid (k < ((parF (imF ss) N k).set k z128).length) := by show _ < _; rw [List.length_set]; exact HKL.out
        generalize Sl.wholeS (ss.getD k ⟨#[]⟩) = z at *
        generalize ss.getD k ⟨#[]⟩ = s at *
        clear d0 HSET2 HSET
        go_wp2_with fail
        refine (HWS.out _).mono ?_
        rintro e w5 ⟨rfl, b5⟩
        have hr5 := HR4.out.below b5 HR4.out.lt
        have HB5 := Lib.hid (HB4.out.trans (b5.mono HB4.out.size))
        have c5 := hr5.cell HKL2.out
        have f5 := hr5.fz k
        have HR6 : Hid (RowAt (w5.setCell ⟨w1.heap.size, k, none⟩ (.string z)) w1.heap.size (parF (imF ss) N (k + 1))) := by
          show RowAt _ _ _
          rw [← HST.out]; exact hr5.set k z
        have HB6 := Lib.hid (HB5.out.setCell (p := ⟨w1.heap.size, k, none⟩) hsz1 (.string z))
        generalize ((parF (imF ss) N k).set k z128).getD k ⟨#[]⟩ = s1 at *
        clear hr5 b5 c0 f0
        go_wp2
        go_roundw
        case rel => exact ⟨k + 1, h1, by push_cast; rfl, HR6.out, HB6.out⟩
        case measure => simp only [intOf]; omega
      · have y2 : ¬ (k : Int) < (n : Int) := by omega
        have HST := Lib.hid (HSET.out k h1 h2)
        rw [HST.out] at HR4
        go_wp2
        go_roundw
        case rel => exact ⟨k + 1, h1, by push_cast; rfl, HR4.out, HB4.out⟩
        case measure => simp only [intOf]; omega
    · have y1 : ¬ (k : Int) < (N : Int) := by omega
      have e : k = N := by omega
      subst e
      have hW := HWH.out
      have hL := HLEN.out k
      generalize parF (imF ss) k k = D0 at *
      have HR0 := Lib.hid hr
      have HB0 := Lib.hid hb
      clear hr hb HSET HSET2 HSZ HA HR HB HLEN HWH HR1 HB1
      by_cases h1N : 1 < k
      · have y3 : decide ((1 : Int) < (k : Int)) = true := by simp; omega
        have y4 : (1 : Int) < (k : Int) := by omega
        have HWS := Lib.hid (fun v : World => Sl.whole_any h v _hh)
        have HWZ := Lib.hid (whole_size h)
        have hl1 : 1 < D0.length := by rw [hL]; exact h1N
        have HL1 := Lib.hid hl1
        have HWD0 := Lib.hid hW
        have HLD0 := Lib.hid hL
        clear hl1 hW hL
        generalize Sl.wholeS h = zh at *
        go_wp2_with fail
        refine (HWS.out _).mono ?_
        rintro e w5 ⟨rfl, b5⟩
        have hr5 := HR0.out.below b5 HR0.out.lt
        have HB5 := Lib.hid (HB0.out.trans (b5.mono HB0.out.size))
        have c5 := hr5.cell HL1.out
        have f5 := hr5.fz 1
        obtain ⟨WX, hWX⟩ : ∃ WX, WX = w5.setCell ⟨w1.heap.size, 1, none⟩ (.string zh) := ⟨_, rfl⟩
        obtain ⟨D, hD⟩ : ∃ D, D = D0.set 1 zh := ⟨_, rfl⟩
        have HRX : Hid (RowAt WX w1.heap.size D) := by
          show RowAt _ _ _
          rw [hWX, hD]; exact hr5.set 1 zh
        have HBX : Hid (Below w.heap.size w WX) := by
          show Below _ _ _
          rw [hWX]; exact HB5.out.setCell hsz1 _
        have HWD : Hid (Whole D) := by
          show Whole _
          rw [hD]; exact Whole.set HWD0.out 1 HWZ.out
        have HLX : Hid (D.length = k) := by show _ = _; rw [hD, List.length_set, HLD0.out]
        generalize D0.getD 1 ⟨#[]⟩ = s1 at *
        have HWX := Lib.hid hWX
        clear hr5 b5 hWX hD HWD0 HLD0 HWS HWZ
        have hDZ : ∀ s ∈ D, s.size ≤ 9223372036854775807 := fun s hs => by rw [HWD.out s hs]; omega
        have HLD := Lib.hid (load_calm (some ⟨w1.heap.size, 0, none⟩) k k D WX (by have := HRX.out.strs; rw [HLX.out] at this; exact this) HLX.out (Nat.le_refl _) hDZ)
        rw [load_same HWD.out (by rw [HLX.out]; omega)] at HLD
        have hgs := HRX.out.lt
        clear hDZ
        go_wp2_with fail
        rw [← HWX.out]
        refine HLD.out.mono ?_
        rintro e w6 ⟨p, pd, pm, rfl, s6, hp, hpd, hpm, b6⟩
        have HB6 := Lib.hid (HBX.out.trans (b6.mono HBX.out.size))
        have HR6 := Lib.hid (HRX.out.below b6 hgs)
        have hszX := HBX.out.size
        have h6 : p < w6.heap.size ∧ pd < w6.heap.size ∧ pm < w6.heap.size := ⟨s6.lt_p, s6.lt_d, s6.lt_m⟩
        have OP := Lib.hid (open_any p pd pm D 0 w6 s6 HWD.out (by omega))
        clear s6 b6 HLD
        have HRC : Hid (∀ v : World, RowAt v w1.heap.size D → Calls Try.prog 24 #[.slice (some ⟨w1.heap.size, 0, none⟩) k k] v (RetRc v D)) := fun v hv => by
          have hr := rowSs (B := v.heap.size) hv hv.lt
          rw [HLX.out] at hr
          exact recov_any (some ⟨w1.heap.size, 0, none⟩) k k v.heap.size D v hr (Nat.le_refl _) (by omega) HWD.out
        by_cases h64 : 64 ≤ k
        · have g64 : decide ((k : Int) < 64) = false := by simp; omega
          have h64D : 64 ≤ D.length := by rw [HLX.out]; exact h64
          have HKR := Lib.hid (okD_R HWD.out h64D)
          have H64D := Lib.hid h64D
          cases hok : okD D with
          | false =>
            have HOK := Lib.hid hok
            clear hok h64D
            go_wp2_with fail
            refine OP.out.mono ?_
            rintro e w7 ⟨t7, _, hx, _⟩
            obtain ⟨rfl, s7⟩ := hx H64D.out HOK.out
            have HR7 := HR6.out.turns t7 (by simp; omega)
            have HB7 := Lib.hid (HB6.out.trans (t7.below HB6.out.size (by simp; omega)))
            have S7 := Lib.hid s7
            have RC := Lib.hid (HRC.out w7 HR7)
            clear t7 hx s7 HR7 OP
            go_wp2_with fail
            refine RC.out.mono ?_
            rintro e w8 ⟨v, z, rfl, b8, hz, _⟩
            obtain rfl : z = false := by rw [hz H64D.out, ← HKR.out, HOK.out]
            have HB8 := Lib.hid (HB7.out.trans (b8.mono HB7.out.size))
            have CA := Lib.hid (calls_calm p pd pm D 0 w8 (S7.out.keptB (Turns.of_below [] b8)))
            clear b8 hz RC
            go_wp2_with fail
            refine CA.out.mono ?_
            rintro e w9 ⟨rfl, rfl⟩
            go_wp2
            go_ret
            exact ⟨rfl, HB8.out⟩
          | true =>
            have HOK := Lib.hid hok
            have HSM := Lib.hid (same_rp D)
            have HL2 : Hid ((rpD D).length = k) := by show _ = _; rw [rpD_len, HLX.out]
            have HL3 : Hid ((rcD D).length = k) := by show _ = _; unfold rcD; rw [setL_len, HLX.out]
            clear hok h64D
            go_wp2_with fail
            refine OP.out.mono ?_
            rintro e w7 ⟨t7, _, _, hx⟩
            obtain ⟨q, rfl, hq, Q7, s7⟩ := hx H64D.out HOK.out
            have HR7 := HR6.out.turns t7 (by simp; omega)
            have HB7 := Lib.hid (HB6.out.trans (t7.below HB6.out.size (by simp; omega)))
            have S7 := Lib.hid s7
            have RC := Lib.hid (HRC.out w7 HR7)
            clear t7 hx s7 HR7 Q7 OP
            go_wp2_with fail
            refine RC.out.mono ?_
            rintro e w8 ⟨v, z, rfl, b8, hz, hv⟩
            obtain rfl : z = true := by rw [hz H64D.out, ← HKR.out, HOK.out]
            have hv2 := hv H64D.out (by rw [← HKR.out, HOK.out])
            obtain ⟨A8, c8, rfl, hc8, hA8⟩ := own_sliceS hv2
            have ha8 := own_ss hv2
            rw [HL3.out] at ha8 ⊢
            have HA8 := Lib.hid ha8
            have HB8 := Lib.hid (HB7.out.trans (b8.mono HB7.out.size))
            have s8 := S7.out.keptB (Turns.of_below [] b8)
            have S8 := Lib.hid s8
            have IM := Lib.hid (image_calm p pd pm (rpD D) (rpC D 0) w8 s8)
            rw [HL2.out] at IM
            clear b8 hz hv hv2 ha8 hA8 s8 RC
            go_wp2_with fail
            refine IM.out.mono ?_
            rintro e w9 ⟨rfl, r9, b9⟩
            have hr9 := rowSs (B := w9.heap.size) r9 r9.lt
            rw [HL2.out] at hr9
            have SA := Lib.hid (same_any _ _ k k k c8 w9.heap.size (rpD D) (rcD D) w9 hr9 ((HA8.out.below b9 (Nat.le_refl _)).more b9.size) (Nat.le_refl _) (by omega))
            rw [HSM.out] at SA
            have HB9 := Lib.hid (HB8.out.trans (b9.mono HB8.out.size))
            have S9 := Lib.hid (S8.out.keptB (Turns.of_below [] b9))
            clear r9 b9 hr9 IM
            go_wp2_with fail
            refine SA.out.mono ?_
            rintro e w10 ⟨rfl, b10⟩
            have HB10 := Lib.hid (HB9.out.trans (b10.mono HB9.out.size))
            have LO := Lib.hid (Sl.loose_calm p pd pm (FS (rpD D) (rpC D 0)) w10 (S9.out.keptB (Turns.of_below [] b10)) rfl)
            clear b10 SA
            go_wp2_with fail
            refine LO.out.mono ?_
            rintro e w11 ⟨A11, c11, rfl, b11⟩
            have HB11 := Lib.hid (HB10.out.trans (b11.mono HB10.out.size))
            clear b11
            go_wp2
            go_ret
            exact ⟨rfl, HB11.out⟩
        · have g64 : decide ((k : Int) < 64) = true := by simp; omega
          have H64D : Hid (D.length < 64) := by show _ < _; rw [HLX.out]; omega
          go_wp2_with fail
          refine OP.out.mono ?_
          rintro e w7 ⟨t7, hx, _, _⟩
          obtain ⟨rfl, s7⟩ := hx H64D.out
          have HR7 := HR6.out.turns t7 (by simp; omega)
          have HB7 := Lib.hid (HB6.out.trans (t7.below HB6.out.size (by simp; omega)))
          have RC := Lib.hid (HRC.out w7 HR7)
          clear t7 hx s7 HR7 OP
          go_wp2_with fail
          refine RC.out.mono ?_
          rintro e w8 ⟨v, z, rfl, b8, _, _⟩
          have HB8 := Lib.hid (HB7.out.trans (b8.mono HB7.out.size))
          clear b8 RC
          go_wp2
          go_ret
          exact ⟨rfl, HB8.out⟩
      · have y3 : decide ((1 : Int) < (k : Int)) = false := by simp; omega
        have y4 : ¬ (1 : Int) < (k : Int) := by omega
        obtain ⟨WX, hWX⟩ : ∃ WX, WX = wr := ⟨_, rfl⟩
        obtain ⟨D, hD⟩ : ∃ D, D = D0 := ⟨_, rfl⟩
        have HRX : Hid (RowAt WX w1.heap.size D) := by
          show RowAt _ _ _
          rw [hWX, hD]; exact HR0.out
        have HBX : Hid (Below w.heap.size w WX) := by
          show Below _ _ _
          rw [hWX]; exact HB0.out
        have HWD : Hid (Whole D) := by rw [hD]; exact hW
        have HLX : Hid (D.length = k) := by show _ = _; rw [hD, hL]
        have HWX := Lib.hid hWX
        clear hWX hD hW hL
        have hDZ : ∀ s ∈ D, s.size ≤ 9223372036854775807 := fun s hs => by rw [HWD.out s hs]; omega
        have HLD := Lib.hid (load_calm (some ⟨w1.heap.size, 0, none⟩) k k D WX (by have := HRX.out.strs; rw [HLX.out] at this; exact this) HLX.out (Nat.le_refl _) hDZ)
        rw [load_same HWD.out (by rw [HLX.out]; omega)] at HLD
        have hgs := HRX.out.lt
        clear hDZ
        go_wp2_with fail
        rw [← HWX.out]
        refine HLD.out.mono ?_
        rintro e w6 ⟨p, pd, pm, rfl, s6, hp, hpd, hpm, b6⟩
        have HB6 := Lib.hid (HBX.out.trans (b6.mono HBX.out.size))
        have HR6 := Lib.hid (HRX.out.below b6 hgs)
        have hszX := HBX.out.size
        have h6 : p < w6.heap.size ∧ pd < w6.heap.size ∧ pm < w6.heap.size := ⟨s6.lt_p, s6.lt_d, s6.lt_m⟩
        have OP := Lib.hid (open_any p pd pm D 0 w6 s6 HWD.out (by omega))
        clear s6 b6 HLD
        have HRC : Hid (∀ v : World, RowAt v w1.heap.size D → Calls Try.prog 24 #[.slice (some ⟨w1.heap.size, 0, none⟩) k k] v (RetRc v D)) := fun v hv => by
          have hr := rowSs (B := v.heap.size) hv hv.lt
          rw [HLX.out] at hr
          exact recov_any (some ⟨w1.heap.size, 0, none⟩) k k v.heap.size D v hr (Nat.le_refl _) (by omega) HWD.out
        by_cases h64 : 64 ≤ k
        · have g64 : decide ((k : Int) < 64) = false := by simp; omega
          have h64D : 64 ≤ D.length := by rw [HLX.out]; exact h64
          have HKR := Lib.hid (okD_R HWD.out h64D)
          have H64D := Lib.hid h64D
          cases hok : okD D with
          | false =>
            have HOK := Lib.hid hok
            clear hok h64D
            go_wp2_with fail
            refine OP.out.mono ?_
            rintro e w7 ⟨t7, _, hx, _⟩
            obtain ⟨rfl, s7⟩ := hx H64D.out HOK.out
            have HR7 := HR6.out.turns t7 (by simp; omega)
            have HB7 := Lib.hid (HB6.out.trans (t7.below HB6.out.size (by simp; omega)))
            have S7 := Lib.hid s7
            have RC := Lib.hid (HRC.out w7 HR7)
            clear t7 hx s7 HR7 OP
            go_wp2_with fail
            refine RC.out.mono ?_
            rintro e w8 ⟨v, z, rfl, b8, hz, _⟩
            obtain rfl : z = false := by rw [hz H64D.out, ← HKR.out, HOK.out]
            have HB8 := Lib.hid (HB7.out.trans (b8.mono HB7.out.size))
            have CA := Lib.hid (calls_calm p pd pm D 0 w8 (S7.out.keptB (Turns.of_below [] b8)))
            clear b8 hz RC
            go_wp2_with fail
            refine CA.out.mono ?_
            rintro e w9 ⟨rfl, rfl⟩
            go_wp2
            go_ret
            exact ⟨rfl, HB8.out⟩
          | true =>
            have HOK := Lib.hid hok
            have HSM := Lib.hid (same_rp D)
            have HL2 : Hid ((rpD D).length = k) := by show _ = _; rw [rpD_len, HLX.out]
            have HL3 : Hid ((rcD D).length = k) := by show _ = _; unfold rcD; rw [setL_len, HLX.out]
            clear hok h64D
            go_wp2_with fail
            refine OP.out.mono ?_
            rintro e w7 ⟨t7, _, _, hx⟩
            obtain ⟨q, rfl, hq, Q7, s7⟩ := hx H64D.out HOK.out
            have HR7 := HR6.out.turns t7 (by simp; omega)
            have HB7 := Lib.hid (HB6.out.trans (t7.below HB6.out.size (by simp; omega)))
            have S7 := Lib.hid s7
            have RC := Lib.hid (HRC.out w7 HR7)
            clear t7 hx s7 HR7 Q7 OP
            go_wp2_with fail
            refine RC.out.mono ?_
            rintro e w8 ⟨v, z, rfl, b8, hz, hv⟩
            obtain rfl : z = true := by rw [hz H64D.out, ← HKR.out, HOK.out]
            have hv2 := hv H64D.out (by rw [← HKR.out, HOK.out])
            obtain ⟨A8, c8, rfl, hc8, hA8⟩ := own_sliceS hv2
            have ha8 := own_ss hv2
            rw [HL3.out] at ha8 ⊢
            have HA8 := Lib.hid ha8
            have HB8 := Lib.hid (HB7.out.trans (b8.mono HB7.out.size))
            have s8 := S7.out.keptB (Turns.of_below [] b8)
            have S8 := Lib.hid s8
            have IM := Lib.hid (image_calm p pd pm (rpD D) (rpC D 0) w8 s8)
            rw [HL2.out] at IM
            clear b8 hz hv hv2 ha8 hA8 s8 RC
            go_wp2_with fail
            refine IM.out.mono ?_
            rintro e w9 ⟨rfl, r9, b9⟩
            have hr9 := rowSs (B := w9.heap.size) r9 r9.lt
            rw [HL2.out] at hr9
            have SA := Lib.hid (same_any _ _ k k k c8 w9.heap.size (rpD D) (rcD D) w9 hr9 ((HA8.out.below b9 (Nat.le_refl _)).more b9.size) (Nat.le_refl _) (by omega))
            rw [HSM.out] at SA
            have HB9 := Lib.hid (HB8.out.trans (b9.mono HB8.out.size))
            have S9 := Lib.hid (S8.out.keptB (Turns.of_below [] b9))
            clear r9 b9 hr9 IM
            go_wp2_with fail
            refine SA.out.mono ?_
            rintro e w10 ⟨rfl, b10⟩
            have HB10 := Lib.hid (HB9.out.trans (b10.mono HB9.out.size))
            have LO := Lib.hid (Sl.loose_calm p pd pm (FS (rpD D) (rpC D 0)) w10 (S9.out.keptB (Turns.of_below [] b10)) rfl)
            clear b10 SA
            go_wp2_with fail
            refine LO.out.mono ?_
            rintro e w11 ⟨A11, c11, rfl, b11⟩
            have HB11 := Lib.hid (HB10.out.trans (b11.mono HB10.out.size))
            clear b11
            go_wp2
            go_ret
            exact ⟨rfl, HB11.out⟩
        · have g64 : decide ((k : Int) < 64) = true := by simp; omega
          have H64D : Hid (D.length < 64) := by show _ < _; rw [HLX.out]; omega
          go_wp2_with fail
          refine OP.out.mono ?_
          rintro e w7 ⟨t7, hx, _, _⟩
          obtain ⟨rfl, s7⟩ := hx H64D.out
          have HR7 := HR6.out.turns t7 (by simp; omega)
          have HB7 := Lib.hid (HB6.out.trans (t7.below HB6.out.size (by simp; omega)))
          have RC := Lib.hid (HRC.out w7 HR7)
          clear t7 hx s7 HR7 OP
          go_wp2_with fail
          refine RC.out.mono ?_
          rintro e w8 ⟨v, z, rfl, b8, _, _⟩
          have HB8 := Lib.hid (HB7.out.trans (b8.mono HB7.out.size))
          clear b8 RC
          go_wp2
          go_ret
          exact ⟨rfl, HB8.out⟩
set_option maxRecDepth 100000 in
theorem lifted (os : Os) (started : os.Started) (H : Type) (enc : TypeId × Value → H) :
    ReturnsInHanded {} Try.checked os 4 .any (Rows.logOpensSpec.pre6 enc Try.prog Try.f4 Rows.logOpensRow.domain false) (Rows.logOpensSpec.post enc Try.prog Try.f4 false true false false) := by
  refine returnsInHanded_of_change_sized (C := Try.checked) own started (by kernel_rfl) Try.func4
    (ChangeSpec.witness6 (enc := enc) (C := Try.checked) false ⟨#[], #[.int .i64 0, .string ByteArray.empty, .slice none 0 0], []⟩ 8 (by kernel_rfl) (by kernel_rfl) (by kernel_rfl) (by kernel_rfl)) ?_
  intro W base args ds gs before hval0 hW hcnd hsz0 _
  have hval : ∀ (j : Nat) t v, Try.f4.params[j]? = some t → args[j]? = some v → Value.okWide Try.prog W .any base t v := hval0
  have hsz : (DataW.weightsEach Try.prog (Try.f4.params.toList ++ Rows.logOpensSpec.plain.varTypes Try.prog) (ds ++ gs)).all (· ≤ reachBytes) = true := hsz0
  have hW' := hW
  obtain ⟨p, q, hA0, hV, rfl, hfz, hnd⟩ := hW
  have hA : DataW.TrodAll enc Try.prog W 0 (fun _ => true) true Try.f4.params.toList args.toList ds p := hA0
  rw [Try.params4] at hA hval hsz
  obtain ⟨v0, vs0, d0, ds0, p0, q0, hargs, rfl, rfl, h0, r0⟩ := trodAll_cons hA
  obtain ⟨v1, vs1, d1, ds1, p1, q1, rfl, rfl, rfl, h1, r1⟩ := trodAll_cons r0
  obtain ⟨v2, vs2, d2, ds2, p2, q2, rfl, rfl, rfl, h2, r2⟩ := trodAll_cons r1
  obtain ⟨rfl, rfl, rfl⟩ := trodAll_nil r2
  obtain rfl : args = #[v0, v1, v2] := by cases args; simp_all
  obtain ⟨rfl, rfl⟩ := trodVars_none hV
  obtain ⟨n0, rfl, rfl, rfl, wn0⟩ := open_int Try.underlying3 (hval 0 3 v0 rfl rfl) h0
  obtain ⟨s1, rfl, rfl, rfl, hs1⟩ := open_string Try.underlying9 (hval 1 9 v1 rfl rfl) h1
  have b1 : s1.size ≤ 140737488355328 := by
    have := sized_string hsz (j := 1) (t := 9) rfl rfl
    rw [Array.length_toList] at this
    simp only [reachBytes] at this
    exact Nat.le_trans this (by decide)
  have lt2 : ∀ x ∈ p2, x.block < W.heap.size := by obtain ⟨m, hm⟩ := h2; exact DataW.trod_lt m _ _ _ hm
  obtain ⟨a2, len2, cap2, rfl⟩ := okWide_slice Try.underlying32 (hval 2 32 v2 rfl rfl)
  obtain ⟨l2, w2⟩ := strs_open h2
  clear hA0 hval0
  refine (walk n0 s1 a2 len2 cap2 l2 W (i64_of_wf wn0) b1 w2).mono fun e W' ⟨he, bel⟩ => ?_
  subst he
  exact ⟨_, rfl, _, _, _, [], _, [], hW', trodAll_mk1 (shut_bool Try.underlying4 _), (trodAll_cons_mk (shut_int Try.underlying3 wn0) (trodAll_cons_mk (shut_string Try.underlying9 hs1) (trodAll_cons_mk (Below.trod laidOut (by kernel_rfl) (of_decide_eq_true (by kernel_rfl)) h2 bel lt2) trodAll_mk0))), rfl, bel.frame _, fun h => by cases h⟩

theorem over : Rows.logOpensRow.holds Try.pinned (OpenSpec.ofChange Rows.logOpensSpec) :=
  OpenClaim.holds_of_wide 4 Try.f4 rfl rfl rfl rfl rfl rfl rfl ⟨rfl, rfl, rfl, rfl, rfl⟩ rfl rfl rfl rfl rfl (by kernel_rfl) Try.func4 (by kernel_rfl)
    (of_decide_eq_true (by kernel_rfl)) (by unfold Func.isWrapper; first | (rw [if_pos (by decide +kernel)]; kernel_rfl) | (rw [if_neg (by decide +kernel)]; exact ⟨rfl, rfl⟩))
    (fun os started H enc _ => lifted os started H enc)

end Go.Proofs.Ytpljifeebbeakaa.logOpens
namespace Go.Proofs.Ytpljifeebbeakaa
theorem logOpens_proved : Rows.LogOpensSaid := logOpens.over
#print axioms logOpens_proved
end Go.Proofs.Ytpljifeebbeakaa
