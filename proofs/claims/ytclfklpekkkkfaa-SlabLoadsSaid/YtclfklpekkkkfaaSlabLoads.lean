/-
  PROVED: SlabLoads returns true, and each argument reads afterwards as it read before. No condition.
-/
import Derived.Test.YtclfklpekkkkfaaRefLoad
import Derived.Test.YtclfklpekkkkfaaSlabKeeps
import Derived.Deep.RegionHeld3
import Derived.Deep.DeepFit
namespace Go.Proofs.Ytclfklpekkkkfaa.slabLoads
open Go.ChangeShapes Go.WideShapes Go.ChangeAt Go.RowKit
open Go.ChangeMaps (open_string shut_string)
open slabKeeps (img_firm looseOf_none)

theorem now_strs {w : World} {r : Nat} {F N L : Value} {kF k kL : Nat} {ls : List ByteArray} (h : RefAt w r F N L kF k kL ls) (hk : ls.length = k) : ∃ A c, N = .slice A k c ∧ StrsAt w A k ls := by
  rcases h.hN.2 with ⟨rfl, h0⟩ | ⟨g, cap, cur, rfl, _, hg, _⟩
  · subst h0; exact ⟨none, 0, rfl, fun j hj => by omega⟩
  · refine ⟨some ⟨g, 0, none⟩, cap, rfl, fun j hj => ⟨g, 0, rfl, ?_⟩⟩
    rw [Nat.zero_add, h.hN.cellAt j (by omega)]
    have : j < ls.length := by omega
    simp [List.getD, this]

theorem new_len (n : Int) : (St.new n).dur.length = (min (max n 0) 1000).toNat := by simp [St.new, St.fresh]
theorem new_last {n : Int} {M : Nat} (hM : M = (min (max n 0) 1000).toNat) (h : 0 < M) : (St.new n).read ((M : Int) - 1) = wholeS ⟨#[]⟩ := by
  have e : ((M : Int) - 1) = ((M - 1 : Nat) : Int) := by omega
  rw [e, St.read_at _ (by rw [new_len, ← hM]; omega)]
  have : M - 1 < (min (max n 0) 1000).toNat := by omega
  simp [St.at, St.new, St.fresh, List.getD, this]
theorem new_past {n : Int} {M : Nat} (hM : M = (min (max n 0) 1000).toNat) : (St.new n).read (M : Int) = ⟨#[]⟩ := by
  unfold St.read
  rw [if_neg]
  unfold St.has
  rw [new_len, ← hM]
  simp

set_option maxHeartbeats 40000000 in
theorem walk (A : Option Addr) (n c : Nat) (ss : List ByteArray) (n1 : Int) (w : World) (hA : StrsAt w A n ss) (hl : ss.length = n) (hnc : n ≤ c) (hsz : ∀ s, s ∈ ss → s.size ≤ 9223372036854775807) (_hn : -9223372036854775808 ≤ n1 ∧ n1 ≤ 9223372036854775807) :
    Calls Try.prog 3 #[.slice A n c, .int .i64 n1] w fun e w' => e = .returned (.bool true) ∧ Below w.heap.size w w' := by
  obtain ⟨M, hM⟩ : ∃ M : Nat, M = (min (max n1 0) 1000).toNat := ⟨_, rfl⟩
  have hMM : min (max n1 0) 1000 = (M : Int) := by omega
  have hM1 : M ≤ 1000 := by omega
  obtain ⟨ls, hls⟩ : ∃ ls, ls = loadS ss := ⟨_, rfl⟩
  obtain ⟨m, hm⟩ : ∃ m : Nat, ls.length = m := ⟨_, rfl⟩
  have hm1 : m ≤ 1000 := by rw [← hm, hls]; simp [loadS]; omega
  have HLS := Lib.hid hls
  have HM := Lib.hid hM
  have Hm := Lib.hid hm
  have HA := Lib.hid hA
  have Hsz := Lib.hid hsz
  have HMM := Lib.hid hMM
  clear hls hM hm hA hsz hMM
  go_enter Try.func3, Try.ntmps3
  go_wp2_with fail
  refine (lives_any w).mono ?_
  rintro e w1 ⟨rfl, b1⟩
  have B1 := Lib.hid b1
  have A1 := Lib.hid (HA.out.keep (Turns.of_below [] (w := w) (w' := w1) b1) (by simp))
  clear b1 HA
  go_wp2_with fail
  refine (load_any A n c ss w1 A1.out hl hnc Hsz.out).mono ?_
  rintro e w2 ⟨rfl, h2, b2⟩
  have LP : Hid (w.heap.size ≤ w1.heap.size) := B1.out.size
  obtain ⟨p, hp⟩ : ∃ p, p = w1.heap.size + 1 + 1 := ⟨_, rfl⟩
  obtain ⟨pd, hpd⟩ : ∃ pd, pd = w1.heap.size := ⟨_, rfl⟩
  obtain ⟨pm, hpm⟩ : ∃ pm, pm = w1.heap.size + 1 := ⟨_, rfl⟩
  rw [← hp, ← hpm, ← hpd, ← HLS.out] at h2
  rw [← hp]
  have LPS : Hid (∀ j, j ∈ [p, pd, pm] → w.heap.size ≤ j) := by intro j hj; have := LP.out; simp at hj; omega
  have H2 := Lib.hid h2
  have A2 := Lib.hid (A1.out.keep (Turns.of_below [] (w := w1) (w' := w2) b2) (by simp))
  have B2 := Lib.hid (B1.out.trans (b2.mono LP.out))
  clear h2 b2 hp hpd hpm A1
  go_wp2_with fail
  refine (rload_any A n c ss w2 A2.out hl Hsz.out).mono ?_
  rintro e w3 ⟨F, N, L, rfl, h3, b3⟩
  rw [← HLS.out, Hm.out] at h3
  obtain ⟨r, hr⟩ : ∃ r, r = w2.heap.size := ⟨_, rfl⟩
  rw [← hr] at h3
  rw [← hr]
  have lp := H2.out.lt_p
  have ld := H2.out.lt_d
  have lm := H2.out.lt_m
  have RN : Hid (r ∉ [p, pd, pm]) := by intro hj; simp at hj; omega
  have HG : Hid (∀ g, N.ownBlock = some g → g ∉ [p, pd, pm]) := by
    intro g hg hj
    have := (h3.hN.lt g hg).1
    simp at hj
    omega
  obtain ⟨A', c', rfl, hS3⟩ := now_strs h3 Hm.out
  have c3 : w3.cell? ⟨r, 1, none⟩ = some (.slice A' m c') := h3.c 1
  have H3 := Lib.hid (H2.out.keptB (Turns.of_below _ b3))
  have S3 := Lib.hid hS3
  have C3 := Lib.hid c3
  have B3 := Lib.hid (B2.out.trans (b3.mono B2.out.size))
  have HAP : Hid (∀ a, A' = some a → a.block ∉ [p, pd, pm]) := by
    intro a ha
    exact HG.out a.block (by rw [ha]; rfl)
  clear h3 b3 hr hS3 c3 lp ld lm A2 H2 HG
  go_wp2_with fail
  refine (crash_nil p pd pm (St.fresh ls) w3 H3.out (by show 0 < 1000000; decide)).mono ?_
  rintro e w4 ⟨rfl, h4, t4⟩
  have H4 := Lib.hid h4
  have S4 := Lib.hid (S3.out.keep t4 HAP.out)
  have C4 := Lib.hid (t4.cell C3.out RN.out)
  have B4 := Lib.hid (B3.out.trans (t4.below B3.out.size LPS.out))
  clear h4 t4 H3 S3 C3
  go_wp2_with fail
  refine (new_any n1 w4).mono ?_
  rintro e w5 ⟨q, qd, qm, rfl, h5, hq, hqd, hqm, b5⟩
  have t5 : Turns [] w4 w5 := Turns.of_below _ b5
  have Ha5 := Lib.hid (H4.out.keptB t5)
  have Hc5 := Lib.hid h5
  have S5 := Lib.hid (S4.out.keep t5 (by simp))
  have C5 := Lib.hid (t5.cell C4.out (by simp))
  have B5 := Lib.hid (B4.out.trans (b5.mono B4.out.size))
  clear h5 t5 b5 H4 S4 C4
  go_wp2_with fail
  rw [HMM.out]
  refine (whole_any ⟨#[]⟩ w5 (by decide)).mono ?_
  rintro e w6 ⟨rfl, b6⟩
  have t6 : Turns [] w5 w6 := Turns.of_below _ b6
  have Ha6 := Lib.hid (Ha5.out.keptB t6)
  have Hc6 := Lib.hid (Hc5.out.keptB t6)
  have S6 := Lib.hid (S5.out.keep t6 (by simp))
  have c6 := t6.cell C5.out (by simp)
  have B6 := Lib.hid (B5.out.trans (b6.mono B5.out.size))
  clear t6 b6 Ha5 Hc5 S5 C5
  have I1 : Hid ((St.fresh ls).lost.img = ls) := img_firm rfl
  have I2 : Hid ((St.fresh ls).lost.dur.length = m) := Hm.out
  have I3 : Hid ((St.new n1).dur.length = M) := by show _ = _; rw [new_len, HM.out]
  have I4 : Hid ((St.new n1).read (M : Int) = ⟨#[]⟩) := new_past HM.out
  have I5 : Hid (0 < M → (St.new n1).read ((M : Int) - 1) = wholeS ⟨#[]⟩) := new_last HM.out
  have I6 : Hid ((St.new n1).loose = fun _ => none) := rfl
  generalize (St.fresh ls).lost = σa at *
  generalize St.new n1 = σc at *
  generalize wholeS ⟨#[]⟩ = Z at *
  have HaD := Lib.hid (Ha6.out.keptB (drew_turns [] w6))
  have heq := beq_same Z
  have hne := bne_same Z
  by_cases hM0 : M = 0
  · have d0 : ((M : Int) == 0) = true := by simp [hM0]
    have HM0 := Lib.hid hM0
    clear hM0
    go_wp2_with fail
    refine wp_region_held_drew (S := fun w' => w'.cell? ⟨r, 1, none⟩ = some (.slice A' m c')) (by kernel_rfl) c6 (fun hHeld => ?_)
    refine wpAnyH_take (i := 0) (oi := { dst := some 24, op := Op.move (Operand.tmp 5), type := 24, pos := _, after := _, guard := none }) (v := ?v0) rfl (by kernel_rfl) (by kernel_rfl) (by kernel_rfl) (fun _ _ _ h => h) (Or.inl ⟨by rfl, ?hy0⟩) (by assumption) ?rest0
    case hy0 => (intro w hSw; (try dsimp only at hSw); go_simp <;> with_reducible rfl)
    simp only [Act.put, List.setIfInBounds_toArray, List.set_cons_zero, List.set_cons_succ]
    refine wpAnyH_take (i := 2) (oi := { dst := some 26, op := Op.move (Operand.tmp 6), type := 26, pos := _, after := _, guard := none }) (v := ?v2) rfl (by kernel_rfl) (by kernel_rfl) (by kernel_rfl) (fun _ _ _ h => h) (Or.inl ⟨by rfl, ?hy2⟩) (by assumption) ?rest2
    case hy2 => (intro w hSw; (try dsimp only at hSw); go_simp <;> with_reducible rfl)
    simp only [Act.put, List.setIfInBounds_toArray, List.set_cons_zero, List.set_cons_succ]
    refine wpAnyH_take (i := 3) (oi := { dst := some 27, op := Op.nilCheck (Operand.tmp 26), type := 0, pos := _, after := _, guard := none }) (v := ?v3) rfl (by kernel_rfl) (by kernel_rfl) (by kernel_rfl) (fun _ _ _ h => h) (Or.inl ⟨by rfl, ?hy3⟩) (by assumption) ?rest3
    case hy3 => (intro w hSw; (try dsimp only at hSw); go_simp <;> with_reducible rfl)
    simp only [Act.put, List.setIfInBounds_toArray, List.set_cons_zero, List.set_cons_succ]
    refine wpAnyH_take (i := 4) (oi := { dst := some 28, op := Op.fieldAddr 35 (Operand.tmp 27) 1, type := 0, pos := _, after := _, guard := none }) (v := ?v4) rfl (by kernel_rfl) (by kernel_rfl) (by kernel_rfl) (fun _ _ _ h => h) (Or.inl ⟨by rfl, ?hy4⟩) (by assumption) ?rest4
    case hy4 => (intro w hSw; (try dsimp only at hSw); go_simp <;> with_reducible rfl)
    simp only [Act.put, List.setIfInBounds_toArray, List.set_cons_zero, List.set_cons_succ]
    refine wpAnyH_take (i := 5) (oi := { dst := some 29, op := Op.load 22 (Operand.tmp 28), type := 22, pos := _, after := _, guard := none }) (v := ?v5) rfl (by kernel_rfl) (by kernel_rfl) (by kernel_rfl) (fun _ _ _ h => h) (Or.inl ⟨by rfl, ?hy5⟩) (by assumption) ?rest5
    case hy5 => (intro w hSw; (try dsimp only at hSw); go_simp <;> with_reducible rfl)
    simp only [Act.put, List.setIfInBounds_toArray, List.set_cons_zero, List.set_cons_succ]
    refine wpAnyH_ready (rs := [1]) (by kernel_rfl) (by simp) ?_
    refine AllReadyH.cons (o := { dst := some 25, op := Op.call { callee := Callee.value (Operand.func 14), args := #[Operand.tmp 24], argTypes := #[24] }, type := 22, pos := _, after := _, guard := none }) rfl (fun K' hK => ?_) AllReadyH.nil
    go_simp
    go_fit (image_any p pd pm σa w6.drew HaD.out)
    rintro e v1 ⟨rfl, r1, b1⟩
    rw [I2.out]
    rw [I1.out] at r1
    have t1 : Turns [] w6 v1 := ⟨b1.os, b1.tape, b1.output, b1.size, fun i hi _ => b1.block i hi⟩
    have c7 := t1.cell c6 (by simp)
    have HaV1 := Lib.hid (Ha6.out.keptB t1)
    have HcV1 := Lib.hid (Hc6.out.keptB t1)
    have SX1 := Lib.hid r1.strs
    rw [Hm.out] at SX1
    have SN1 := Lib.hid (S6.out.keep t1 (by simp))
    have BV1 := Lib.hid (B6.out.trans (t1.below B6.out.size (by simp)))
    clear r1 b1 t1
    go_wp2_with fail
    refine hK.out _ _ c7 (fun hHeld => ?_)
    clear hK K'
    (try simp only [Act.put, List.setIfInBounds_toArray, List.set_cons_zero, List.set_cons_succ])
    refine wpAnyH_ready (rs := [6]) (by kernel_rfl) (by simp) ?_
    refine AllReadyH.cons (o := { dst := some 30, op := Op.call { callee := Callee.value (Operand.func 13), args := #[Operand.tmp 25, Operand.tmp 29], argTypes := #[22, 22] }, type := 4, pos := _, after := _, guard := none }) rfl (fun K' hK => ?_) AllReadyH.nil
    go_simp
    go_fit (texts_same _ _ m m c' ls v1 hm1 SX1.out SN1.out)
    rintro e v2 ⟨rfl, t2⟩
    have c8 := t2.cell c7 (by simp)
    have HaV2 := Lib.hid (HaV1.out.keptB t2)
    have HcV2 := Lib.hid (HcV1.out.keptB t2)
    have BV2 := Lib.hid (BV1.out.trans (t2.below BV1.out.size (by simp)))
    clear t2
    go_wp2_with fail
    refine hK.out _ _ c8 (fun hHeld => ?_)
    clear hK K'
    (try simp only [Act.put, List.setIfInBounds_toArray, List.set_cons_zero, List.set_cons_succ])
    refine wpAnyH_take (i := 7) (oi := { dst := some 31, op := Op.move (Operand.tmp 30), type := 4, pos := _, after := _, guard := none }) (v := ?v7) rfl (by kernel_rfl) (by kernel_rfl) (by kernel_rfl) (fun _ _ _ h => h) (Or.inl ⟨by rfl, ?hy7⟩) (by assumption) ?rest7
    case hy7 => (intro w hSw; (try dsimp only at hSw); go_simp <;> with_reducible rfl)
    simp only [Act.put, List.setIfInBounds_toArray, List.set_cons_zero, List.set_cons_succ]
    refine wpAnyH_take (i := 8) (oi := { dst := some 32, op := Op.move (Operand.tmp 5), type := 24, pos := _, after := _, guard := some (7, true) }) (v := ?v8) rfl (by kernel_rfl) (by kernel_rfl) (by kernel_rfl) (fun _ _ _ h => h) (Or.inl ⟨by rfl, ?hy8⟩) (by assumption) ?rest8
    case hy8 => (intro w hSw; (try dsimp only at hSw); go_simp <;> with_reducible rfl)
    simp only [Act.put, List.setIfInBounds_toArray, List.set_cons_zero, List.set_cons_succ]
    refine wpAnyH_take (i := 10) (oi := { dst := some 34, op := Op.move (Operand.tmp 6), type := 26, pos := _, after := _, guard := some (7, true) }) (v := ?v10) rfl (by kernel_rfl) (by kernel_rfl) (by kernel_rfl) (fun _ _ _ h => h) (Or.inl ⟨by rfl, ?hy10⟩) (by assumption) ?rest10
    case hy10 => (intro w hSw; (try dsimp only at hSw); go_simp <;> with_reducible rfl)
    simp only [Act.put, List.setIfInBounds_toArray, List.set_cons_zero, List.set_cons_succ]
    refine wpAnyH_take (i := 11) (oi := { dst := some 35, op := Op.nilCheck (Operand.tmp 34), type := 0, pos := _, after := _, guard := some (7, true) }) (v := ?v11) rfl (by kernel_rfl) (by kernel_rfl) (by kernel_rfl) (fun _ _ _ h => h) (Or.inl ⟨by rfl, ?hy11⟩) (by assumption) ?rest11
    case hy11 => (intro w hSw; (try dsimp only at hSw); go_simp <;> with_reducible rfl)
    simp only [Act.put, List.setIfInBounds_toArray, List.set_cons_zero, List.set_cons_succ]
    refine wpAnyH_take (i := 12) (oi := { dst := some 36, op := Op.fieldAddr 35 (Operand.tmp 35) 1, type := 0, pos := _, after := _, guard := some (7, true) }) (v := ?v12) rfl (by kernel_rfl) (by kernel_rfl) (by kernel_rfl) (fun _ _ _ h => h) (Or.inl ⟨by rfl, ?hy12⟩) (by assumption) ?rest12
    case hy12 => (intro w hSw; (try dsimp only at hSw); go_simp <;> with_reducible rfl)
    simp only [Act.put, List.setIfInBounds_toArray, List.set_cons_zero, List.set_cons_succ]
    refine wpAnyH_take (i := 13) (oi := { dst := some 37, op := Op.load 22 (Operand.tmp 36), type := 22, pos := _, after := _, guard := some (7, true) }) (v := ?v13) rfl (by kernel_rfl) (by kernel_rfl) (by kernel_rfl) (fun _ _ _ h => h) (Or.inl ⟨by rfl, ?hy13⟩) (by assumption) ?rest13
    case hy13 => (intro w hSw; (try dsimp only at hSw); go_simp <;> with_reducible rfl)
    simp only [Act.put, List.setIfInBounds_toArray, List.set_cons_zero, List.set_cons_succ]
    refine wpAnyH_take (i := 14) (oi := { dst := some 38, op := Op.call { callee := Callee.builtin Builtin.len, args := #[Operand.tmp 37], argTypes := #[22] }, type := 3, pos := _, after := _, guard := some (7, true) }) (v := ?v14) rfl (by kernel_rfl) (by kernel_rfl) (by kernel_rfl) (fun _ _ _ h => h) (Or.inl ⟨by rfl, ?hy14⟩) (by assumption) ?rest14
    case hy14 => (intro w hSw; (try dsimp only at hSw); go_simp <;> with_reducible rfl)
    simp only [Act.put, List.setIfInBounds_toArray, List.set_cons_zero, List.set_cons_succ]
    refine wpAnyH_ready (rs := [9]) (by kernel_rfl) (by simp) ?_
    refine AllReadyH.cons (o := { dst := some 33, op := Op.call { callee := Callee.value (Operand.func 15), args := #[Operand.tmp 32], argTypes := #[24] }, type := 3, pos := _, after := _, guard := some (7, true) }) rfl (fun K' hK => ?_) AllReadyH.nil
    go_simp
    go_fit (size_any p pd pm σa v2 HaV2.out)
    rintro e v2a ⟨rfl, rfl⟩
    rw [I2.out]
    go_wp2_with fail
    refine hK.out _ _ c8 (fun hHeld => ?_)
    clear hK K'
    (try simp only [Act.put, List.setIfInBounds_toArray, List.set_cons_zero, List.set_cons_succ])
    refine wpAnyH_take (i := 15) (oi := { dst := some 39, op := Op.binOp BinOp.eql 3 (Operand.tmp 33) (Operand.tmp 38) 3, type := 4, pos := _, after := _, guard := some (7, true) }) (v := ?v15) rfl (by kernel_rfl) (by kernel_rfl) (by kernel_rfl) (fun _ _ _ h => h) (Or.inl ⟨by rfl, ?hy15⟩) (by assumption) ?rest15
    case hy15 => (intro w hSw; (try dsimp only at hSw); go_simp <;> with_reducible rfl)
    simp only [Act.put, List.setIfInBounds_toArray, List.set_cons_zero, List.set_cons_succ]
    refine wpAnyH_take (i := 16) (oi := { dst := some 40, op := Op.pick (Operand.tmp 31) (Operand.tmp 39) (Operand.const (Value.bool false)), type := 4, pos := _, after := _, guard := none }) (v := ?v16) rfl (by kernel_rfl) (by kernel_rfl) (by kernel_rfl) (fun _ _ _ h => h) (Or.inl ⟨by rfl, ?hy16⟩) (by assumption) ?rest16
    case hy16 => (intro w hSw; (try dsimp only at hSw); go_simp <;> with_reducible rfl)
    simp only [Act.put, List.setIfInBounds_toArray, List.set_cons_zero, List.set_cons_succ]
    refine wpAnyH_take (i := 17) (oi := { dst := some 41, op := Op.move (Operand.tmp 40), type := 4, pos := _, after := _, guard := none }) (v := ?v17) rfl (by kernel_rfl) (by kernel_rfl) (by kernel_rfl) (fun _ _ _ h => h) (Or.inl ⟨by rfl, ?hy17⟩) (by assumption) ?rest17
    case hy17 => (intro w hSw; (try dsimp only at hSw); go_simp <;> with_reducible rfl)
    simp only [Act.put, List.setIfInBounds_toArray, List.set_cons_zero, List.set_cons_succ]
    refine wpAnyH_take (i := 18) (oi := { dst := some 42, op := Op.move (Operand.tmp 7), type := 24, pos := _, after := _, guard := some (17, true) }) (v := ?v18) rfl (by kernel_rfl) (by kernel_rfl) (by kernel_rfl) (fun _ _ _ h => h) (Or.inl ⟨by rfl, ?hy18⟩) (by assumption) ?rest18
    case hy18 => (intro w hSw; (try dsimp only at hSw); go_simp <;> with_reducible rfl)
    simp only [Act.put, List.setIfInBounds_toArray, List.set_cons_zero, List.set_cons_succ]
    refine wpAnyH_take (i := 20) (oi := { dst := some 44, op := Op.move (Operand.tmp 8), type := 3, pos := _, after := _, guard := some (17, true) }) (v := ?v20) rfl (by kernel_rfl) (by kernel_rfl) (by kernel_rfl) (fun _ _ _ h => h) (Or.inl ⟨by rfl, ?hy20⟩) (by assumption) ?rest20
    case hy20 => (intro w hSw; (try dsimp only at hSw); go_simp <;> with_reducible rfl)
    simp only [Act.put, List.setIfInBounds_toArray, List.set_cons_zero, List.set_cons_succ]
    refine wpAnyH_ready (rs := [19]) (by kernel_rfl) (by simp) ?_
    refine AllReadyH.cons (o := { dst := some 43, op := Op.call { callee := Callee.value (Operand.func 15), args := #[Operand.tmp 42], argTypes := #[24] }, type := 3, pos := _, after := _, guard := some (17, true) }) rfl (fun K' hK => ?_) AllReadyH.nil
    go_simp
    go_fit (size_any q qd qm σc v2 HcV2.out)
    rintro e v2b ⟨rfl, rfl⟩
    rw [I3.out]
    go_wp2_with fail
    refine hK.out _ _ c8 (fun hHeld => ?_)
    clear hK K'
    (try simp only [Act.put, List.setIfInBounds_toArray, List.set_cons_zero, List.set_cons_succ])
    refine wpAnyH_take (i := 21) (oi := { dst := some 45, op := Op.binOp BinOp.eql 3 (Operand.tmp 43) (Operand.tmp 44) 3, type := 4, pos := _, after := _, guard := some (17, true) }) (v := ?v21) rfl (by kernel_rfl) (by kernel_rfl) (by kernel_rfl) (fun _ _ _ h => h) (Or.inl ⟨by rfl, ?hy21⟩) (by assumption) ?rest21
    case hy21 => (intro w hSw; (try dsimp only at hSw); go_simp <;> with_reducible rfl)
    simp only [Act.put, List.setIfInBounds_toArray, List.set_cons_zero, List.set_cons_succ]
    refine wpAnyH_take (i := 22) (oi := { dst := some 46, op := Op.pick (Operand.tmp 41) (Operand.tmp 45) (Operand.const (Value.bool false)), type := 4, pos := _, after := _, guard := none }) (v := ?v22) rfl (by kernel_rfl) (by kernel_rfl) (by kernel_rfl) (fun _ _ _ h => h) (Or.inl ⟨by rfl, ?hy22⟩) (by assumption) ?rest22
    case hy22 => (intro w hSw; (try dsimp only at hSw); go_simp <;> with_reducible rfl)
    simp only [Act.put, List.setIfInBounds_toArray, List.set_cons_zero, List.set_cons_succ]
    refine wpAnyH_take (i := 23) (oi := { dst := some 47, op := Op.move (Operand.tmp 46), type := 4, pos := _, after := _, guard := none }) (v := ?v23) rfl (by kernel_rfl) (by kernel_rfl) (by kernel_rfl) (fun _ _ _ h => h) (Or.inl ⟨by rfl, ?hy23⟩) (by assumption) ?rest23
    case hy23 => (intro w hSw; (try dsimp only at hSw); go_simp <;> with_reducible rfl)
    simp only [Act.put, List.setIfInBounds_toArray, List.set_cons_zero, List.set_cons_succ]
    refine wpAnyH_take (i := 24) (oi := { dst := some 48, op := Op.move (Operand.tmp 8), type := 3, pos := _, after := _, guard := some (23, true) }) (v := ?v24) rfl (by kernel_rfl) (by kernel_rfl) (by kernel_rfl) (fun _ _ _ h => h) (Or.inl ⟨by rfl, ?hy24⟩) (by assumption) ?rest24
    case hy24 => (intro w hSw; (try dsimp only at hSw); go_simp <;> with_reducible rfl)
    simp only [Act.put, List.setIfInBounds_toArray, List.set_cons_zero, List.set_cons_succ]
    refine wpAnyH_take (i := 25) (oi := { dst := some 49, op := Op.binOp BinOp.eql 3 (Operand.tmp 48) (Operand.const (Value.int IntKind.i64 0)) 3, type := 4, pos := _, after := _, guard := some (23, true) }) (v := ?v25) rfl (by kernel_rfl) (by kernel_rfl) (by kernel_rfl) (fun _ _ _ h => h) (Or.inl ⟨by rfl, ?hy25⟩) (by assumption) ?rest25
    case hy25 => (intro w hSw; (try dsimp only at hSw); go_simp <;> with_reducible rfl)
    simp only [Act.put, List.setIfInBounds_toArray, List.set_cons_zero, List.set_cons_succ]
    refine wpAnyH_take (i := 26) (oi := { dst := some 50, op := Op.move (Operand.tmp 49), type := 4, pos := _, after := _, guard := some (23, true) }) (v := ?v26) rfl (by kernel_rfl) (by kernel_rfl) (by kernel_rfl) (fun _ _ _ h => h) (Or.inl ⟨by rfl, ?hy26⟩) (by assumption) ?rest26
    case hy26 => (intro w hSw; (try dsimp only at hSw); go_simp <;> with_reducible rfl)
    simp only [Act.put, List.setIfInBounds_toArray, List.set_cons_zero, List.set_cons_succ]
    refine wpAnyH_take (i := 27) (oi := { dst := some 51, op := Op.move (Operand.tmp 7), type := 24, pos := _, after := _, guard := some (26, false) }) rfl (by kernel_rfl) (by kernel_rfl) (by kernel_rfl) (fun _ _ _ h => h) (Or.inr ⟨by rfl, rfl⟩) (by assumption) ?_
    simp only [Act.put, List.setIfInBounds_toArray, List.set_cons_zero, List.set_cons_succ]
    refine wpAnyH_take (i := 28) (oi := { dst := some 52, op := Op.move (Operand.tmp 8), type := 3, pos := _, after := _, guard := some (26, false) }) rfl (by kernel_rfl) (by kernel_rfl) (by kernel_rfl) (fun _ _ _ h => h) (Or.inr ⟨by rfl, rfl⟩) (by assumption) ?_
    simp only [Act.put, List.setIfInBounds_toArray, List.set_cons_zero, List.set_cons_succ]
    refine wpAnyH_take (i := 29) (oi := { dst := some 53, op := Op.binOp BinOp.sub 3 (Operand.tmp 52) (Operand.const (Value.int IntKind.i64 1)) 3, type := 3, pos := _, after := _, guard := some (26, false) }) rfl (by kernel_rfl) (by kernel_rfl) (by kernel_rfl) (fun _ _ _ h => h) (Or.inr ⟨by rfl, rfl⟩) (by assumption) ?_
    simp only [Act.put, List.setIfInBounds_toArray, List.set_cons_zero, List.set_cons_succ]
    refine wpAnyH_take (i := 31) (oi := { dst := some 55, op := Op.move (Operand.tmp 9), type := 9, pos := _, after := _, guard := some (26, false) }) rfl (by kernel_rfl) (by kernel_rfl) (by kernel_rfl) (fun _ _ _ h => h) (Or.inr ⟨by rfl, rfl⟩) (by assumption) ?_
    simp only [Act.put, List.setIfInBounds_toArray, List.set_cons_zero, List.set_cons_succ]
    refine wpAnyH_take (i := 30) (oi := { dst := some 54, op := Op.call { callee := Callee.value (Operand.func 16), args := #[Operand.tmp 51, Operand.tmp 53], argTypes := #[24, 3] }, type := 9, pos := _, after := _, guard := some (26, false) }) rfl (by kernel_rfl) (by kernel_rfl) (by kernel_rfl) (fun _ _ _ h => h) (Or.inr ⟨by rfl, rfl⟩) (by assumption) ?_
    simp only [Act.put, List.setIfInBounds_toArray, List.set_cons_zero, List.set_cons_succ]
    refine wpAnyH_take (i := 32) (oi := { dst := some 56, op := Op.binOp BinOp.eql 9 (Operand.tmp 54) (Operand.tmp 55) 9, type := 4, pos := _, after := _, guard := some (26, false) }) rfl (by kernel_rfl) (by kernel_rfl) (by kernel_rfl) (fun _ _ _ h => h) (Or.inr ⟨by rfl, rfl⟩) (by assumption) ?_
    simp only [Act.put, List.setIfInBounds_toArray, List.set_cons_zero, List.set_cons_succ]
    refine wpAnyH_take (i := 33) (oi := { dst := some 57, op := Op.pick (Operand.tmp 50) (Operand.const (Value.bool true)) (Operand.tmp 56), type := 4, pos := _, after := _, guard := some (23, true) }) (v := ?v33) rfl (by kernel_rfl) (by kernel_rfl) (by kernel_rfl) (fun _ _ _ h => h) (Or.inl ⟨by rfl, ?hy33⟩) (by assumption) ?rest33
    case hy33 => (intro w hSw; (try dsimp only at hSw); go_simp <;> with_reducible rfl)
    simp only [Act.put, List.setIfInBounds_toArray, List.set_cons_zero, List.set_cons_succ]
    refine wpAnyH_take (i := 34) (oi := { dst := some 58, op := Op.pick (Operand.tmp 47) (Operand.tmp 57) (Operand.const (Value.bool false)), type := 4, pos := _, after := _, guard := none }) (v := ?v34) rfl (by kernel_rfl) (by kernel_rfl) (by kernel_rfl) (fun _ _ _ h => h) (Or.inl ⟨by rfl, ?hy34⟩) (by assumption) ?rest34
    case hy34 => (intro w hSw; (try dsimp only at hSw); go_simp <;> with_reducible rfl)
    simp only [Act.put, List.setIfInBounds_toArray, List.set_cons_zero, List.set_cons_succ]
    refine wpAnyH_take (i := 35) (oi := { dst := some 59, op := Op.move (Operand.tmp 58), type := 4, pos := _, after := _, guard := none }) (v := ?v35) rfl (by kernel_rfl) (by kernel_rfl) (by kernel_rfl) (fun _ _ _ h => h) (Or.inl ⟨by rfl, ?hy35⟩) (by assumption) ?rest35
    case hy35 => (intro w hSw; (try dsimp only at hSw); go_simp <;> with_reducible rfl)
    simp only [Act.put, List.setIfInBounds_toArray, List.set_cons_zero, List.set_cons_succ]
    refine wpAnyH_take (i := 36) (oi := { dst := some 60, op := Op.move (Operand.tmp 7), type := 24, pos := _, after := _, guard := some (35, true) }) (v := ?v36) rfl (by kernel_rfl) (by kernel_rfl) (by kernel_rfl) (fun _ _ _ h => h) (Or.inl ⟨by rfl, ?hy36⟩) (by assumption) ?rest36
    case hy36 => (intro w hSw; (try dsimp only at hSw); go_simp <;> with_reducible rfl)
    simp only [Act.put, List.setIfInBounds_toArray, List.set_cons_zero, List.set_cons_succ]
    refine wpAnyH_take (i := 37) (oi := { dst := some 61, op := Op.move (Operand.tmp 8), type := 3, pos := _, after := _, guard := some (35, true) }) (v := ?v37) rfl (by kernel_rfl) (by kernel_rfl) (by kernel_rfl) (fun _ _ _ h => h) (Or.inl ⟨by rfl, ?hy37⟩) (by assumption) ?rest37
    case hy37 => (intro w hSw; (try dsimp only at hSw); go_simp <;> with_reducible rfl)
    simp only [Act.put, List.setIfInBounds_toArray, List.set_cons_zero, List.set_cons_succ]
    refine wpAnyH_ready (rs := [38]) (by kernel_rfl) (by simp) ?_
    refine AllReadyH.cons (o := { dst := some 62, op := Op.call { callee := Callee.value (Operand.func 16), args := #[Operand.tmp 60, Operand.tmp 61], argTypes := #[24, 3] }, type := 9, pos := _, after := _, guard := some (35, true) }) rfl (fun K' hK => ?_) AllReadyH.nil
    go_simp
    go_fit (read_any q qd qm σc (M : Int) v2 HcV2.out)
    rintro e v4 ⟨rfl, b4⟩
    rw [I4.out]
    have t4 : Turns [] v2 v4 := Turns.of_below _ b4
    have c10 := t4.cell c8 (by simp)
    have HcV4 := Lib.hid (HcV2.out.keptB t4)
    have BV4 := Lib.hid (BV2.out.trans (b4.mono BV2.out.size))
    clear t4 b4
    go_wp2_with fail
    refine hK.out _ _ c10 (fun hHeld => ?_)
    clear hK K'
    (try simp only [Act.put, List.setIfInBounds_toArray, List.set_cons_zero, List.set_cons_succ])
    refine wpAnyH_take (i := 39) (oi := { dst := some 63, op := Op.binOp BinOp.eql 9 (Operand.tmp 62) (Operand.const (Value.string { data := #[] })) 9, type := 4, pos := _, after := _, guard := some (35, true) }) (v := ?v39) rfl (by kernel_rfl) (by kernel_rfl) (by kernel_rfl) (fun _ _ _ h => h) (Or.inl ⟨by rfl, ?hy39⟩) (by assumption) ?rest39
    case hy39 => (intro w hSw; (try dsimp only at hSw); go_simp <;> with_reducible rfl)
    simp only [Act.put, List.setIfInBounds_toArray, List.set_cons_zero, List.set_cons_succ]
    refine wpAnyH_take (i := 40) (oi := { dst := some 64, op := Op.pick (Operand.tmp 59) (Operand.tmp 63) (Operand.const (Value.bool false)), type := 4, pos := _, after := _, guard := none }) (v := ?v40) rfl (by kernel_rfl) (by kernel_rfl) (by kernel_rfl) (fun _ _ _ h => h) (Or.inl ⟨by rfl, ?hy40⟩) (by assumption) ?rest40
    case hy40 => (intro w hSw; (try dsimp only at hSw); go_simp <;> with_reducible rfl)
    simp only [Act.put, List.setIfInBounds_toArray, List.set_cons_zero, List.set_cons_succ]
    refine wpAnyH_take (i := 41) (oi := { dst := some 65, op := Op.move (Operand.tmp 64), type := 4, pos := _, after := _, guard := none }) (v := ?v41) rfl (by kernel_rfl) (by kernel_rfl) (by kernel_rfl) (fun _ _ _ h => h) (Or.inl ⟨by rfl, ?hy41⟩) (by assumption) ?rest41
    case hy41 => (intro w hSw; (try dsimp only at hSw); go_simp <;> with_reducible rfl)
    simp only [Act.put, List.setIfInBounds_toArray, List.set_cons_zero, List.set_cons_succ]
    refine wpAnyH_take (i := 42) (oi := { dst := some 66, op := Op.move (Operand.tmp 7), type := 24, pos := _, after := _, guard := some (41, true) }) (v := ?v42) rfl (by kernel_rfl) (by kernel_rfl) (by kernel_rfl) (fun _ _ _ h => h) (Or.inl ⟨by rfl, ?hy42⟩) (by assumption) ?rest42
    case hy42 => (intro w hSw; (try dsimp only at hSw); go_simp <;> with_reducible rfl)
    simp only [Act.put, List.setIfInBounds_toArray, List.set_cons_zero, List.set_cons_succ]
    refine wpAnyH_ready (rs := [43]) (by kernel_rfl) (by simp) ?_
    refine AllReadyH.cons (o := { dst := some 67, op := Op.call { callee := Callee.value (Operand.func 17), args := #[Operand.tmp 66], argTypes := #[24] }, type := 38, pos := _, after := _, guard := some (41, true) }) rfl (fun K' hK => ?_) AllReadyH.nil
    go_simp
    go_fit (loose_any q qd qm σc v4 HcV4.out)
    rintro e v5 ⟨g, cap, zs, rfl, hz, hzl, hrow, b5⟩
    have hz0 := looseOf_none hz I6.out
    rw [hz0]
    have c11 := (Turns.of_below [] (w := v4) (w' := v5) b5).cell c10 (by simp)
    have BV5 := Lib.hid (BV4.out.trans (b5.mono BV4.out.size))
    clear hz hzl hrow b5 hz0
    go_wp2_with fail
    refine hK.out _ _ c11 (fun hHeld => ?_)
    clear hK K'
    (try simp only [Act.put, List.setIfInBounds_toArray, List.set_cons_zero, List.set_cons_succ])
    refine wpAnyH_take (i := 44) (oi := { dst := some 68, op := Op.call { callee := Callee.builtin Builtin.len, args := #[Operand.tmp 67], argTypes := #[38] }, type := 3, pos := _, after := _, guard := some (41, true) }) (v := ?v44) rfl (by kernel_rfl) (by kernel_rfl) (by kernel_rfl) (fun _ _ _ h => h) (Or.inl ⟨by rfl, ?hy44⟩) (by assumption) ?rest44
    case hy44 => (intro w hSw; (try dsimp only at hSw); go_simp <;> with_reducible rfl)
    simp only [Act.put, List.setIfInBounds_toArray, List.set_cons_zero, List.set_cons_succ]
    refine wpAnyH_take (i := 45) (oi := { dst := some 69, op := Op.binOp BinOp.eql 3 (Operand.tmp 68) (Operand.const (Value.int IntKind.i64 0)) 3, type := 4, pos := _, after := _, guard := some (41, true) }) (v := ?v45) rfl (by kernel_rfl) (by kernel_rfl) (by kernel_rfl) (fun _ _ _ h => h) (Or.inl ⟨by rfl, ?hy45⟩) (by assumption) ?rest45
    case hy45 => (intro w hSw; (try dsimp only at hSw); go_simp <;> with_reducible rfl)
    simp only [Act.put, List.setIfInBounds_toArray, List.set_cons_zero, List.set_cons_succ]
    refine wpAnyH_take (i := 46) (oi := { dst := some 70, op := Op.pick (Operand.tmp 65) (Operand.tmp 69) (Operand.const (Value.bool false)), type := 4, pos := _, after := _, guard := none }) (v := ?v46) rfl (by kernel_rfl) (by kernel_rfl) (by kernel_rfl) (fun _ _ _ h => h) (Or.inl ⟨by rfl, ?hy46⟩) (by assumption) ?rest46
    case hy46 => (intro w hSw; (try dsimp only at hSw); go_simp <;> with_reducible rfl)
    simp only [Act.put, List.setIfInBounds_toArray, List.set_cons_zero, List.set_cons_succ]
    refine wpAnyH_take (i := 47) (oi := { dst := some 4, op := Op.assign (Operand.tmp 70), type := 4, pos := _, after := _, guard := none }) (v := ?v47) rfl (by kernel_rfl) (by kernel_rfl) (by kernel_rfl) (fun _ _ _ h => h) (Or.inl ⟨by rfl, ?hy47⟩) (by assumption) ?rest47
    case hy47 => (intro w hSw; (try dsimp only at hSw); go_simp <;> with_reducible rfl)
    simp only [Act.put, List.setIfInBounds_toArray, List.set_cons_zero, List.set_cons_succ]
    refine wpAnyH_done (by kernel_rfl) ?_ _
    go_wp2
    go_ret
    exact ⟨rfl, BV5.out⟩
  · have d0 : ((M : Int) == 0) = false := by simp [hM0]
    have I5P := Lib.hid (I5.out (by omega))
    have HWR : Hid (IntKind.i64.wrap ((M : Int) - 1) = (M : Int) - 1) := by show _ = _; simp [IntKind.wrap, IntKind.signed, IntKind.bits]; omega
    clear hM0
    go_wp2_with fail
    go_region_held3 (fun w' => w'.cell? ⟨r, 1, none⟩ = some (.slice A' m c')) (first | exact c6 | exact c7 | exact c8 | exact c9 | exact c10 | exact c11)
      (first
        | (go_at_call 14
           go_fit (image_any p pd pm σa w6.drew HaD.out)
           rintro e v1 ⟨rfl, r1, b1⟩
           rw [I2.out]
           rw [I1.out] at r1
           have t1 : Turns [] w6 v1 := ⟨b1.os, b1.tape, b1.output, b1.size, fun i hi _ => b1.block i hi⟩
           have c7 := t1.cell c6 (by simp)
           have HaV1 := Lib.hid (Ha6.out.keptB t1)
           have HcV1 := Lib.hid (Hc6.out.keptB t1)
           have SX1 := Lib.hid r1.strs
           rw [Hm.out] at SX1
           have SN1 := Lib.hid (S6.out.keep t1 (by simp))
           have BV1 := Lib.hid (B6.out.trans (t1.below B6.out.size (by simp)))
           clear r1 b1 t1)
        | (go_at_call 13
           go_fit (texts_same _ _ m m c' ls v1 hm1 SX1.out SN1.out)
           rintro e v2 ⟨rfl, t2⟩
           have c8 := t2.cell c7 (by simp)
           have HaV2 := Lib.hid (HaV1.out.keptB t2)
           have HcV2 := Lib.hid (HcV1.out.keptB t2)
           have BV2 := Lib.hid (BV1.out.trans (t2.below BV1.out.size (by simp)))
           clear t2)
        | (go_at_call 15
           go_fit (size_any p pd pm σa v2 HaV2.out)
           rintro e v2a ⟨rfl, rfl⟩
           rw [I2.out])
        | (go_at_call 15
           go_fit (size_any q qd qm σc v2 HcV2.out)
           rintro e v2b ⟨rfl, rfl⟩
           rw [I3.out])
        | (go_at_call 16
           rw [HWR.out]
           go_fit (read_any q qd qm σc ((M : Int) - 1) v2 HcV2.out)
           rintro e v3 ⟨rfl, b3⟩
           rw [I5P.out]
           have t3 : Turns [] v2 v3 := Turns.of_below _ b3
           have c9 := t3.cell c8 (by simp)
           have HcV3 := Lib.hid (HcV2.out.keptB t3)
           have BV3 := Lib.hid (BV2.out.trans (b3.mono BV2.out.size))
           clear t3 b3)
        | (go_at_call 16
           go_fit (read_any q qd qm σc (M : Int) v3 HcV3.out)
           rintro e v4 ⟨rfl, b4⟩
           rw [I4.out]
           have t4 : Turns [] v3 v4 := Turns.of_below _ b4
           have c10 := t4.cell c9 (by simp)
           have HcV4 := Lib.hid (HcV3.out.keptB t4)
           have BV4 := Lib.hid (BV3.out.trans (b4.mono BV3.out.size))
           clear t4 b4)
        | (go_at_call 17
           go_fit (loose_any q qd qm σc v4 HcV4.out)
           rintro e v5 ⟨g, cap, zs, rfl, hz, hzl, hrow, b5⟩
           have hz0 := looseOf_none hz I6.out
           rw [hz0]
           have c11 := (Turns.of_below [] (w := v4) (w' := v5) b5).cell c10 (by simp)
           have BV5 := Lib.hid (BV4.out.trans (b5.mono BV4.out.size))
           clear hz hzl hrow b5 hz0))
    go_wp2
    go_ret
    exact ⟨rfl, BV5.out⟩

set_option maxRecDepth 100000 in
theorem lifted (os : Os) (started : os.Started) (H : Type) (enc : TypeId × Value → H) :
    ReturnsInHanded {} Try.checked os 3 .any (Rows.slabLoadsSpec.pre6 enc Try.prog Try.f3 Rows.slabLoadsRow.domain false) (Rows.slabLoadsSpec.post enc Try.prog Try.f3 false true false false) := by
  refine returnsInHanded_of_change_sized (C := Try.checked) own started (by kernel_rfl) Try.func3
    (ChangeSpec.witness6 (enc := enc) (C := Try.checked) false ⟨#[], #[.slice none 0 0, .int .i64 0], []⟩ 8 (by kernel_rfl) (by kernel_rfl) (by kernel_rfl) (by kernel_rfl)) ?_
  intro W base args ds gs before hval0 hW hcnd hsz0 _
  have hval : ∀ (j : Nat) t v, Try.f3.params[j]? = some t → args[j]? = some v → Value.okWide Try.prog W .any base t v := hval0
  have hW' := hW
  obtain ⟨p, q, hA0, hV, rfl, hfz, hnd⟩ := hW
  have hA : DataW.TrodAll enc Try.prog W 0 (fun _ => true) true Try.f3.params.toList args.toList ds p := hA0
  rw [Try.params3] at hA hval
  obtain ⟨v0, vs0, d0, ds0, p0, q0, hargs, rfl, rfl, h0, r0⟩ := trodAll_cons hA
  obtain ⟨v1, vs1, d1, ds1, p1, q1, rfl, rfl, rfl, h1, r1⟩ := trodAll_cons r0
  obtain ⟨rfl, rfl, rfl⟩ := trodAll_nil r1
  obtain rfl : args = #[v0, v1] := by cases args; simp_all
  obtain ⟨rfl, rfl⟩ := trodVars_none hV
  have lt0 : ∀ x ∈ p0, x.block < W.heap.size := by obtain ⟨m, hm⟩ := h0; exact DataW.trod_lt m _ _ _ hm
  obtain ⟨a0, len0, cap0, rfl⟩ := okWide_slice Try.underlying22 (hval 0 22 v0 rfl rfl)
  obtain ⟨l0, w0, e0, c0, z0⟩ := strs_open h0
  obtain ⟨n1, rfl, rfl, rfl, wn1⟩ := open_int Try.underlying3 (hval 1 3 v1 rfl rfl) h1
  clear hA0 hval0
  refine (walk a0 len0 cap0 l0 n1 W w0 e0 c0 z0 (i64_of_wf wn1)).mono fun e W' ⟨he, bel⟩ => ?_
  subst he
  exact ⟨_, rfl, _, _, _, [], _, [], hW', trodAll_mk1 (shut_bool Try.underlying4 _), (trodAll_cons_mk (Below.trod laidOut (by kernel_rfl) (of_decide_eq_true (by kernel_rfl)) h0 bel lt0) (trodAll_cons_mk (shut_int Try.underlying3 wn1) trodAll_mk0)), rfl, bel.frame _, fun h => by cases h⟩

theorem over : Rows.slabLoadsRow.holds Try.pinned (OpenSpec.ofChange Rows.slabLoadsSpec) :=
  OpenClaim.holds_of_wide 3 Try.f3 rfl rfl rfl rfl rfl rfl rfl ⟨rfl, rfl, rfl, rfl, rfl⟩ rfl rfl rfl rfl rfl (by kernel_rfl) Try.func3 (by kernel_rfl)
    (of_decide_eq_true (by kernel_rfl)) (by unfold Func.isWrapper; first | (rw [if_pos (by decide +kernel)]; kernel_rfl) | (rw [if_neg (by decide +kernel)]; exact ⟨rfl, rfl⟩))
    (fun os started H enc _ => lifted os started H enc)

end Go.Proofs.Ytclfklpekkkkfaa.slabLoads
namespace Go.Proofs.Ytclfklpekkkkfaa
theorem slabLoads_proved : Rows.SlabLoadsSaid := slabLoads.over
#print axioms slabLoads_proved
end Go.Proofs.Ytclfklpekkkkfaa
