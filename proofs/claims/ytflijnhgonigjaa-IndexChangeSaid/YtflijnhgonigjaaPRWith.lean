/-
  WALK: the reference's with. Conditions: the entries ascend, at most 1000 of them.
-/
import Derived.Test.YtflijnhgonigjaaPPlayM
namespace Go.Proofs.Ytflijnhgonigjaa
open Go.RowKit
set_option linter.unusedVariables false

set_option maxRecDepth 100000 in
set_option maxHeartbeats 8000000 in
theorem with_any (A : Option Addr) (n c B : Nat) (l : List En) (s : ByteArray) (z : Int) (w : World) (hA : EnsAt w B A n l) (hB : B ≤ w.heap.size) (hnc : n ≤ c) (hn : n ≤ 1000) (hasc : Asc l) (hx : En.fit ⟨s, z⟩) :
    Calls Try.prog 45 #[.slice A n c, .agg #[.string s, .int .i64 z]] w (RetOwn w (putL l (kL l s) ⟨s, z⟩)) := by
  have HL := Lib.hid hA.len
  have HST := Lib.hid (fun q (hq : q < n) hle => kL_step hasc s (by rw [HL.out]; exact hq) hle)
  have HKL : Hid (kL l s ≤ n) := by show _ ≤ _; rw [← HL.out]; exact kL_le l s
  have HFIT := Lib.hid hx
  have HA : Hid (EnsAt w w.heap.size A n l) := hA.more hB
  have hbd := Lib.hid hA.bd
  have HBA : Hid (Below w.heap.size w (w.alloc (.cells #[.string s, .int .i64 z] 47))) := (Below.refl _ _).alloc (Nat.le_refl _) _
  have HN1 : Hid ((w.alloc (.cells #[.string s, .int .i64 z] 47)).cell? ⟨w.heap.size, 0, none⟩ = some (.string s)) := cell_new w _ 47 0 rfl
  have HN2 : Hid ((w.alloc (.cells #[.string s, .int .i64 z] 47)).cell? ⟨w.heap.size, 1, none⟩ = some (.int .i64 z)) := cell_new w _ 47 1 rfl
  clear hA hasc hx
  generalize hkk : kL l s = K at *
  clear hkk
  go_enter Try.func45, Try.ntmps45
  go_wp2
  go_loopw [5] (fun i wr => ∃ q : Nat, q ≤ K ∧ i = .int .i64 (q : Int) ∧ Drew (w.alloc (.cells #[.string s, .int .i64 z] 47)) wr) (fun i _ => n - (intOf i).toNat)
  case atStart => exact ⟨0, Nat.zero_le _, rfl, Drew.refl _⟩
  case round =>
    obtain ⟨q, hq, rfl, hd⟩ := hrel
    have hkn := HKL.out
    have c1 := (hd.cells _).trans HN1.out
    have c2 := (hd.cells _).trans HN2.out
    by_cases hqn : q < n
    · obtain ⟨b, o, rfl, hbB, g1, g2⟩ := HA.out.at_ hqn
      have e1 := (hd.cells _).trans (bcell HBA.out g1 hbB)
      have e2 := (hd.cells _).trans (bcell HBA.out g2 hbB)
      have hst := HST.out q hqn hq
      have hsz1 := (hbd.out q).1
      have y1 : decide ((q : Int) < (n : Int)) = true := by simp; omega
      have y2 : decide (q < n) = true := by simpa using hqn
      have y3 : (q : Int) < (n : Int) := by omega
      have y5 : (0 : Int) ≤ (q : Int) := by omega
      generalize (l.getD q En.z).nm = t at *
      clear g1 g2
      cases hlt : ltB t s with
      | true =>
        have HK1 := Lib.hid (hst.1 hlt)
        have HC : Hid (∀ W, Calls Try.prog 36 #[.string t, .string s] W fun e w' => e = .returned (.bool true) ∧ Drew W w') := fun W => by rw [← hlt]; exact ahead_any t s W hsz1
        clear hlt hst
        go_wp2_with fail
        refine wp_region_quiet_lit (by kernel_rfl) (by kernel_rfl) ?_
        repeat (go_big_quiet_step ((go_at_call 36; with_reducible exact quiet_drew (HC.out _))))
        refine wpQuiet_nil ?_
        intro _ hw'
        obtain ⟨nq, hw''⟩ := hw'
        subst hw''
        go_wp2_with fail
        go_roundw
        case rel => exact ⟨q + 1, HK1.out, by go_num, hd.trans ⟨nq, rfl⟩⟩
        case measure => simp [intOf]; omega
      | false =>
        have HK1 := Lib.hid (hst.2 hlt)
        have HC : Hid (∀ W, Calls Try.prog 36 #[.string t, .string s] W fun e w' => e = .returned (.bool false) ∧ Drew W w') := fun W => by rw [← hlt]; exact ahead_any t s W hsz1
        clear hlt hst
        obtain rfl : q = K := by have := HK1.out; omega
        go_wp2_with fail
        refine wp_region_quiet_lit (by kernel_rfl) (by kernel_rfl) ?_
        repeat (go_big_quiet_step ((go_at_call 36; with_reducible exact quiet_drew (HC.out _))))
        refine wpQuiet_nil ?_
        intro _ hw'
        obtain ⟨nq, hw''⟩ := hw'
        subst hw''
        have hdw := hd.trans ⟨nq, rfl⟩
        have m1 : Hid ((wr.drewN nq).cell? ⟨w.heap.size, 0, none⟩ = some (.string s)) := (hdw.cells _).trans HN1.out
        have m2 : Hid ((wr.drewN nq).cell? ⟨w.heap.size, 1, none⟩ = some (.int .i64 z)) := (hdw.cells _).trans HN2.out
        have hbw : Below w.heap.size w (wr.drewN nq) := Below.drews HBA.out hdw
        have hsz : w.heap.size < (wr.drewN nq).heap.size := by obtain ⟨r, hr⟩ := hdw; rw [hr]; show _ < (w.alloc _).heap.size; simp
        have HE3 : Hid (EnsAt (wr.drewN nq) w.heap.size (some ⟨b, o, none⟩) n l) := HA.out.below hbw (Nat.le_refl _)
        have HBW := Lib.hid hbw
        have HSZ := Lib.hid hsz
        clear hd hdw hbw hsz
        generalize wr.drewN nq = w3 at *
        have y4 : (0 : Int) ≤ (q : Int) := by omega
        have y10 : (q : Int) ≤ (c : Int) := by omega
        have y11 : (q : Int) ≤ (n : Int) := by omega
        have HEJ : Hid (∀ W' : World, Below w3.heap.size w3 W' → EnsAt W' w.heap.size (some ⟨b, o, none⟩) q (l.take q)) := fun W' h => (HE3.out.take q (by omega)).below h (Nat.le_of_lt HSZ.out)
        have HEX : Hid (∀ W' : World, Below (w3.alloc (.cells #[.string s, .int .i64 z] 47)).drew.heap.size (w3.alloc (.cells #[.string s, .int .i64 z] 47)).drew W' → EnsAt W' (w3.alloc (.cells #[.string s, .int .i64 z] 47)).drew.heap.size (some ⟨w3.heap.size, 0, none⟩) 1 [⟨s, z⟩]) := fun W' h =>
          (ens_cells (w := (w3.alloc (.cells #[.string s, .int .i64 z] 47)).drew) (l := [⟨s, z⟩]) (fun j u hj => by rw [Nat.zero_add]; exact cell_new w3 _ 47 j (by rw [List.getElem?_toArray]; exact hj)) (by simp) (fun e he => by rw [List.mem_singleton] at he; rw [he]; exact HFIT.out)).below h (Nat.le_refl _)
        have HEXA : Hid (∀ W' : World, EnsAt (W'.alloc (.cells #[.string s, .int .i64 z] 47)) (W'.alloc (.cells #[.string s, .int .i64 z] 47)).heap.size (some ⟨W'.heap.size, 0, none⟩) 1 [⟨s, z⟩]) := fun W' =>
          ens_cells (l := [⟨s, z⟩]) (fun j u hj => by rw [Nat.zero_add]; exact cell_new W' _ 47 j (by rw [List.getElem?_toArray]; exact hj)) (by simp) (fun e he => by rw [List.mem_singleton] at he; rw [he]; exact HFIT.out)
        have B0 : Hid (Below w3.heap.size w3 (w3.alloc (.cells #[.string s, .int .i64 z] 47)).drew) := (((Below.refl _ _).alloc (Nat.le_refl _) _).trans ⟨rfl, rfl, rfl, Nat.le_refl _, fun _ _ => rfl⟩)
        have BA : Hid (Below w3.heap.size w3 w3.drew) := ⟨rfl, rfl, rfl, Nat.le_refl _, fun _ _ => rfl⟩
        have HXZ : Hid ((w3.alloc (.cells #[.string s, .int .i64 z] 47)).drew.heap.size = w3.heap.size + 1) := by show _ = _; simp
        have d1 : w3.drew.cell? ⟨w.heap.size, 0, none⟩ = some (.string s) := m1.out
        have d2 : w3.drew.cell? ⟨w.heap.size, 1, none⟩ = some (.int .i64 z) := m2.out
        have HCUT : Hid (l.take q ++ [⟨s, z⟩] ++ l.drop q = putL l q ⟨s, z⟩) := by show _ = _; unfold putL; simp
        have HED : Hid (∀ W' : World, Below w3.heap.size w3 W' → EnsAt W' w.heap.size (some ⟨b, o + q * 2, none⟩) (n - q) (l.drop q)) := fun W' h => (HE3.out.drop q).below h (Nat.le_of_lt HSZ.out)
        have hcq : ¬ c = q := by omega
        go_wp2_with fail
        go_region_law (first
          | (refine step_join (by rfl) (.const (.slice none 0 0)) (.tmp 24) (by rfl) w3.heap.size _ (.slice none 0 0) [] (by simp [Act.eval]) w.heap.size (some ⟨b, o, none⟩) q c (l.take q) (by simp [Act.eval, Act.put]) (World.ownsRow_nil _ _ _ _) (HEJ.out w3.drew BA.out) (by simp; omega) (Nat.le_refl _) ?_
             intro v4' w4 ho4 b4
             have f1 := bcell b4 d1 HSZ.out
             have f2 := bcell b4 d2 HSZ.out)
          | (refine step_join (by rfl) (.const (.slice none 0 0)) (.tmp 24) (by rfl) (w3.alloc (.cells #[.string s, .int .i64 z] 47)).drew.heap.size _ (.slice none 0 0) [] (by simp [Act.eval]) w.heap.size (some ⟨b, o, none⟩) q c (l.take q) (by simp [Act.eval]) (World.ownsRow_nil _ _ _ _) (HEJ.out (w3.alloc (.cells #[.string s, .int .i64 z] 47)).drew B0.out) (by simp; omega) (Nat.le_refl _) ?_
             intro v4' w4 ho4 b4)
          | (refine step_join (by rfl) (.tmp 25) (.tmp 27) (by rfl) w3.heap.size (w4.alloc (.cells #[.string s, .int .i64 z] 47)) v4' _ (by simp [Act.eval]) (w4.alloc (.cells #[.string s, .int .i64 z] 47)).heap.size (some ⟨w4.heap.size, 0, none⟩) 1 1 [⟨s, z⟩] (by simp [Act.eval]) (ho4.alloc _) (HEXA.out w4) (by simp; omega) (by have := b4.size; simp at this ⊢; omega) ?_
             intro v5 w5 ho5 b5
             have b45 : Below w3.heap.size w3 w5 := ((undrew b4).alloc (undrew b4).size _).trans b5
             have hz5 : w3.heap.size ≤ w5.heap.size := b45.size)
          | (refine step_join (by rfl) (.tmp 25) (.tmp 27) (by rfl) (w3.alloc (.cells #[.string s, .int .i64 z] 47)).drew.heap.size w4 v4' _ (by simp [Act.eval]) (w3.alloc (.cells #[.string s, .int .i64 z] 47)).drew.heap.size (some ⟨w3.heap.size, 0, none⟩) 1 1 [⟨s, z⟩] (by simp [Act.eval]) ho4 (HEX.out w4 b4) (by simp; omega) b4.size ?_
             intro v5 w5 ho5 b5
             have b45 : Below w3.heap.size w3 w5 := B0.out.trans ((b4.trans (b5.mono (Nat.le_refl _))).mono (by rw [HXZ.out]; exact Nat.le_succ _))
             have hz5 : (w3.alloc (.cells #[.string s, .int .i64 z] 47)).drew.heap.size ≤ w5.heap.size := Nat.le_trans b4.size b5.size)
          | (refine step_join (by rfl) (.tmp 28) (.tmp 31) (by rfl) _ w5 v5 _ (by simp [Act.eval]) w.heap.size (some ⟨b, o + q * 2, none⟩) (n - q) (c - q) (l.drop q) (by simp [Act.eval]) ho5 (HED.out w5 b45) (by simp; omega) hz5 ?_
             intro v6 w6 ho6 b6
             have b36 : Below w3.heap.size w3 w6 := b45.trans (b6.mono (by first | exact Nat.le_refl _ | (rw [HXZ.out]; exact Nat.le_succ _)))
             have hbase : w.heap.size ≤ w3.heap.size := Nat.le_of_lt HSZ.out
             have hbase2 : w.heap.size ≤ (w3.alloc (.cells #[.string s, .int .i64 z] 47)).drew.heap.size := by rw [HXZ.out]; omega))
        all_goals
          rw [List.nil_append, HCUT.out] at ho6
          go_wp2
          all_goals go_ret
          all_goals exact ⟨_, rfl, own_base ho6 (by assumption), HBW.out.trans (b36.mono hbase)⟩
    · obtain rfl : q = K := by omega
      have y1 : decide ((q : Int) < (n : Int)) = false := by simp; omega
      have y2 : decide (q < n) = false := by simpa using hqn
      have y3 : ¬ (q : Int) < (n : Int) := by omega
      go_wp2_with fail
      refine wp_region_quiet_lit (by kernel_rfl) (by kernel_rfl) ?_
      repeat (go_big_quiet_step (fail))
      refine wpQuiet_nil ?_
      intro _ hw'
      obtain ⟨nq, hw''⟩ := hw'
      subst hw''
      have hdw := hd.trans ⟨nq, rfl⟩
      have m1 : Hid ((wr.drewN nq).cell? ⟨w.heap.size, 0, none⟩ = some (.string s)) := (hdw.cells _).trans HN1.out
      have m2 : Hid ((wr.drewN nq).cell? ⟨w.heap.size, 1, none⟩ = some (.int .i64 z)) := (hdw.cells _).trans HN2.out
      have hbw : Below w.heap.size w (wr.drewN nq) := Below.drews HBA.out hdw
      have hsz : w.heap.size < (wr.drewN nq).heap.size := by obtain ⟨r, hr⟩ := hdw; rw [hr]; show _ < (w.alloc _).heap.size; simp
      have HE3 : Hid (EnsAt (wr.drewN nq) w.heap.size A n l) := HA.out.below hbw (Nat.le_refl _)
      have HBW := Lib.hid hbw
      have HSZ := Lib.hid hsz
      clear hd hdw hbw hsz
      generalize wr.drewN nq = w3 at *
      have y4 : (0 : Int) ≤ (q : Int) := by omega
      have y10 : (q : Int) ≤ (c : Int) := by omega
      have y11 : (q : Int) ≤ (n : Int) := by omega
      have HEJ : Hid (∀ W' : World, Below w3.heap.size w3 W' → EnsAt W' w.heap.size A q (l.take q)) := fun W' h => (HE3.out.take q (by omega)).below h (Nat.le_of_lt HSZ.out)
      have HEX : Hid (∀ W' : World, Below (w3.alloc (.cells #[.string s, .int .i64 z] 47)).drew.heap.size (w3.alloc (.cells #[.string s, .int .i64 z] 47)).drew W' → EnsAt W' (w3.alloc (.cells #[.string s, .int .i64 z] 47)).drew.heap.size (some ⟨w3.heap.size, 0, none⟩) 1 [⟨s, z⟩]) := fun W' h =>
        (ens_cells (w := (w3.alloc (.cells #[.string s, .int .i64 z] 47)).drew) (l := [⟨s, z⟩]) (fun j u hj => by rw [Nat.zero_add]; exact cell_new w3 _ 47 j (by rw [List.getElem?_toArray]; exact hj)) (by simp) (fun e he => by rw [List.mem_singleton] at he; rw [he]; exact HFIT.out)).below h (Nat.le_refl _)
      have HEXA : Hid (∀ W' : World, EnsAt (W'.alloc (.cells #[.string s, .int .i64 z] 47)) (W'.alloc (.cells #[.string s, .int .i64 z] 47)).heap.size (some ⟨W'.heap.size, 0, none⟩) 1 [⟨s, z⟩]) := fun W' =>
        ens_cells (l := [⟨s, z⟩]) (fun j u hj => by rw [Nat.zero_add]; exact cell_new W' _ 47 j (by rw [List.getElem?_toArray]; exact hj)) (by simp) (fun e he => by rw [List.mem_singleton] at he; rw [he]; exact HFIT.out)
      have B0 : Hid (Below w3.heap.size w3 (w3.alloc (.cells #[.string s, .int .i64 z] 47)).drew) := (((Below.refl _ _).alloc (Nat.le_refl _) _).trans ⟨rfl, rfl, rfl, Nat.le_refl _, fun _ _ => rfl⟩)
      have BA : Hid (Below w3.heap.size w3 w3.drew) := ⟨rfl, rfl, rfl, Nat.le_refl _, fun _ _ => rfl⟩
      have HXZ : Hid ((w3.alloc (.cells #[.string s, .int .i64 z] 47)).drew.heap.size = w3.heap.size + 1) := by show _ = _; simp
      have d1 : w3.drew.cell? ⟨w.heap.size, 0, none⟩ = some (.string s) := m1.out
      have d2 : w3.drew.cell? ⟨w.heap.size, 1, none⟩ = some (.int .i64 z) := m2.out
      have HCUT : Hid (l.take q ++ [⟨s, z⟩] ++ l.drop q = putL l q ⟨s, z⟩) := by show _ = _; unfold putL; simp
      have HED : Hid (∀ W' : World, Below w3.heap.size w3 W' → EnsAt W' w.heap.size (if c = q then A else A.map (fun x => x.add (q * 2))) (n - q) (l.drop q)) := fun W' h => by
        rw [show l.drop q = [] from List.drop_eq_nil_of_le (by rw [HL.out]; omega), show n - q = 0 by omega]
        exact EnsAt.nil _ _ _
      go_wp2_with fail
      go_region_law (first
        | (refine step_join (by rfl) (.const (.slice none 0 0)) (.tmp 24) (by rfl) w3.heap.size _ (.slice none 0 0) [] (by simp [Act.eval]) w.heap.size A q c (l.take q) (by simp [Act.eval, Act.put]) (World.ownsRow_nil _ _ _ _) (HEJ.out w3.drew BA.out) (by simp; omega) (Nat.le_refl _) ?_
           intro v4' w4 ho4 b4
           have f1 := bcell b4 d1 HSZ.out
           have f2 := bcell b4 d2 HSZ.out)
        | (refine step_join (by rfl) (.const (.slice none 0 0)) (.tmp 24) (by rfl) (w3.alloc (.cells #[.string s, .int .i64 z] 47)).drew.heap.size _ (.slice none 0 0) [] (by simp [Act.eval]) w.heap.size A q c (l.take q) (by simp [Act.eval]) (World.ownsRow_nil _ _ _ _) (HEJ.out (w3.alloc (.cells #[.string s, .int .i64 z] 47)).drew B0.out) (by simp; omega) (Nat.le_refl _) ?_
           intro v4' w4 ho4 b4)
        | (refine step_join (by rfl) (.tmp 25) (.tmp 27) (by rfl) w3.heap.size (w4.alloc (.cells #[.string s, .int .i64 z] 47)) v4' _ (by simp [Act.eval]) (w4.alloc (.cells #[.string s, .int .i64 z] 47)).heap.size (some ⟨w4.heap.size, 0, none⟩) 1 1 [⟨s, z⟩] (by simp [Act.eval]) (ho4.alloc _) (HEXA.out w4) (by simp; omega) (by have := b4.size; simp at this ⊢; omega) ?_
           intro v5 w5 ho5 b5
           have b45 : Below w3.heap.size w3 w5 := ((undrew b4).alloc (undrew b4).size _).trans b5
           have hz5 : w3.heap.size ≤ w5.heap.size := b45.size)
        | (refine step_join (by rfl) (.tmp 25) (.tmp 27) (by rfl) (w3.alloc (.cells #[.string s, .int .i64 z] 47)).drew.heap.size w4 v4' _ (by simp [Act.eval]) (w3.alloc (.cells #[.string s, .int .i64 z] 47)).drew.heap.size (some ⟨w3.heap.size, 0, none⟩) 1 1 [⟨s, z⟩] (by simp [Act.eval]) ho4 (HEX.out w4 b4) (by simp; omega) b4.size ?_
           intro v5 w5 ho5 b5
           have b45 : Below w3.heap.size w3 w5 := B0.out.trans ((b4.trans (b5.mono (Nat.le_refl _))).mono (by rw [HXZ.out]; exact Nat.le_succ _))
           have hz5 : (w3.alloc (.cells #[.string s, .int .i64 z] 47)).drew.heap.size ≤ w5.heap.size := Nat.le_trans b4.size b5.size)
        | (refine step_join (by rfl) (.tmp 28) (.tmp 31) (by rfl) _ w5 v5 _ (by simp [Act.eval]) w.heap.size (if c = q then A else A.map (fun x => x.add (q * 2))) (n - q) (c - q) (l.drop q) (by simp [Act.eval]) ho5 (HED.out w5 b45) (by simp; omega) hz5 ?_
           intro v6 w6 ho6 b6
           have b36 : Below w3.heap.size w3 w6 := b45.trans (b6.mono (by first | exact Nat.le_refl _ | (rw [HXZ.out]; exact Nat.le_succ _)))
           have hbase : w.heap.size ≤ w3.heap.size := Nat.le_of_lt HSZ.out
           have hbase2 : w.heap.size ≤ (w3.alloc (.cells #[.string s, .int .i64 z] 47)).drew.heap.size := by rw [HXZ.out]; omega))
      all_goals
        rw [List.nil_append, HCUT.out] at ho6
        go_wp2
        all_goals go_ret
        all_goals exact ⟨_, rfl, own_base ho6 (by assumption), HBW.out.trans (b36.mono hbase)⟩

end Go.Proofs.Ytflijnhgonigjaa
