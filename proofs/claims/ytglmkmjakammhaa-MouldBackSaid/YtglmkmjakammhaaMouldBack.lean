/-
  PROVED: 'wainwrightlaw01.MouldBack' returns true for every input (two slices of ints and a string, of whatever length and content), and its arguments read afterwards as before. Conditions: none beside those that the row itself says (the form's own reach).
-/
import Derived.Test.YtglmkmjakammhaaFrame
import Derived.Test.YtglmkmjakammhaaPlainC
import Derived.Lib.Strings
namespace Go.Proofs.Ytglmkmjakammhaa.mouldBack
open Go.ChangeShapes Go.WideShapes Go.ChangeAt Go.RowKit
open Go.ChangeMaps (open_string shut_string)
set_option linter.unusedVariables false

theorem bytes_of_nums : ∀ (bs : List Int), (∀ b ∈ bs, 0 ≤ b ∧ b ≤ 255) → bytesOf (strOfNums bs) = bs := by
  intro bs h
  unfold bytesOf
  rw [strOfNums_data, List.map_map]
  conv => rhs; rw [← List.map_id bs]
  refine List.map_congr_left fun b hb => ?_
  have := h b hb
  simp only [Function.comp, id]
  rw [UInt8.toNat_ofNat']
  omega
theorem bytes_append (s t : ByteArray) : bytesOf (s ++ t) = bytesOf s ++ bytesOf t := by
  unfold bytesOf
  simp
theorem nums_take (s : ByteArray) (k : Nat) : strOfNums ((bytesOf s).take k) = s.extract 0 k := by
  apply ByteArray.ext
  apply Array.ext'
  rw [strOfNums_data, Lib.extract_data, bytesOf, ← List.map_take, List.map_map]
  rw [List.drop_zero, Nat.sub_zero]
  conv => rhs; rw [← List.map_id (List.take k s.data.toList)]
  refine List.map_congr_left fun b _ => ?_
  simp
theorem nums_size (bs : List Int) : (strOfNums bs).size = bs.length := strOfNums_size bs

theorem readR_len (ws bs : List Int) : (readR ws bs).1.length ≤ ws.length := by
  unfold readR
  split
  · split
    · simp
    · simp [readTo_len]
  · simp

set_option maxHeartbeats 1000000 in
theorem walk (A : Option Addr) (n c : Nat) (ws : List Int) (A' : Option Addr) (m c' : Nat) (vs : List Int) (s : ByteArray) (w : World) (hr : IntsAt w w.heap.size A n ws) (hn : n ≤ 17592186044416) (hr' : IntsAt w w.heap.size A' m vs) (hm : m ≤ 17592186044416) (hs : s.size ≤ 140737488355328) :
    Calls Try.prog 5 #[.slice A n c, .slice A' m c', .string s] w fun e w' => e = .returned (.bool true) ∧ Below w.heap.size w w' := by
  have hwl := writeR_len ws vs
  rw [hr.len] at hwl
  have hss : (strOfNums (writeR ws vs).1).size ≤ 70368744177664 := by rw [nums_size]; omega
  have hbs := bytes_of_nums _ (writeR_bytes ws vs)
  have HBS := Lib.hid hbs
  have HSS := Lib.hid hss
  clear hwl hss hbs
  by_cases hw : (writeR ws vs).2 = 0
  · have hback := readR_written ws vs (bytesOf s) hw
    have HB1 := Lib.hid hback.1
    have HB2 : Hid (((strOfNums (writeR ws vs).1).size : Int) = sizeS ws) := by show _ = _; rw [nums_size]; exact hback.2
    clear hback
    go_enter Try.func5, Try.ntmps5
    go_wp2_with fail
    refine (lives_any w).mono ?_
    rintro e w1 ⟨rfl, hb1⟩
    have h1 := hr.below hb1 (Nat.le_refl _)
    have h1' := hr'.below hb1 (Nat.le_refl _)
    go_wp2_with fail
    refine (write_any A A' n c m c' w.heap.size ws vs w1 h1 h1' hb1.size (by omega) (by omega)).mono ?_
    rintro e w2 ⟨rfl, hb2⟩
    have hb12 := hb1.trans (hb2.mono hb1.size)
    have h2 := hr.below hb12 (Nat.le_refl _)
    rw [hw]
    have HW := Lib.hid hw
    clear h1 h1' hb1 hb2 hw
    generalize hst : strOfNums (writeR ws vs).1 = st at *
    generalize (writeR ws vs).1 = wb at *
    clear hst
    have hsz := HSS.out
    go_wp2_with fail
    refine (read_any A n c w.heap.size ws (st ++ s) w2 h2 hb12.size (by omega) (by rw [ByteArray.size_append]; omega)).mono ?_
    rintro e w3 ⟨A3, n3, c3, rfl, hi3, hb3⟩
    rw [bytes_append, HBS.out, HB1.out] at hi3 ⊢
    have hb13 := hb12.trans (hb3.mono hb12.size)
    have h3 := hr.below hb13 (Nat.le_refl _)
    have h3' := (hr'.below hb13 (Nat.le_refl _)).more hb13.size
    have hn3 : n3 ≤ 20000000000000 := by have e1 : vs.length = n3 := hi3.len; have := hr'.len; omega
    clear h2 hb3 hb12
    go_wp2_with fail
    refine (same_any A3 A' n3 c3 m c' w3.heap.size vs vs w3 hi3 h3' (Nat.le_refl _) hn3 (by omega)).mono ?_
    rintro e w4 ⟨rfl, hb4⟩
    have hb14 := hb13.trans (hb4.mono hb13.size)
    have h4 := hr.below hb14 (Nat.le_refl _)
    have hdt : decide (vs = vs) = true := by simp
    rw [hdt]
    clear hdt hi3 h3 h3' hb4 hb13
    have hq : ((st.size : Int) != sizeS ws) = false := by rw [HB2.out]; simp
    go_wp2_with (go_at_call 11; refine (size_any A n c w.heap.size ws w4 h4 (by omega)).mono ?_; rintro e w' ⟨rfl, rfl⟩)
    refine (read_any A n c w.heap.size ws s w4 h4 hb14.size (by omega) (by omega)).mono ?_
    rintro e w5 ⟨A5, n5, c5, rfl, hi5, hb5⟩
    have hb15 := hb14.trans (hb5.mono hb14.size)
    have h5 := (hr.below hb15 (Nat.le_refl _)).more hb15.size
    have hn5 : n5 ≤ 20000000000000 := by have := hi5.len; have := readR_len ws (bytesOf s); have := hr.len; omega
    clear hb5 h4
    go_wp2_with fail
    refine (write_any A A5 n c n5 c5 w5.heap.size ws _ w5 h5 hi5 (Nat.le_refl _) (by omega) hn5).mono ?_
    rintro e w6 ⟨rfl, hb6⟩
    have hb16 := hb15.trans (hb6.mono hb15.size)
    by_cases hg : (readR ws (bytesOf s)).2 = 0
    · obtain ⟨k, hk, hwk⟩ := writeR_read ws (bytesOf s) (bytesOf_bd s) hg
      rw [hg, hwk]
      rw [bytesOf_len] at hk
      rw [nums_take]
      have hes : (s.extract 0 k).size = k := by rw [ByteArray.size_extract]; omega
      have HK := Lib.hid hwk
      have HG := Lib.hid hg
      clear hwk hg hb6 hb15 hi5 h5 hb14
      go_wp2
      go_ret
      exact ⟨rfl, hb16⟩
    · have hg' : ((readR ws (bytesOf s)).2 != 0) = true := bne_iff_ne.2 hg
      generalize (readR ws (bytesOf s)).2 = g at *
      generalize strOfNums (writeR ws (readR ws (bytesOf s)).1).1 = st6
      generalize (writeR ws (readR ws (bytesOf s)).1).2 = e6
      go_wp2
      go_ret
      exact ⟨rfl, hb16⟩
  · go_enter Try.func5, Try.ntmps5
    go_wp2_with fail
    refine (lives_any w).mono ?_
    rintro e w1 ⟨rfl, hb1⟩
    have h1 := hr.below hb1 (Nat.le_refl _)
    have h1' := hr'.below hb1 (Nat.le_refl _)
    go_wp2_with fail
    refine (write_any A A' n c m c' w.heap.size ws vs w1 h1 h1' hb1.size (by omega) (by omega)).mono ?_
    rintro e w2 ⟨rfl, hb2⟩
    have hb12 := hb1.trans (hb2.mono hb1.size)
    have h2 := hr.below hb12 (Nat.le_refl _)
    have hw' : ((writeR ws vs).2 == 0) = false := beq_eq_false_iff_ne.2 hw
    clear h1 h1' hb1 hb2 hw
    generalize (writeR ws vs).2 = er at *
    generalize hst : strOfNums (writeR ws vs).1 = st at *
    generalize (writeR ws vs).1 = wb at *
    clear hst
    have hsz := HSS.out
    go_wp2_with fail
    refine (read_any A n c w.heap.size ws (st ++ s) w2 h2 hb12.size (by omega) (by rw [ByteArray.size_append]; omega)).mono ?_
    rintro e w4 ⟨A3, n3, c3, rfl, hi3, hb3⟩
    have hb14 := hb12.trans (hb3.mono hb12.size)
    have h4 := hr.below hb14 (Nat.le_refl _)
    clear h2 hb3 hb12
    generalize (readR ws (bytesOf (st ++ s))).2 = f at *
    generalize (readR ws (bytesOf (st ++ s))).1 = al at *
    go_wp2_with fail
    refine (read_any A n c w.heap.size ws s w4 h4 hb14.size (by omega) (by omega)).mono ?_
    rintro e w5 ⟨A5, n5, c5, rfl, hi5, hb5⟩
    have hb15 := hb14.trans (hb5.mono hb14.size)
    have h5 := (hr.below hb15 (Nat.le_refl _)).more hb15.size
    have hn5 : n5 ≤ 20000000000000 := by have := hi5.len; have := readR_len ws (bytesOf s); have := hr.len; omega
    clear hb5 h4
    go_wp2_with fail
    refine (write_any A A5 n c n5 c5 w5.heap.size ws _ w5 h5 hi5 (Nat.le_refl _) (by omega) hn5).mono ?_
    rintro e w6 ⟨rfl, hb6⟩
    have hb16 := hb15.trans (hb6.mono hb15.size)
    by_cases hg : (readR ws (bytesOf s)).2 = 0
    · obtain ⟨k, hk, hwk⟩ := writeR_read ws (bytesOf s) (bytesOf_bd s) hg
      rw [hg, hwk]
      rw [bytesOf_len] at hk
      rw [nums_take]
      have hes : (s.extract 0 k).size = k := by rw [ByteArray.size_extract]; omega
      have HK := Lib.hid hwk
      have HG := Lib.hid hg
      clear hwk hg hb6 hb15 hi5 h5 hb14
      go_wp2
      go_ret
      exact ⟨rfl, hb16⟩
    · have hg' : ((readR ws (bytesOf s)).2 != 0) = true := bne_iff_ne.2 hg
      generalize (readR ws (bytesOf s)).2 = g at *
      generalize strOfNums (writeR ws (readR ws (bytesOf s)).1).1 = st6
      generalize (writeR ws (readR ws (bytesOf s)).1).2 = e6
      go_wp2
      go_ret
      exact ⟨rfl, hb16⟩
set_option maxRecDepth 100000 in
theorem lifted (os : Os) (started : os.Started) (H : Type) (enc : TypeId × Value → H) :
    ReturnsInHanded {} Try.checked os 5 .any (Rows.mouldBackSpec.pre6 enc Try.prog Try.f5 Rows.mouldBackRow.domain false) (Rows.mouldBackSpec.post enc Try.prog Try.f5 false true false false) := by
  refine returnsInHanded_of_change_sized (C := Try.checked) own started (by kernel_rfl) Try.func5
    (ChangeSpec.witness6 (enc := enc) (C := Try.checked) false ⟨#[], #[.slice none 0 0, .slice none 0 0, .string ByteArray.empty], []⟩ 8 (by kernel_rfl) (by kernel_rfl) (by kernel_rfl) (by kernel_rfl)) ?_
  intro W base args ds gs before hval0 hW hcnd hsz0 _
  have hval : ∀ (j : Nat) t v, Try.f5.params[j]? = some t → args[j]? = some v → Value.okWide Try.prog W .any base t v := hval0
  have hsz : (DataW.weightsEach Try.prog (Try.f5.params.toList ++ Rows.mouldBackSpec.plain.varTypes Try.prog) (ds ++ gs)).all (· ≤ reachBytes) = true := hsz0
  have hW' := hW
  obtain ⟨p, q, hA0, hV, rfl, hfz, hnd⟩ := hW
  have hA : DataW.TrodAll enc Try.prog W 0 (fun _ => true) true Try.f5.params.toList args.toList ds p := hA0
  rw [Try.params5] at hA hval hsz
  obtain ⟨v0, vs0, d0, ds0, p0, q0, hargs, rfl, rfl, h0, r0⟩ := trodAll_cons hA
  obtain ⟨v1, vs1, d1, ds1, p1, q1, rfl, rfl, rfl, h1, r1⟩ := trodAll_cons r0
  obtain ⟨v2, vs2, d2, ds2, p2, q2, rfl, rfl, rfl, h2, r2⟩ := trodAll_cons r1
  obtain ⟨rfl, rfl, rfl⟩ := trodAll_nil r2
  obtain rfl : args = #[v0, v1, v2] := by cases args; simp_all
  obtain ⟨rfl, rfl⟩ := trodVars_none hV
  obtain ⟨a0, len0, cap0, rfl⟩ := okWide_slice Try.underlying22 (hval 0 22 v0 rfl rfl)
  have lt0 : ∀ x ∈ p0, x.block < W.heap.size := by obtain ⟨m, hm⟩ := h0; exact DataW.trod_lt m _ _ _ hm
  obtain ⟨z0, w0, b0⟩ := row_open h0 (fun elems spare hd => sized_slice hsz (j := 0) (t := 22) (e := 3) rfl (by rw [hd]; rfl) Try.underlying22)
  obtain ⟨a1, len1, cap1, rfl⟩ := okWide_slice Try.underlying22 (hval 1 22 v1 rfl rfl)
  have lt1 : ∀ x ∈ p1, x.block < W.heap.size := by obtain ⟨m, hm⟩ := h1; exact DataW.trod_lt m _ _ _ hm
  obtain ⟨z1, w1, b1⟩ := row_open h1 (fun elems spare hd => sized_slice hsz (j := 1) (t := 22) (e := 3) rfl (by rw [hd]; rfl) Try.underlying22)
  obtain ⟨s2, rfl, rfl, rfl, hs2⟩ := open_string Try.underlying9 (hval 2 9 v2 rfl rfl) h2
  have b2 : s2.size ≤ 140737488355328 := by
    have := sized_string hsz (j := 2) (t := 9) rfl rfl
    rw [Array.length_toList] at this
    simp only [reachBytes] at this
    exact Nat.le_trans this (by decide)
  clear hA0 hval0
  refine (walk a0 len0 cap0 z0 a1 len1 cap1 z1 s2 W w0 b0 w1 b1 b2).mono fun e W' ⟨he, bel⟩ => ?_
  subst he
  exact ⟨_, rfl, _, _, _, [], _, [], hW', trodAll_mk1 (shut_bool Try.underlying4 _), (trodAll_cons_mk (Below.trod laidOut (by kernel_rfl) (of_decide_eq_true (by kernel_rfl)) h0 bel lt0) (trodAll_cons_mk (Below.trod laidOut (by kernel_rfl) (of_decide_eq_true (by kernel_rfl)) h1 bel lt1) (trodAll_cons_mk (shut_string Try.underlying9 hs2) trodAll_mk0))), rfl, bel.frame _, fun h => by cases h⟩

theorem over : Rows.mouldBackRow.holds Try.pinned (OpenSpec.ofChange Rows.mouldBackSpec) :=
  OpenClaim.holds_of_wide 5 Try.f5 rfl rfl rfl rfl rfl rfl rfl ⟨rfl, rfl, rfl, rfl, rfl⟩ rfl rfl rfl rfl rfl (by kernel_rfl) Try.func5 (by kernel_rfl)
    (of_decide_eq_true (by kernel_rfl)) (by unfold Func.isWrapper; first | (rw [if_pos (by decide +kernel)]; kernel_rfl) | (rw [if_neg (by decide +kernel)]; exact ⟨rfl, rfl⟩))
    (fun os started H enc _ => lifted os started H enc)

end Go.Proofs.Ytglmkmjakammhaa.mouldBack
namespace Go.Proofs.Ytglmkmjakammhaa
theorem mouldBack_proved : Rows.MouldBackSaid := mouldBack.over
#print axioms mouldBack_proved
end Go.Proofs.Ytglmkmjakammhaa
