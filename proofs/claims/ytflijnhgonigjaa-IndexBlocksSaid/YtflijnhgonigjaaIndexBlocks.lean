/-
  PROVED: 'wainwrightlaw08.IndexBlocks' returns true for every input (a slice of slices of entries, a slice of strings), and its arguments read afterwards as before. Conditions: none beside those that the row itself says (the form's own reach).
-/
import Derived.Test.YtflijnhgonigjaaPFrame
import Derived.Test.YtflijnhgonigjaaPRRead
namespace Go.Proofs.Ytflijnhgonigjaa.indexBlocks
open Go.ChangeShapes Go.WideShapes Go.ChangeAt Go.RowKit
open Go.ChangeMaps (open_string shut_string)
set_option linter.unusedVariables false

section
variable {H : Type} {enc : TypeId × Value → H} {W : World} {a : Option Addr} {len cap : Nat} {d : DataW H} {p : List MemPlace}
theorem strs_open (h : DataW.Trod enc Try.prog W 0 (fun _ => true) true 40 (.slice a len cap) d p) (hsz : ∀ n ∈ d.weights Try.prog 40, n ≤ reachBytes) : ∃ l : List ByteArray, StrsAt W W.heap.size a len l ∧ len ≤ cap := by
  obtain ⟨fuel, hf⟩ := h
  rcases Go.Deep.open_slice1 Try.underlying40 cells9 hf with ⟨hcs, _⟩ | ⟨a', len', cap', m, n, V, D, Pl, hcs, _, hl, hmx, hm, hd, hx⟩
  · simp [Value.cells] at hcs
    obtain ⟨rfl, rfl, rfl⟩ := hcs
    exact ⟨[], StrsAt.nil _ _ _, by omega⟩
  · simp [Value.cells] at hcs
    obtain ⟨rfl, rfl, rfl⟩ := hcs
    simp only [if_true] at hm
    obtain ⟨hd1, -⟩ := Prod.mk.inj hd
    have hspot : 0 < len → a'.spot = none := fun h0 => by
      obtain ⟨h1, _⟩ := hx 0 (by omega)
      simpa [Addr.add] using World.cell?_spot h1
    have each : ∀ k, k < len → ∃ s : ByteArray, s.size ≤ 140737488355328 ∧ ∃ b o, some a' = some ⟨b, o, none⟩ ∧ W.cell? ⟨b, o + k, none⟩ = some (.string s) := fun k hk => by
      obtain ⟨h1, h2⟩ := hx k (by omega)
      obtain ⟨s, e0, d0, _⟩ := DataW.trod_string Try.underlying9 h2
      obtain ⟨b, o, spot⟩ := a'
      have hs : spot = none := hspot (by omega)
      subst hs
      have hdk : (D k) = .lit (.string s.data.toList) := by injection d0
      have hle := hsz s.size (by
        rw [hd1]
        simp only [DataW.weights, Try.underlying40, List.mem_cons, List.mem_append]
        refine Or.inr (Or.inl (weights_all (List.mem_map.2 ⟨k, List.mem_range.2 hk, rfl⟩) ?_))
        rw [hdk]
        simp only [DataW.weights]
        rw [data_len]
        exact List.mem_singleton.2 rfl)
      refine ⟨s, Nat.le_trans hle (by decide), b, o, rfl, ?_⟩
      rw [add_plain] at h1
      simp at e0
      rw [h1, e0]
    obtain ⟨f, hf2⟩ := Go.Deep.choose_lt (α := ByteArray) each
    refine ⟨(List.range len).map f, ⟨by simp, ?_, fun k hk => ?_⟩, hl⟩
    · intro s hs
      obtain ⟨k, hk, rfl⟩ := List.mem_map.1 hs
      exact (hf2 k (List.mem_range.1 hk)).1
    · obtain ⟨_, b, o, e, h1⟩ := hf2 k hk
      have : ((List.range len).map f).getD k ⟨#[]⟩ = f k := by simp [List.getD, hk]
      rw [this]
      exact ⟨b, o, e, World.block_lt_of_cell? W _ h1, h1⟩
end

theorem retW_strs {w w' : World} {r : List ByteArray × Int} {e : Ending} (h : RetW w r e w') (hf : ∀ s ∈ r.1, s.size ≤ 140737488355328) : ∃ A c, e = .returned (.tuple #[.slice A r.1.length c, .int .i64 r.2]) ∧ r.1.length ≤ c ∧ StrsAt w' w'.heap.size A r.1.length r.1 ∧ Below w.heap.size w w' := by
  obtain ⟨v, rfl, ho, hb⟩ := h
  obtain ⟨A, c, rfl, hc⟩ := own_slice ho
  exact ⟨A, c, rfl, hc, StrsAt.of_own ho rfl hf, hb⟩
theorem writeP_len (p : Pg) : (writeP p).1.length ≤ p.length := by
  unfold writeP; split
  · rw [List.length_map]; exact Nat.le_refl _
  · simp
theorem writeP_sz (p : Pg) : ∀ s ∈ (writeP p).1, s.size ≤ 140737488355328 := by
  unfold writeP; split
  · rename_i h; exact blks_size h
  · intro s hs; cases hs
theorem writeP_back (p : Pg) (h : (writeP p).2 = 0) : rd refb (writeP p).1 = (p, 0) := by
  unfold writeP at h ⊢
  split at h
  · rename_i hr; rw [if_pos hr]; exact rd_write hr
  · simp at h
theorem rd_len (bl : List ByteArray) : (rd refb bl).1.length ≤ bl.length ∧ ∀ l ∈ (rd refb bl).1, l.length ≤ 9 := by
  unfold rd; split
  · exact ⟨by rw [pgs_len]; exact Nat.le_refl _, pgs_ref_le bl⟩
  · exact ⟨by simp, fun l hl => by cases hl⟩

set_option maxRecDepth 100000 in
set_option maxHeartbeats 8000000 in
theorem walk (A : Option Addr) (n c : Nat) (p0 : Pg) (A' : Option Addr) (n' c' : Nat) (bl0 : List ByteArray) (w : World) (h1 : PgsAt w w.heap.size A n p0 ∧ n ≤ c ∧ c ≤ maxLen) (h2 : StrsAt w w.heap.size A' n' bl0 ∧ n' ≤ c') :
    Calls Try.prog 5 #[.slice A n c, .slice A' n' c'] w fun e w' => e = .returned (.bool true) ∧ Below w.heap.size w w' := by
  obtain ⟨hP0, hnc, hcm⟩ := h1
  obtain ⟨hS0, hnc'⟩ := h2
  have HE := Lib.hid (fun W (hW : Below w.heap.size w W) => early_any A n c w.heap.size p0 W (hP0.below hW (Nat.le_refl _)) hW.size (by omega))
  have HS := Lib.hid hS0
  clear hP0 hS0
  have hel := earlyP_len p0
  have hem := earlyP_mem p0
  have hfl := earlyP_flat p0
  generalize earlyP p0 = p at *
  go_enter Try.func5, Try.ntmps5
  go_wp2_with fail
  refine (lives_any w).mono ?_
  rintro e w1 ⟨rfl, b1⟩
  go_wp2_with fail
  refine (HE.out w1 b1).mono ?_
  rintro e w2 ⟨A2, c2, rfl, hc2, hP, b2⟩
  have HB2 := Lib.hid (b1.trans (b2.mono b1.size))
  have HS2 := Lib.hid ((HS.out.below HB2.out (Nat.le_refl _)).more HB2.out.size)
  obtain ⟨k, hk⟩ : ∃ k : Nat, min (n' : Int) 25 = (k : Int) := ⟨min n' 25, by omega⟩
  have hkn : k ≤ n' := by omega
  have hk25 : k ≤ 25 := by omega
  have HBK := Lib.hid (HS2.out.take k hkn)
  have y1 : (k : Int) ≤ (n' : Int) := by omega
  have y2 : (k : Int) ≤ (c' : Int) := by omega
  have y3 : k ≤ c' := by omega
  generalize bl0.take k = bl at *
  have HKL := Lib.hid HBK.out.len
  have hwl := writeP_len p
  have HWS := Lib.hid (writeP_sz p)
  have hrl := rd_len bl
  have hrl2 : (rd refb bl).1.length ≤ 25 := Nat.le_trans hrl.1 (by rw [HKL.out]; exact hk25)
  have HRM := Lib.hid hrl.2
  have HX : Hid ((writeP p).2 = 0 → rd refb (writeP p).1 = (p, 0)) := writeP_back p
  have HY : Hid ((rd refb bl).2 = 0 → writeP (rd refb bl).1 = (bl, 0)) := rd_back
  have HYS := Lib.hid (writeP_sz (rd refb bl).1)
  have K1 := Lib.hid (fun W (h : Below w2.heap.size w2 W) => iwrite_any A2 p.length c2 w2.heap.size p W (hP.below h (Nat.le_refl _)) h.size (by omega) (fun l hl => Nat.le_trans (hem l hl) (by omega)))
  have K2 := Lib.hid (fun W (h : Below w2.heap.size w2 W) => rwriteP_any A2 p.length c2 w2.heap.size p W (hP.below h (Nat.le_refl _)) h.size (by omega) (by omega))
  have K3 := Lib.hid (fun W (h : Below w2.heap.size w2 W) => iread_any A' k c' w2.heap.size bl W (HBK.out.below h (Nat.le_refl _)) h.size (by omega))
  have K4 := Lib.hid (fun W (h : Below w2.heap.size w2 W) => rreadP_any A' k c' w2.heap.size bl W (HBK.out.below h (Nat.le_refl _)) h.size (by omega))
  rw [rd_eq] at K3
  have hpl20 : p.length ≤ 20 := by omega
  have hpm : ∀ l ∈ p, l.length ≤ 100000 := fun l hl => Nat.le_trans (hem l hl) (by omega)
  have HPM := Lib.hid hpm
  have HPP := Lib.hid hP
  clear hP b1 b2 hel hem HE hfl hrl HS HS2 hpm
  generalize writeP p = WP at *
  obtain ⟨Wl, ez⟩ := WP
  generalize rd refb bl = RB at *
  obtain ⟨R, gz⟩ := RB
  simp only at HX HY HWS HYS hwl hrl2 HRM
  go_wp2_with fail
  all_goals
    refine (K1.out w2 (Below.refl _ _)).mono ?_
    intro e w3 hr3
    obtain ⟨A3, c3, rfl, -, hS3, b3⟩ := retW_strs hr3 HWS.out
    have HS3 := Lib.hid hS3
    have B3 := Lib.hid b3
    simp only at HS3
    clear hr3 hS3 b3
    simp only
    have K5 := Lib.hid (fun W (h : Below w3.heap.size w3 W) => iread_any A3 Wl.length c3 w3.heap.size Wl W (HS3.out.below h (Nat.le_refl _)) h.size (by omega))
    rw [rd_eq] at K5
    generalize hwn : Wl.length = wn at *
    have HWN := Lib.hid hwn
    clear hwn
    go_wp2_with fail
    refine (K2.out w3 B3.out).mono ?_
    intro e w4 hr4
    obtain ⟨A4, c4, rfl, -, hS4, b4⟩ := retW_strs hr4 HWS.out
    have HS4 := Lib.hid hS4
    have B4 := Lib.hid (B3.out.trans (b4.mono B3.out.size))
    have B34 := Lib.hid b4
    simp only at HS4
    rw [HWN.out] at HS4
    clear hr4 hS4 b4
    simp only
    rw [HWN.out]
    go_wp2_with fail
    refine (K3.out w4 B4.out).mono ?_
    rintro e w5 ⟨A5, c5, rfl, -, hP5, b5⟩
    have HP5 := Lib.hid hP5
    have B5 := Lib.hid (B4.out.trans (b5.mono B4.out.size))
    have B35 := Lib.hid (B34.out.trans (b5.mono B34.out.size))
    have B45 := Lib.hid b5
    simp only at HP5
    clear hP5 b5
    simp only
    have K6 := Lib.hid (fun W (h : Below w5.heap.size w5 W) => iwrite_any A5 R.length c5 w5.heap.size R W (HP5.out.below h (Nat.le_refl _)) h.size (by omega) (fun l hl => Nat.le_trans (HRM.out l hl) (by omega)))
    generalize hrn : R.length = rn at *
    have HRN := Lib.hid hrn
    clear hrn
    go_wp2_with fail
    refine (K4.out w5 B5.out).mono ?_
    rintro e w6 ⟨A6, c6, rfl, -, hP6, b6⟩
    have HP6 := Lib.hid hP6
    have B6 := Lib.hid (B5.out.trans (b6.mono B5.out.size))
    have B36 := Lib.hid (B35.out.trans (b6.mono B35.out.size))
    have B46 := Lib.hid (B45.out.trans (b6.mono B45.out.size))
    have B56 := Lib.hid b6
    simp only at HP6
    rw [HRN.out] at HP6
    clear hP6 b6
    simp only
    rw [HRN.out]
    generalize rd refb Wl = XX at *
    obtain ⟨XP, xz⟩ := XX
    generalize writeP R = YY at *
    obtain ⟨YB, yz⟩ := YY
    simp only at HYS
    go_wp2_with fail
    refine (K5.out w6 B36.out).mono ?_
    rintro e w7 ⟨A7, c7, rfl, -, hP7, b7⟩
    have HP7 := Lib.hid hP7
    have B7 := Lib.hid (B6.out.trans (b7.mono B6.out.size))
    have B37 := Lib.hid (B36.out.trans (b7.mono B36.out.size))
    have B47 := Lib.hid (B46.out.trans (b7.mono B46.out.size))
    have B57 := Lib.hid (B56.out.trans (b7.mono B56.out.size))
    have B67 := Lib.hid b7
    simp only at HP7
    clear hP7 b7
    simp only
    generalize hxn : XP.length = xn at *
    have HXN := Lib.hid hxn
    clear hxn
    go_wp2_with fail
    refine (K6.out w7 B57.out).mono ?_
    intro e w8 hr8
    obtain ⟨A8, c8, rfl, -, hS8, b8⟩ := retW_strs hr8 HYS.out
    have HS8 := Lib.hid hS8
    have B8 := Lib.hid (B7.out.trans (b8.mono B7.out.size))
    have B38 := Lib.hid (B37.out.trans (b8.mono B37.out.size))
    have B48 := Lib.hid (B47.out.trans (b8.mono B47.out.size))
    have B58 := Lib.hid (B57.out.trans (b8.mono B57.out.size))
    have B68 := Lib.hid (B67.out.trans (b8.mono B67.out.size))
    have B78 := Lib.hid b8
    simp only at HS8
    clear hr8 hS8 b8
    simp only
    generalize hyn : YB.length = yn at *
    have HYN := Lib.hid hyn
    clear hyn
    have T1 : Hid (∀ W, Drew w8 W → Calls Try.prog 28 #[.slice A3 wn c3, .slice A4 wn c4] W fun e w' => e = .returned (.bool true) ∧ Drew W w') := fun W hd => by
      have := texts_any A3 A4 wn wn c3 c4 _ _ Wl Wl W ((HS3.out.below B38.out (Nat.le_refl _)).keep fun a _ => hd.cells a) ((HS4.out.below B48.out (Nat.le_refl _)).keep fun a _ => hd.cells a) (by omega) (by omega)
      rwa [decide_eq_true (rfl : Wl = Wl)] at this
    have T2 : Hid (∀ W, Drew w8 W → Calls Try.prog 17 #[.slice A5 rn c5, .slice A6 rn c6] W fun e w' => e = .returned (.bool true) ∧ Drew W w') := fun W hd =>
      sameP_any A5 A6 rn c5 c6 _ _ R W ((HP5.out.below B58.out (Nat.le_refl _)).keep fun a _ => hd.cells a) ((HP6.out.below B68.out (Nat.le_refl _)).keep fun a _ => hd.cells a) (by omega) (fun l hl => Nat.le_trans (HRM.out l hl) (by omega))
    have T3 : Hid (ez = 0 → xz = 0 ∧ ∀ W, Drew w8 W → Calls Try.prog 17 #[.slice A7 xn c7, .slice A2 p.length c2] W fun e w' => e = .returned (.bool true) ∧ Drew W w') := fun hz => by
      have hx := HX.out hz
      injection hx with hx1 hx2
      refine ⟨hx2, fun W hd => ?_⟩
      subst hx1
      have e1 : xn = XP.length := HXN.out.symm
      subst e1
      exact sameP_any A7 A2 XP.length c7 c2 _ _ XP W ((HP7.out.below B78.out (Nat.le_refl _)).keep fun a _ => hd.cells a) ((HPP.out.below B8.out (Nat.le_refl _)).keep fun a _ => hd.cells a) (by omega) HPM.out
    have T4 : Hid (gz = 0 → yz = 0 ∧ ∀ W, Drew w8 W → Calls Try.prog 28 #[.slice A8 yn c8, .slice A' k c'] W fun e w' => e = .returned (.bool true) ∧ Drew W w') := fun hz => by
      have hx := HY.out hz
      injection hx with hx1 hx2
      refine ⟨hx2, fun W hd => ?_⟩
      subst hx1
      have e1 : yn = k := HYN.out.symm.trans HKL.out
      subst e1
      have := texts_any A8 A' yn yn c8 c' _ _ YB YB W (HS8.out.keep fun a _ => hd.cells a) ((HBK.out.below B8.out (Nat.le_refl _)).keep fun a _ => hd.cells a) (by omega) (by omega)
      rwa [decide_eq_true (rfl : YB = YB)] at this
    have HBZ := Lib.hid (HB2.out.trans (B8.out.mono HB2.out.size))
    clear HX HY K1 K2 K3 K4 K5 K6 hk y1 y2 y3 hnc' hcm hnc hc2 hwl hkn
    generalize p.length = pn at *
    by_cases hez : ez = 0
    · obtain ⟨rfl, t3⟩ := T3.out hez
      have HT3 := Lib.hid t3
      clear T3 t3
      subst hez
      by_cases hgz : gz = 0
      · obtain ⟨rfl, t4⟩ := T4.out hgz
        have HT4 := Lib.hid t4
        clear T4 t4
        subst hgz
        go_wp2_with fail
        refine (T1.out w8 (Drew.refl _)).mono ?_
        rintro e w9 ⟨rfl, d9⟩
        go_wp2_with fail
        refine (T2.out w9 d9).mono ?_
        rintro e w10 ⟨rfl, d10⟩
        go_wp2_with fail
        refine (HT3.out w10 (d9.trans d10)).mono ?_
        rintro e w11 ⟨rfl, d11⟩
        go_wp2_with fail
        refine (HT4.out w11 ((d9.trans d10).trans d11)).mono ?_
        rintro e w12 ⟨rfl, d12⟩
        go_wp2
        go_ret
        exact ⟨rfl, Below.drews HBZ.out (((d9.trans d10).trans d11).trans d12)⟩
      · have e1 : (gz == 0) = false := beq_eq_false_iff_ne.2 hgz
        clear T4
        go_wp2_with fail
        refine (T1.out w8 (Drew.refl _)).mono ?_
        rintro e w9 ⟨rfl, d9⟩
        go_wp2_with fail
        refine (T2.out w9 d9).mono ?_
        rintro e w10 ⟨rfl, d10⟩
        go_wp2_with fail
        refine (HT3.out w10 (d9.trans d10)).mono ?_
        rintro e w11 ⟨rfl, d11⟩
        go_wp2
        go_ret
        exact ⟨rfl, Below.drews HBZ.out ((d9.trans d10).trans d11)⟩
    · have e0 : (ez == 0) = false := beq_eq_false_iff_ne.2 hez
      clear T3
      by_cases hgz : gz = 0
      · obtain ⟨rfl, t4⟩ := T4.out hgz
        have HT4 := Lib.hid t4
        clear T4 t4
        subst hgz
        go_wp2_with fail
        refine (T1.out w8 (Drew.refl _)).mono ?_
        rintro e w9 ⟨rfl, d9⟩
        go_wp2_with fail
        refine (T2.out w9 d9).mono ?_
        rintro e w10 ⟨rfl, d10⟩
        go_wp2_with fail
        refine (HT4.out w10 (d9.trans d10)).mono ?_
        rintro e w12 ⟨rfl, d12⟩
        go_wp2
        go_ret
        exact ⟨rfl, Below.drews HBZ.out ((d9.trans d10).trans d12)⟩
      · have e1 : (gz == 0) = false := beq_eq_false_iff_ne.2 hgz
        clear T4
        go_wp2_with fail
        refine (T1.out w8 (Drew.refl _)).mono ?_
        rintro e w9 ⟨rfl, d9⟩
        go_wp2_with fail
        refine (T2.out w9 d9).mono ?_
        rintro e w10 ⟨rfl, d10⟩
        go_wp2
        go_ret
        exact ⟨rfl, Below.drews HBZ.out (d9.trans d10)⟩

set_option maxRecDepth 100000 in
theorem lifted (os : Os) (started : os.Started) (H : Type) (enc : TypeId × Value → H) :
    ReturnsInHanded {} Try.checked os 5 .any (Rows.indexBlocksSpec.pre6 enc Try.prog Try.f5 Rows.indexBlocksRow.domain false) (Rows.indexBlocksSpec.post enc Try.prog Try.f5 false true false false) := by
  refine returnsInHanded_of_change_sized (C := Try.checked) own started (by kernel_rfl) Try.func5
    (ChangeSpec.witness6 (enc := enc) (C := Try.checked) false ⟨#[], #[.slice none 0 0, .slice none 0 0], []⟩ 8 (by kernel_rfl) (by kernel_rfl) (by kernel_rfl) (by kernel_rfl)) ?_
  intro W base args ds gs before hval0 hW hcnd hsz0 _
  have hval : ∀ (j : Nat) t v, Try.f5.params[j]? = some t → args[j]? = some v → Value.okWide Try.prog W .any base t v := hval0
  have hsz : (DataW.weightsEach Try.prog (Try.f5.params.toList ++ Rows.indexBlocksSpec.plain.varTypes Try.prog) (ds ++ gs)).all (· ≤ reachBytes) = true := hsz0
  have hW' := hW
  obtain ⟨p, q, hA0, hV, rfl, hfz, hnd⟩ := hW
  have hA : DataW.TrodAll enc Try.prog W 0 (fun _ => true) true Try.f5.params.toList args.toList ds p := hA0
  rw [Try.params5] at hA hval hsz
  obtain ⟨v0, vs0, d0, ds0, p0, q0, hargs, rfl, rfl, h0, r0⟩ := trodAll_cons hA
  obtain ⟨v1, vs1, d1, ds1, p1, q1, rfl, rfl, rfl, h1, r1⟩ := trodAll_cons r0
  obtain ⟨rfl, rfl, rfl⟩ := trodAll_nil r1
  obtain rfl : args = #[v0, v1] := by cases args; simp_all
  obtain ⟨rfl, rfl⟩ := trodVars_none hV
  have lt0 : ∀ x ∈ p0, x.block < W.heap.size := by obtain ⟨m, hm⟩ := h0; exact DataW.trod_lt m _ _ _ hm
  obtain ⟨a0, len0, cap0, rfl⟩ := okWide_slice Try.underlying22 (hval 0 22 v0 rfl rfl)
  obtain ⟨l0, w0⟩ := pgs_open h0 (fun n hn => by simpa using List.all_eq_true.1 hsz _ (DataW.weights_mem_each (j := 0) rfl rfl n hn))
  have lt1 : ∀ x ∈ p1, x.block < W.heap.size := by obtain ⟨m, hm⟩ := h1; exact DataW.trod_lt m _ _ _ hm
  obtain ⟨a1, len1, cap1, rfl⟩ := okWide_slice Try.underlying40 (hval 1 40 v1 rfl rfl)
  obtain ⟨l1, w1⟩ := strs_open h1 (fun n hn => by simpa using List.all_eq_true.1 hsz _ (DataW.weights_mem_each (j := 1) rfl rfl n hn))
  clear hA0 hval0
  refine (walk a0 len0 cap0 l0 a1 len1 cap1 l1 W w0 w1).mono fun e W' ⟨he, bel⟩ => ?_
  subst he
  exact ⟨_, rfl, _, _, _, [], _, [], hW', trodAll_mk1 (shut_bool Try.underlying4 _), (trodAll_cons_mk (Below.trod laidOut (by kernel_rfl) (of_decide_eq_true (by kernel_rfl)) h0 bel lt0) (trodAll_cons_mk (Below.trod laidOut (by kernel_rfl) (of_decide_eq_true (by kernel_rfl)) h1 bel lt1) trodAll_mk0)), rfl, bel.frame _, fun h => by cases h⟩

theorem over : Rows.indexBlocksRow.holds Try.pinned (OpenSpec.ofChange Rows.indexBlocksSpec) :=
  OpenClaim.holds_of_wide 5 Try.f5 rfl rfl rfl rfl rfl rfl rfl ⟨rfl, rfl, rfl, rfl, rfl⟩ rfl rfl rfl rfl rfl (by kernel_rfl) Try.func5 (by kernel_rfl)
    (of_decide_eq_true (by kernel_rfl)) (by unfold Func.isWrapper; first | (rw [if_pos (by decide +kernel)]; kernel_rfl) | (rw [if_neg (by decide +kernel)]; exact ⟨rfl, rfl⟩))
    (fun os started H enc _ => lifted os started H enc)

end Go.Proofs.Ytflijnhgonigjaa.indexBlocks
namespace Go.Proofs.Ytflijnhgonigjaa
theorem indexBlocks_proved : Rows.IndexBlocksSaid := indexBlocks.over
#print axioms indexBlocks_proved
end Go.Proofs.Ytflijnhgonigjaa
