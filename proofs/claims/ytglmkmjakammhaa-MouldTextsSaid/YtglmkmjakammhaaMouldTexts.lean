/-
  PROVED: 'wainwrightlaw01.MouldTexts' returns true for every input (two strings and an int, whatever they hold), and its arguments read afterwards as before. Conditions: none beside those that the row itself says (the form's own reach).
-/
import Derived.Test.YtglmkmjakammhaaFrame
import Derived.Test.YtglmkmjakammhaaText
namespace Go.Proofs.Ytglmkmjakammhaa.mouldTexts
open Go.ChangeShapes Go.WideShapes Go.ChangeAt Go.RowKit
open Go.ChangeMaps (open_string shut_string)
set_option linter.unusedVariables false

set_option maxHeartbeats 1000000 in
theorem rtext_any (s : ByteArray) (n : Int) (w : World) (hs : s.size ≤ 140737488355328) (hn : -9223372036854775808 ≤ n ∧ n ≤ 9223372036854775807) :
    Calls Try.prog 17 #[.string s, .int .i64 n] w fun e w' => e = .returned (.tuple #[.string (textR s n).1, .int .i64 (textR s n).2]) ∧ Below w.heap.size w w' := by
  have hT : textR s n = if (padR s n).2 = 0 then (if hasZ s = true then (⟨#[]⟩, 3) else padR s n) else (⟨#[]⟩, (padR s n).2) := rfl
  by_cases hp : (padR s n).2 = 0
  · rw [if_pos hp] at hT
    have HP := Lib.hid hp
    have HT := Lib.hid hT
    clear hp hT
    go_enter Try.func17, Try.ntmps17
    go_wp2_with fail
    refine (rpad_any s n w hs hn).mono ?_
    rintro e w1 ⟨rfl, hb1⟩
    rw [HP.out]
    go_wp2
    go_loop [8] (fun i => ∃ k : Nat, k ≤ s.size ∧ i = .int .i64 k ∧ ∀ j, j < k → s.data.toList[j]? ≠ some 0) (fun i => s.size - (intOf i).toNat)
    case atStart => exact ⟨0, Nat.zero_le _, rfl, by intro j hj; omega⟩
    case round =>
      obtain ⟨k, hk, rfl, hz⟩ := hrel
      have HZ := Lib.hid hz
      clear hz
      by_cases hlt : k < s.size
      · by_cases hb : (s[k].toNat : Int) = 0
        · have hh := hasZ_of (byte_z s k hlt hb)
          have HW : Hid (textR s n = (⟨#[]⟩, 3)) := by show _ = _; rw [HT.out, hh]; rfl
          have hb' : ((s[k].toNat : Int) == 0) = true := by simp [hb]
          clear hb hh
          go_wp2
          go_ret2
          exact ⟨by rw [HW.out]; rfl, hb1⟩
        · have HB := Lib.hid (byte_nz s k hlt hb)
          have hb' : ((s[k].toNat : Int) == 0) = false := beq_eq_false_iff_ne.2 hb
          clear hb
          go_wp2
          go_round
          case rel => exact ⟨k + 1, by omega, by go_num, fun j hj => by
            by_cases e : j = k
            · subst e; exact HB.out
            · exact HZ.out j (by omega)⟩
          case measure => simp [intOf]; omega
      · have hh := hasZ_no (s := s) (fun j hj => HZ.out j (by omega))
        have HW : Hid (textR s n = padR s n) := by show _ = _; rw [HT.out, hh, if_neg (by simp)]
        clear hh
        go_wp2
        go_ret2
        exact ⟨by rw [HW.out, HP.out]; rfl, hb1⟩
  · rw [if_neg hp] at hT
    have HT := Lib.hid hT
    have hp' : ((padR s n).2 != 0) = true := bne_iff_ne.2 hp
    have HP := Lib.hid hp'
    clear hT hp hp'
    go_enter Try.func17, Try.ntmps17
    go_wp2_with fail
    refine (rpad_any s n w hs hn).mono ?_
    rintro e w1 ⟨rfl, hb1⟩
    have hp := HP.out
    generalize (padR s n).2 = er at *
    go_wp2
    go_ret2
    exact ⟨by rw [HT.out]; rfl, hb1⟩

set_option maxHeartbeats 1000000 in
theorem runtext_any (s : ByteArray) (w : World) (hs : s.size ≤ 140737488355328) :
    Calls Try.prog 19 #[.string s] w fun e w' => e = .returned (.tuple #[.string (untextR s).1, .int .i64 (untextR s).2]) ∧ w = w' := by
  have HL : Hid (s.data.toList.length = s.size) := by show _ = _; rw [Array.length_toList]; rfl
  have hU : untextR s = if ((s.data.toList.drop (zAt s.data.toList)).all (· == 0)) = true then (s.extract 0 (zAt s.data.toList), 0) else (⟨#[]⟩, 15) := rfl
  have HU := Lib.hid hU
  clear hU
  go_enter Try.func19, Try.ntmps19
  go_wp2
  go_loop [4] (fun i => ∃ k : Nat, k ≤ s.size ∧ i = .int .i64 k ∧ ∀ j, j < k → s.data.toList[j]? ≠ some 0) (fun i => s.size - (intOf i).toNat)
  case atStart => exact ⟨0, Nat.zero_le _, rfl, by intro j hj; omega⟩
  case round =>
    obtain ⟨k, hk, rfl, hz⟩ := hrel
    have HZ := Lib.hid hz
    clear hz
    by_cases hgo : ∃ h : k < s.size, ¬ ((s[k]'h).toNat : Int) = 0
    · obtain ⟨hlt, hb⟩ := hgo
      have HB := Lib.hid (byte_nz s k hlt hb)
      have hb' : ((s[k].toNat : Int) != 0) = true := bne_iff_ne.2 hb
      clear hb
      go_wp2
      go_round
      case rel => exact ⟨k + 1, by omega, by go_num, fun j hj => by
        by_cases e : j = k
        · subst e; exact HB.out
        · exact HZ.out j (by omega)⟩
      case measure => simp [intOf]; omega
    · have hzk : zAt s.data.toList = k := by
        refine zAt_eq _ _ HZ.out ?_
        by_cases hlt : k < s.size
        · refine Or.inl (byte_z s k hlt ?_)
          exact Decidable.byContradiction fun h => hgo ⟨hlt, h⟩
        · right; rw [HL.out]; omega
      have HU2 : Hid (untextR s = if ((s.data.toList.drop k).all (· == 0)) = true then (s.extract 0 k, 0) else (⟨#[]⟩, 15)) := by
        show _ = _; rw [HU.out, hzk]
      clear hzk HU
      have hcase : (k < s.size ∧ ∃ h : k < s.size, (((s[k]'h).toNat : Int) != 0) = false) ∨ ¬ k < s.size := by
        by_cases hlt : k < s.size
        · refine Or.inl ⟨hlt, hlt, ?_⟩
          have : ((s[k].toNat : Int)) = 0 := Decidable.byContradiction fun h => hgo ⟨hlt, h⟩
          simp [this]
        · exact Or.inr hlt
      clear hgo
      rcases hcase with ⟨hlt, _, hb⟩ | hlt
      all_goals
        go_wp2
        go_loop [5] (fun i => ∃ m : Nat, k ≤ m ∧ m ≤ s.size ∧ i = .int .i64 m ∧ ∀ j, k ≤ j → j < m → s.data.toList[j]? = some 0) (fun i => s.size - (intOf i).toNat)
        case atStart => exact ⟨k, Nat.le_refl _, hk, rfl, by intro j h1 h2; omega⟩
        case round =>
          obtain ⟨m, hkm, hm, rfl, hz2⟩ := hrel
          have HZ2 := Lib.hid hz2
          clear hz2
          by_cases hlm : m < s.size
          · by_cases hbm : (s[m].toNat : Int) = 0
            · have HB := Lib.hid (byte_z s m hlm hbm)
              have hb' : ((s[m].toNat : Int) != 0) = false := by simp [hbm]
              clear hbm
              go_wp2
              go_round
              case rel => exact ⟨m + 1, by omega, by omega, by go_num, fun j h1 h2 => by
                by_cases e : j = m
                · subst e; exact HB.out
                · exact HZ2.out j h1 (by omega)⟩
              case measure => simp [intOf]; omega
            · have hno := all_no (s.data.toList.drop k) (m - k) s[m] (by rw [List.getElem?_drop, show k + (m - k) = m by omega]; exact byte_at s m hlm) (fun e => hbm (by rw [e]; rfl))
              have HW : Hid (untextR s = (⟨#[]⟩, 15)) := by show _ = _; rw [HU2.out, hno]; rfl
              have hb' : ((s[m].toNat : Int) != 0) = true := bne_iff_ne.2 hbm
              clear hbm hno
              go_wp2
              go_ret2
              exact ⟨by rw [HW.out]; rfl, rfl⟩
          · have hyes := all_yes (s.data.toList.drop k) (fun j hj => by rw [List.getElem?_drop]; exact HZ2.out _ (by omega) (by rw [List.length_drop, HL.out] at hj; omega))
            have HW : Hid (untextR s = (s.extract 0 k, 0)) := by show _ = _; rw [HU2.out, hyes]; rfl
            clear hyes
            go_wp2
            go_ret2
            exact ⟨by rw [HW.out]; rfl, rfl⟩

theorem padR_size (s : ByteArray) (n : Int) : (padR s n).1.size ≤ 1000 := by
  unfold padR
  split
  · split
    · show (s.data.toList ++ List.replicate (n.toNat - s.size) (0 : UInt8)).toArray.size ≤ 1000
      rw [List.size_toArray, List.length_append, List.length_replicate, Array.length_toList]
      have : s.data.size = s.size := rfl
      omega
    · decide
  · decide
theorem textR_size (s : ByteArray) (n : Int) : (textR s n).1.size ≤ 1000 := by
  unfold textR
  split
  · split
    · decide
    · exact padR_size s n
  · exact Nat.zero_le _
theorem text_back (s : ByteArray) (n : Int) (h : (textR s n).2 = 0) : untextR (textR s n).1 = (s, 0) := by
  unfold textR at h ⊢
  split at h
  · rename_i hp
    split at h
    · simp at h
    · rename_i hz
      rw [if_pos hp, if_neg hz]
      unfold padR at hp ⊢
      split at hp
      · rename_i hn
        split at hp
        · rename_i hl
          rw [if_pos hn, if_pos hl]
          have hzl : zAt (padS s n.toNat).data.toList = s.data.toList.length := by
            show zAt (s.data.toList ++ List.replicate (n.toNat - s.size) (0 : UInt8)) = _
            refine zAt_eq _ _ (fun k hk => ?_) ?_
            · rw [List.getElem?_append_left hk]
              intro e
              apply hz
              simp only [hasZ, decide_eq_true_eq]; exact List.mem_of_getElem? e
            · by_cases e : n.toNat - s.size = 0
              · right; rw [e]; simp
              · left; rw [List.getElem?_append_right (Nat.le_refl _), Nat.sub_self, List.getElem?_replicate, if_pos (by omega)]
          unfold untextR
          rw [hzl]
          have hd : (padS s n.toNat).data.toList.drop s.data.toList.length = List.replicate (n.toNat - s.size) (0 : UInt8) := by
            show (s.data.toList ++ List.replicate (n.toNat - s.size) (0 : UInt8)).drop _ = _
            rw [List.drop_left]
          rw [hd, if_pos (by simp)]
          have he : (padS s n.toNat).extract 0 s.data.toList.length = s := by
            apply ByteArray.ext
            apply Array.ext'
            rw [Lib.extract_data, List.drop_zero, Nat.sub_zero]
            show (s.data.toList ++ List.replicate (n.toNat - s.size) (0 : UInt8)).take _ = _
            rw [List.take_left]
          rw [he]
        · simp at hp
      · simp at hp
  · rename_i hp; exact absurd h hp

set_option maxHeartbeats 1000000 in
theorem walk (s : ByteArray) (n : Int) (t : ByteArray) (w : World) (hs : s.size ≤ 140737488355328) (hn : -9223372036854775808 ≤ n ∧ n ≤ 9223372036854775807) (ht : t.size ≤ 140737488355328) :
    Calls Try.prog 6 #[.string s, .int .i64 n, .string t] w fun e w' => e = .returned (.bool true) ∧ Below w.heap.size w w' := by
  have HTS := Lib.hid (textR_size s n)
  have HB := Lib.hid (text_back s n)
  go_enter Try.func6, Try.ntmps6
  go_wp2_with fail
  refine (lives_any w).mono ?_
  rintro e w1 ⟨rfl, hb1⟩
  go_wp2_with fail
  refine (text_any s n w1 hs hn).mono ?_
  rintro e w2 ⟨rfl, hb2⟩
  have hb12 := hb1.trans (hb2.mono hb1.size)
  clear hb1 hb2
  go_wp2_with fail
  refine (rtext_any s n w2 hs hn).mono ?_
  rintro e w3 ⟨rfl, hb3⟩
  have hb13 := hb12.trans (hb3.mono hb12.size)
  clear hb12 hb3
  go_wp2_with fail
  refine (untext_any t w3 ht).mono ?_
  rintro e w4 ⟨rfl, hb4⟩
  have hb14 := hb13.trans (hb4.mono hb13.size)
  clear hb13 hb4
  go_wp2_with fail
  refine (runtext_any t w4 ht).mono ?_
  rintro e w5 ⟨rfl, rfl⟩
  go_wp2_with fail
  refine (pad_any s n w4 hs hn).mono ?_
  rintro e w6 ⟨rfl, hb6⟩
  have hb16 := hb14.trans (hb6.mono hb14.size)
  clear hb14 hb6
  go_wp2_with fail
  refine (rpad_any s n w6 hs hn).mono ?_
  rintro e w7 ⟨rfl, hb7⟩
  have hb17 := hb16.trans (hb7.mono hb16.size)
  clear hb16 hb7
  go_wp2_with fail
  refine (untext_any (textR s n).1 w7 (by have := HTS.out; omega)).mono ?_
  rintro e w8 ⟨rfl, hb8⟩
  have hb18 := hb17.trans (hb8.mono hb17.size)
  clear hb17 hb8
  generalize (untextR t).1 = ut
  generalize (untextR t).2 = ute
  generalize (padR s n).1 = ps
  generalize (padR s n).2 = pse
  by_cases h0 : (textR s n).2 = 0
  · rw [HB.out h0, h0]
    clear HB h0
    generalize (textR s n).1 = ts
    go_wp2
    go_ret
    exact ⟨by simp, hb18⟩
  · have h0' : ((textR s n).2 != 0) = true := bne_iff_ne.2 h0
    clear HB h0
    generalize (untextR (textR s n).1).1 = bs
    generalize (untextR (textR s n).1).2 = be
    generalize (textR s n).2 = te at *
    generalize (textR s n).1 = ts at *
    go_wp2
    go_ret
    exact ⟨by simp, hb18⟩

set_option maxRecDepth 100000 in
theorem lifted (os : Os) (started : os.Started) (H : Type) (enc : TypeId × Value → H) :
    ReturnsInHanded {} Try.checked os 6 .any (Rows.mouldTextsSpec.pre6 enc Try.prog Try.f6 Rows.mouldTextsRow.domain false) (Rows.mouldTextsSpec.post enc Try.prog Try.f6 false true false false) := by
  refine returnsInHanded_of_change_sized (C := Try.checked) own started (by kernel_rfl) Try.func6
    (ChangeSpec.witness6 (enc := enc) (C := Try.checked) false ⟨#[], #[.string ByteArray.empty, .int .i64 0, .string ByteArray.empty], []⟩ 8 (by kernel_rfl) (by kernel_rfl) (by kernel_rfl) (by kernel_rfl)) ?_
  intro W base args ds gs before hval0 hW hcnd hsz0 _
  have hval : ∀ (j : Nat) t v, Try.f6.params[j]? = some t → args[j]? = some v → Value.okWide Try.prog W .any base t v := hval0
  have hsz : (DataW.weightsEach Try.prog (Try.f6.params.toList ++ Rows.mouldTextsSpec.plain.varTypes Try.prog) (ds ++ gs)).all (· ≤ reachBytes) = true := hsz0
  have hW' := hW
  obtain ⟨p, q, hA0, hV, rfl, hfz, hnd⟩ := hW
  have hA : DataW.TrodAll enc Try.prog W 0 (fun _ => true) true Try.f6.params.toList args.toList ds p := hA0
  rw [Try.params6] at hA hval hsz
  obtain ⟨v0, vs0, d0, ds0, p0, q0, hargs, rfl, rfl, h0, r0⟩ := trodAll_cons hA
  obtain ⟨v1, vs1, d1, ds1, p1, q1, rfl, rfl, rfl, h1, r1⟩ := trodAll_cons r0
  obtain ⟨v2, vs2, d2, ds2, p2, q2, rfl, rfl, rfl, h2, r2⟩ := trodAll_cons r1
  obtain ⟨rfl, rfl, rfl⟩ := trodAll_nil r2
  obtain rfl : args = #[v0, v1, v2] := by cases args; simp_all
  obtain ⟨rfl, rfl⟩ := trodVars_none hV
  obtain ⟨s0, rfl, rfl, rfl, hs0⟩ := open_string Try.underlying9 (hval 0 9 v0 rfl rfl) h0
  have b0 : s0.size ≤ 140737488355328 := by
    have := sized_string hsz (j := 0) (t := 9) rfl rfl
    rw [Array.length_toList] at this
    simp only [reachBytes] at this
    exact Nat.le_trans this (by decide)
  obtain ⟨n1, rfl, rfl, rfl, wn1⟩ := open_int Try.underlying3 (hval 1 3 v1 rfl rfl) h1
  have b1 : -9223372036854775808 ≤ n1 ∧ n1 ≤ 9223372036854775807 := by simpa [Lit.wf, IntKind.min, IntKind.max, IntKind.signed, IntKind.bits] using wn1
  obtain ⟨s2, rfl, rfl, rfl, hs2⟩ := open_string Try.underlying9 (hval 2 9 v2 rfl rfl) h2
  have b2 : s2.size ≤ 140737488355328 := by
    have := sized_string hsz (j := 2) (t := 9) rfl rfl
    rw [Array.length_toList] at this
    simp only [reachBytes] at this
    exact Nat.le_trans this (by decide)
  clear hA0 hval0
  refine (walk s0 n1 s2 W b0 b1 b2).mono fun e W' ⟨he, bel⟩ => ?_
  subst he
  exact ⟨_, rfl, _, _, _, [], _, [], hW', trodAll_mk1 (shut_bool Try.underlying4 _), (trodAll_cons_mk (shut_string Try.underlying9 hs0) (trodAll_cons_mk (shut_int Try.underlying3 wn1) (trodAll_cons_mk (shut_string Try.underlying9 hs2) trodAll_mk0))), rfl, bel.frame _, fun h => by cases h⟩

theorem over : Rows.mouldTextsRow.holds Try.pinned (OpenSpec.ofChange Rows.mouldTextsSpec) :=
  OpenClaim.holds_of_wide 6 Try.f6 rfl rfl rfl rfl rfl rfl rfl ⟨rfl, rfl, rfl, rfl, rfl⟩ rfl rfl rfl rfl rfl (by kernel_rfl) Try.func6 (by kernel_rfl)
    (of_decide_eq_true (by kernel_rfl)) (by unfold Func.isWrapper; first | (rw [if_pos (by decide +kernel)]; kernel_rfl) | (rw [if_neg (by decide +kernel)]; exact ⟨rfl, rfl⟩))
    (fun os started H enc _ => lifted os started H enc)

end Go.Proofs.Ytglmkmjakammhaa.mouldTexts
namespace Go.Proofs.Ytglmkmjakammhaa
theorem mouldTexts_proved : Rows.MouldTextsSaid := mouldTexts.over
#print axioms mouldTexts_proved
end Go.Proofs.Ytglmkmjakammhaa
