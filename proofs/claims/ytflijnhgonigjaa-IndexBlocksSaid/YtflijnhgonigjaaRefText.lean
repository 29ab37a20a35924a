/-
  WALKS: the reference's Text and Untext of layer 1 return what textR and untextR say. Conditions: strings of at most 140737488355328 bytes.
-/
import Derived.Test.YtflijnhgonigjaaText
namespace Go.Proofs.Ytflijnhgonigjaa
open Go.RowKit
set_option linter.unusedVariables false

set_option maxRecDepth 100000 in
set_option maxHeartbeats 1000000 in
theorem rtext_any (s : ByteArray) (n : Int) (w : World) (hs : s.size ≤ 140737488355328) (hn : -9223372036854775808 ≤ n ∧ n ≤ 9223372036854775807) :
    Calls Try.prog 53 #[.string s, .int .i64 n] w fun e w' => e = .returned (.tuple #[.string (textR s n).1, .int .i64 (textR s n).2]) ∧ Below w.heap.size w w' := by
  have hT : textR s n = if (padR s n).2 = 0 then (if hasZ s = true then (⟨#[]⟩, 3) else padR s n) else (⟨#[]⟩, (padR s n).2) := rfl
  by_cases hp : (padR s n).2 = 0
  · rw [if_pos hp] at hT
    have HP := Lib.hid hp
    have HT := Lib.hid hT
    clear hp hT
    go_enter Try.func53, Try.ntmps53
    go_wp2_with fail
    refine (rpad_any s n w hs hn).mono ?_
    rintro e w1 ⟨rfl, hb1⟩
    rw [HP.out]
    go_wp2
    go_loop [8] (fun i => ∃ k : Nat, k ≤ s.size ∧ i = .int .i64 k ∧ ∀ j, j < k → s.data.toList[j]? ≠ some 0) (fun i => s.size - (intOf i).toNat)
    case atStart => exact ⟨0, Nat.zero_le _, rfl, by intro j hj; omega⟩
    case round =>
      obtain ⟨k, hk, rfl, hz⟩ := hrel
      have HZ := Lib.hid hz
      clear hz
      by_cases hlt : k < s.size
      · by_cases hb : (s[k].toNat : Int) = 0
        · have hh := hasZ_of (byte_z s k hlt hb)
          have HW : Hid (textR s n = (⟨#[]⟩, 3)) := by show _ = _; rw [HT.out, hh]; rfl
          have hb' : ((s[k].toNat : Int) == 0) = true := by simp [hb]
          clear hb hh
          go_wp2
          go_ret2
          exact ⟨by rw [HW.out]; rfl, hb1⟩
        · have HB := Lib.hid (byte_nz s k hlt hb)
          have hb' : ((s[k].toNat : Int) == 0) = false := beq_eq_false_iff_ne.2 hb
          clear hb
          go_wp2
          go_round
          case rel => exact ⟨k + 1, by omega, by go_num, fun j hj => by
            by_cases e : j = k
            · subst e; exact HB.out
            · exact HZ.out j (by omega)⟩
          case measure => simp [intOf]; omega
      · have hh := hasZ_no (s := s) (fun j hj => HZ.out j (by omega))
        have HW : Hid (textR s n = padR s n) := by show _ = _; rw [HT.out, hh, if_neg (by simp)]
        clear hh
        go_wp2
        go_ret2
        exact ⟨by rw [HW.out, HP.out]; rfl, hb1⟩
  · rw [if_neg hp] at hT
    have HT := Lib.hid hT
    have hp' : ((padR s n).2 != 0) = true := bne_iff_ne.2 hp
    have HP := Lib.hid hp'
    clear hT hp hp'
    go_enter Try.func53, Try.ntmps53
    go_wp2_with fail
    refine (rpad_any s n w hs hn).mono ?_
    rintro e w1 ⟨rfl, hb1⟩
    have hp := HP.out
    generalize (padR s n).2 = er at *
    go_wp2
    go_ret2
    exact ⟨by rw [HT.out]; rfl, hb1⟩

set_option maxRecDepth 100000 in
set_option maxHeartbeats 1000000 in
theorem runtext_any (s : ByteArray) (w : World) (hs : s.size ≤ 140737488355328) :
    Calls Try.prog 57 #[.string s] w fun e w' => e = .returned (.tuple #[.string (untextR s).1, .int .i64 (untextR s).2]) ∧ w = w' := by
  have HL : Hid (s.data.toList.length = s.size) := by show _ = _; rw [Array.length_toList]; rfl
  have hU : untextR s = if ((s.data.toList.drop (zAt s.data.toList)).all (· == 0)) = true then (s.extract 0 (zAt s.data.toList), 0) else (⟨#[]⟩, 15) := rfl
  have HU := Lib.hid hU
  clear hU
  go_enter Try.func57, Try.ntmps57
  go_wp2
  go_loop [4] (fun i => ∃ k : Nat, k ≤ s.size ∧ i = .int .i64 k ∧ ∀ j, j < k → s.data.toList[j]? ≠ some 0) (fun i => s.size - (intOf i).toNat)
  case atStart => exact ⟨0, Nat.zero_le _, rfl, by intro j hj; omega⟩
  case round =>
    obtain ⟨k, hk, rfl, hz⟩ := hrel
    have HZ := Lib.hid hz
    clear hz
    by_cases hgo : ∃ h : k < s.size, ¬ ((s[k]'h).toNat : Int) = 0
    · obtain ⟨hlt, hb⟩ := hgo
      have HB := Lib.hid (byte_nz s k hlt hb)
      have hb' : ((s[k].toNat : Int) != 0) = true := bne_iff_ne.2 hb
      clear hb
      go_wp2
      go_round
      case rel => exact ⟨k + 1, by omega, by go_num, fun j hj => by
        by_cases e : j = k
        · subst e; exact HB.out
        · exact HZ.out j (by omega)⟩
      case measure => simp [intOf]; omega
    · have hzk : zAt s.data.toList = k := by
        refine zAt_eq _ _ HZ.out ?_
        by_cases hlt : k < s.size
        · refine Or.inl (byte_z s k hlt ?_)
          exact Decidable.byContradiction fun h => hgo ⟨hlt, h⟩
        · right; rw [HL.out]; omega
      have HU2 : Hid (untextR s = if ((s.data.toList.drop k).all (· == 0)) = true then (s.extract 0 k, 0) else (⟨#[]⟩, 15)) := by
        show _ = _; rw [HU.out, hzk]
      clear hzk HU
      have hcase : (k < s.size ∧ ∃ h : k < s.size, (((s[k]'h).toNat : Int) != 0) = false) ∨ ¬ k < s.size := by
        by_cases hlt : k < s.size
        · refine Or.inl ⟨hlt, hlt, ?_⟩
          have : ((s[k].toNat : Int)) = 0 := Decidable.byContradiction fun h => hgo ⟨hlt, h⟩
          simp [this]
        · exact Or.inr hlt
      clear hgo
      rcases hcase with ⟨hlt, _, hb⟩ | hlt
      all_goals
        go_wp2
        go_loop [5] (fun i => ∃ m : Nat, k ≤ m ∧ m ≤ s.size ∧ i = .int .i64 m ∧ ∀ j, k ≤ j → j < m → s.data.toList[j]? = some 0) (fun i => s.size - (intOf i).toNat)
        case atStart => exact ⟨k, Nat.le_refl _, hk, rfl, by intro j h1 h2; omega⟩
        case round =>
          obtain ⟨m, hkm, hm, rfl, hz2⟩ := hrel
          have HZ2 := Lib.hid hz2
          clear hz2
          by_cases hlm : m < s.size
          · by_cases hbm : (s[m].toNat : Int) = 0
            · have HB := Lib.hid (byte_z s m hlm hbm)
              have hb' : ((s[m].toNat : Int) != 0) = false := by simp [hbm]
              clear hbm
              go_wp2
              go_round
              case rel => exact ⟨m + 1, by omega, by omega, by go_num, fun j h1 h2 => by
                by_cases e : j = m
                · subst e; exact HB.out
                · exact HZ2.out j h1 (by omega)⟩
              case measure => simp [intOf]; omega
            · have hno := all_no (s.data.toList.drop k) (m - k) s[m] (by rw [List.getElem?_drop, show k + (m - k) = m by omega]; exact byte_at s m hlm) (fun e => hbm (by rw [e]; rfl))
              have HW : Hid (untextR s = (⟨#[]⟩, 15)) := by show _ = _; rw [HU2.out, hno]; rfl
              have hb' : ((s[m].toNat : Int) != 0) = true := bne_iff_ne.2 hbm
              clear hbm hno
              go_wp2
              go_ret2
              exact ⟨by rw [HW.out]; rfl, rfl⟩
          · have hyes := all_yes (s.data.toList.drop k) (fun j hj => by rw [List.getElem?_drop]; exact HZ2.out _ (by omega) (by rw [List.length_drop, HL.out] at hj; omega))
            have HW : Hid (untextR s = (s.extract 0 k, 0)) := by show _ = _; rw [HU2.out, hyes]; rfl
            clear hyes
            go_wp2
            go_ret2
            exact ⟨by rw [HW.out]; rfl, rfl⟩

theorem padR_size (s : ByteArray) (n : Int) : (padR s n).1.size ≤ 1000 := by
  unfold padR
  split
  · split
    · show (s.data.toList ++ List.replicate (n.toNat - s.size) (0 : UInt8)).toArray.size ≤ 1000
      rw [List.size_toArray, List.length_append, List.length_replicate, Array.length_toList]
      have : s.data.size = s.size := rfl
      omega
    · decide
  · decide
theorem textR_size (s : ByteArray) (n : Int) : (textR s n).1.size ≤ 1000 := by
  unfold textR
  split
  · split
    · decide
    · exact padR_size s n
  · exact Nat.zero_le _
theorem text_back (s : ByteArray) (n : Int) (h : (textR s n).2 = 0) : untextR (textR s n).1 = (s, 0) := by
  unfold textR at h ⊢
  split at h
  · rename_i hp
    split at h
    · simp at h
    · rename_i hz
      rw [if_pos hp, if_neg hz]
      unfold padR at hp ⊢
      split at hp
      · rename_i hn
        split at hp
        · rename_i hl
          rw [if_pos hn, if_pos hl]
          have hzl : zAt (padS s n.toNat).data.toList = s.data.toList.length := by
            show zAt (s.data.toList ++ List.replicate (n.toNat - s.size) (0 : UInt8)) = _
            refine zAt_eq _ _ (fun k hk => ?_) ?_
            · rw [List.getElem?_append_left hk]
              intro e
              apply hz
              simp only [hasZ, decide_eq_true_eq]; exact List.mem_of_getElem? e
            · by_cases e : n.toNat - s.size = 0
              · right; rw [e]; simp
              · left; rw [List.getElem?_append_right (Nat.le_refl _), Nat.sub_self, List.getElem?_replicate, if_pos (by omega)]
          unfold untextR
          rw [hzl]
          have hd : (padS s n.toNat).data.toList.drop s.data.toList.length = List.replicate (n.toNat - s.size) (0 : UInt8) := by
            show (s.data.toList ++ List.replicate (n.toNat - s.size) (0 : UInt8)).drop _ = _
            rw [List.drop_left]
          rw [hd, if_pos (by simp)]
          have he : (padS s n.toNat).extract 0 s.data.toList.length = s := by
            apply ByteArray.ext
            apply Array.ext'
            rw [Lib.extract_data, List.drop_zero, Nat.sub_zero]
            show (s.data.toList ++ List.replicate (n.toNat - s.size) (0 : UInt8)).take _ = _
            rw [List.take_left]
          rw [he]
        · simp at hp
      · simp at hp
  · rename_i hp; exact absurd h hp
end Go.Proofs.Ytflijnhgonigjaa
