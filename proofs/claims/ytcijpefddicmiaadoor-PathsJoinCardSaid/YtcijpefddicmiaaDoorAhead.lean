/-
  WALKS: the reference's Ahead; lives. Conditions: texts of at most 2^47 bytes; internal/bytealg.MaxLen holds an int.
-/
import Derived.Test.YtcijpefddicmiaaDoorRefUnder
namespace Go.Proofs.YtcijpefddicmiaaDoor
open Go.RowKit

theorem data_getD (s : ByteArray) (k : Nat) (hk : k < s.size) : s.data.toList.getD k 0 = s[k] := by
  have : k < s.data.toList.length := by simpa using hk
  simp only [List.getD, List.getElem?_eq_getElem this, Option.getD_some]
  rfl

set_option maxHeartbeats 4000000 in
theorem ahead_any (a b : ByteArray) (w : World) (ha : a.size ≤ 140737488355328) :
    Calls Tryd.prog 21 #[.string a, .string b] w fun e w' => e = .returned (.bool (aheadL a.data.toList b.data.toList)) ∧ Below w.heap.size w w' := by
  have HAT : Hid (∀ (k : Nat) (h1 : k < a.size) (h2 : k < b.size), (∀ j, j < k → a.data.toList.getD j 0 = b.data.toList.getD j 0) → a[k] ≠ b[k] → aheadL a.data.toList b.data.toList = decide (((a[k].toNat : Nat) : Int) < ((b[k].toNat : Nat) : Int))) :=
    fun k h1 h2 h hne => ahead_at a.data.toList b.data.toList k (by simpa using h1) (by simpa using h2) h hne
  have HEND : Hid (∀ k : Nat, k ≤ a.size → k ≤ b.size → (k = a.size ∨ k = b.size) → (∀ j, j < k → a.data.toList.getD j 0 = b.data.toList.getD j 0) → aheadL a.data.toList b.data.toList = decide (a.size < b.size)) :=
    fun k h1 h2 h3 h => by
      rw [ahead_end a.data.toList b.data.toList k (by simpa using h1) (by simpa using h2) (by simpa using h3) h, decide_eq_decide]
      simp
  have HGA : Hid (∀ (k : Nat) (h1 : k < a.size) (h2 : k < b.size), a[k] = b[k] → a.data.toList.getD k 0 = b.data.toList.getD k 0) := fun k h1 h2 e => by
    rw [data_getD a k h1, data_getD b k h2, e]
  generalize aheadL a.data.toList b.data.toList = v at *
  go_enter Tryd.func21, Tryd.ntmps21
  go_wp2
  go_loopw [5] (fun i wr => ∃ k : Nat, i = .int .i64 (k : Int) ∧ k ≤ a.size ∧ k ≤ b.size ∧ (∃ q, wr = w.drewN q) ∧ Hid (∀ j, j < k → a.data.toList.getD j 0 = b.data.toList.getD j 0)) (fun i _ => a.size - (intOf i).toNat)
  case atStart => exact ⟨0, rfl, Nat.zero_le _, Nat.zero_le _, ⟨0, rfl⟩, fun j hj => absurd hj (Nat.not_lt_zero _)⟩
  case round =>
    obtain ⟨k, rfl, hk, hk2, ⟨q, rfl⟩, hok⟩ := hrel
    have hk0 : (0 : Int) ≤ (k : Int) := by omega
    by_cases hlt : k < a.size
    · by_cases hlt2 : k < b.size
      · have e1 : (k : Int) < (a.size : Int) := by omega
        have e2 : (k : Int) < (b.size : Int) := by omega
        by_cases hq : a[k] = b[k]
        · have HOK : Hid (∀ j, j < k + 1 → a.data.toList.getD j 0 = b.data.toList.getD j 0) := fun j hj => by
            rcases Nat.lt_or_ge j k with h | h
            · exact hok.out j h
            · obtain rfl : j = k := by omega
              exact HGA.out j hlt hlt2 hq
          have e3 : (((a[k].toNat : Nat) : Int) != ((b[k].toNat : Nat) : Int)) = false := by rw [hq]; simp
          clear hq
          go_wp2
          go_quiet (fail)
          go_wp2
          go_roundw
          case rel => exact ⟨k + 1, by go_num, hlt, hlt2, ⟨_, rfl⟩, HOK⟩
          case measure => simp [intOf]; omega
        · have HN := Lib.hid (HAT.out k hlt hlt2 hok.out hq)
          have e3 : (((a[k].toNat : Nat) : Int) != ((b[k].toNat : Nat) : Int)) = true := by
            rw [bne_iff_ne]
            intro e
            exact hq (UInt8.toNat_inj.1 (by omega))
          clear hq
          go_wp2
          go_quiet (fail)
          go_wp2
          go_quiet (fail)
          go_wp2
          go_ret
          refine ⟨ret_bool (a := decide (a[k].toNat < b[k].toNat)) ?_, below_drewN (below_drewN (below_drewN (Below.refl _ _) q) _) _⟩
          rw [HN.out, decide_eq_decide]
          omega
      · have e2 : ¬ (k : Int) < (b.size : Int) := by omega
        have e1 : (k : Int) < (a.size : Int) := by omega
        have HN := Lib.hid (HEND.out k hk hk2 (Or.inr (by omega)) hok.out)
        go_wp2
        go_ret
        exact ⟨ret_bool HN.out.symm, below_drewN (Below.refl _ _) q⟩
    · have e1 : ¬ (k : Int) < (a.size : Int) := by omega
      have HN := Lib.hid (HEND.out k hk hk2 (Or.inl (by omega)) hok.out)
      go_wp2
      go_ret
      exact ⟨ret_bool HN.out.symm, below_drewN (Below.refl _ _) q⟩

/-! ### lives -/
def abc : List UInt8 := [47, 97, 47, 98, 46, 99]
theorem lives_names : namesL abc = some [[97], [98, 46, 99]] := by decide
theorem lives_parent : parentL (some [[97], [98, 46, 99]]) = ([47, 97], [98, 46, 99], 0) := by decide
theorem lives_right : rightB (bs [120, 45, 49]) = true := by decide
theorem lives_under : underO (namesL [47]) (namesL [47, 97]) = true := by decide
theorem RetNames.some {w : World} {l : List (List UInt8)} {e : Ending} {w' : World} (h : RetNames w (some l) e w') : ∃ A c, e = .returned (.tuple #[.slice A l.length c, .int .i64 0]) ∧ Below w.heap.size w w' ∧ StrsAt w' w'.heap.size A l.length l ∧ l.length ≤ c := by
  obtain ⟨A, n, c, he, hb, hA, hn⟩ := h
  have := hA.len
  obtain rfl : l.length = n := this
  exact ⟨A, c, he, hb, hA, hn⟩

set_option maxHeartbeats 4000000 in
theorem lives_any (w : World) (hm : MaxAt w) : Calls Tryd.prog 8 #[] w fun e w' => e = .returned (.bool true) ∧ Below w.heap.size w w' := by
  have H1 := split_any abc w (by decide) hm
  have HP : ∀ W, MaxAt W → Calls Tryd.prog 14 #[.string (bs abc)] W (RetParent W (parentL (namesL abc))) := fun W h => parent_any abc W (by decide) h
  have HR : ∀ W, Calls Tryd.prog 11 #[.string (bs [120, 45, 49])] W _ := fun W => right_any (bs [120, 45, 49]) W
  have HU : ∀ W, MaxAt W → Calls Tryd.prog 16 #[.string (bs [47]), .string (bs [47, 97])] W _ := fun W h => under_any [47] [47, 97] W (by decide) (by decide) h
  rw [lives_names] at H1 HP
  rw [lives_parent] at HP
  rw [lives_right] at HR
  rw [lives_under] at HU
  have H1' := Lib.hid H1
  have HP' := Lib.hid HP
  have HR' := Lib.hid HR
  have HU' := Lib.hid HU
  have HM := Lib.hid hm
  clear H1 HP HR HU hm
  go_enter Tryd.func8, Tryd.ntmps8
  go_wp2_with fail
  refine H1'.out.mono ?_
  rintro e w1 h1
  obtain ⟨A, c, rfl, hb1, hA, hnc⟩ := h1.some
  rw [show ([[97], [98, 46, 99]] : List (List UInt8)).length = 2 from rfl] at hA hnc ⊢
  have hm1 : MaxAt w1 := HM.out.to hb1
  go_wp2_with fail
  refine (HP'.out w1 hm1).mono ?_
  rintro e w2 ⟨rfl, hb2⟩
  have hm2 : MaxAt w2 := hm1.to hb2
  have hA2 := hA.to hb2
  obtain ⟨b, o, rfl, hB, hcell⟩ := hA2.at_ (k := 1) (by omega)
  rw [show ([[97], [98, 46, 99]] : List (List UInt8)).getD 1 [] = [98, 46, 99] from rfl] at hcell
  have t1 : (bs [98, 46, 99]).toList = [98, 46, 99] := by rw [ByteArray.toList_eq]; rfl
  have t2 : (bs [47, 97]).toList = [47, 97] := by rw [ByteArray.toList_eq]; rfl
  have HB2 := Lib.hid (hb1.trans (hb2.mono hb1.size))
  have HM2 := Lib.hid hm2
  clear hA hA2 hb1 hb2 hm1 hm2 h1 H1' HP' HM
  go_wp2_with fail
  refine (HR'.out w2).mono ?_
  rintro e w3 ⟨rfl, hb3⟩
  go_wp2_with fail
  refine (HU'.out w3 (HM2.out.to hb3)).mono ?_
  rintro e w4 ⟨rfl, hb4⟩
  go_wp2
  go_ret
  have q3 := HB2.out.trans (hb3.mono HB2.out.size)
  exact ⟨rfl, q3.trans (hb4.mono q3.size)⟩
end Go.Proofs.YtcijpefddicmiaaDoor
