/-
  THE LAW CardsPlace: a card that is placed in a block is picked there, and the other three are as they were. It holds for every input.
-/
import Derived.Test.YtmimfnbcffcdfaaCFrame
import Derived.Test.YtmimfnbcffcdfaaCPlace
namespace Go.Proofs.Ytmimfnbcffcdfaa.cardsPlace
open Go.ChangeShapes Go.WideShapes Go.ChangeAt Go.RowKit
open Go.ChangeMaps (open_string shut_string)

/-! ### what is picked of a block in which a card was placed -/
theorem pick_list {α : Type} (l cl : List α) (hl : l.length = 128) (hc : cl.length = 32) (k i : Nat) (hk : k ≤ 3) (hi : i ≤ 3) :
    ((l.take (32 * k) ++ cl ++ l.drop (32 * k + 32)).drop (32 * i)).take 32 = if i = k then cl else (l.drop (32 * i)).take 32 := by
  apply List.ext_getElem?
  intro j
  by_cases hj : j < 32
  · by_cases hik : i = k
    · subst hik
      rw [if_pos rfl, List.getElem?_take_of_lt hj, List.getElem?_drop, List.append_assoc, List.getElem?_append_right (by simp; omega), List.getElem?_append_left (by simp; omega)]
      congr 1
      simp; omega
    · rw [if_neg hik, List.getElem?_take_of_lt hj, List.getElem?_drop, List.getElem?_take_of_lt hj, List.getElem?_drop]
      rcases Nat.lt_or_gt_of_ne hik with h | h
      · rw [List.append_assoc, List.getElem?_append_left (by simp; omega), List.getElem?_take_of_lt (by omega)]
      · rw [List.getElem?_append_right (by simp; omega), List.getElem?_drop]
        congr 1
        simp; omega
  · rw [List.getElem?_eq_none (by simp; omega)]
    split
    · rw [List.getElem?_eq_none (by omega)]
    · rw [List.getElem?_eq_none (by simp; omega)]
theorem ext_list (s : ByteArray) (a n : Nat) : (s.extract a (a + n)).data.toList = (s.data.toList.drop a).take n := by
  simp only [ByteArray.data_extract, Array.toList_extract]
  rw [List.extract_eq_take_drop]
  simp
theorem ext_to (s : ByteArray) (n : Nat) : (s.extract 0 n).data.toList = s.data.toList.take n := by
  have := ext_list s 0 n
  simp only [Nat.zero_add, List.drop_zero] at this
  exact this
theorem ext_from {s : ByteArray} (h : s.size = 128) (n : Nat) : (s.extract n 128).data.toList = s.data.toList.drop n := by
  simp only [ByteArray.data_extract, Array.toList_extract]
  rw [List.extract_eq_take_drop]
  have : s.data.toList.length = 128 := h
  rw [List.take_of_length_le (by simp; omega)]
theorem pick_placed {s c : ByteArray} (hs : s.size = 128) (hc : c.size = 32) (k i : Nat) (hk : k ≤ 3) (hi : i ≤ 3) :
    (s.extract 0 (32 * k) ++ c ++ s.extract (32 * k + 32) 128).extract (32 * i) (32 * i + 32) = if i = k then c else s.extract (32 * i) (32 * i + 32) := by
  apply ByteArray.ext
  apply Array.ext'
  rw [ext_list, ByteArray.data_append, ByteArray.data_append, Array.toList_append, Array.toList_append, ext_to, ext_from hs, pick_list _ _ hs hc k i hk hi]
  split
  · rfl
  · rw [ext_list]
theorem placed_size {s c : ByteArray} (hs : s.size = 128) (hc : c.size = 32) (k : Nat) (hk : k ≤ 3) : (s.extract 0 (32 * k) ++ c ++ s.extract (32 * k + 32) 128).size = 128 := by
  rw [ByteArray.size_append, ByteArray.size_append, ByteArray.size_extract, ByteArray.size_extract, hc, hs]
  omega

set_option maxRecDepth 100000 in
set_option maxHeartbeats 4000000 in
theorem walk (s : ByteArray) (k : Int) (c : ByteArray) (w : World) (_hs : s.size ≤ 140737488355328) (_hk : -9223372036854775808 ≤ k ∧ k ≤ 9223372036854775807) (_hc : c.size ≤ 140737488355328) :
    Calls Try.prog 7 #[.string s, .int .i64 k, .string c] w fun e w' => e = .returned (.bool true) ∧ Below w.heap.size w w' := by
  have HPL := Lib.hid (fun u => place_any s k c u)
  have HPK := Lib.hid (fun u => pick_any s k u)
  cases hp : isP s k with
  | false =>
    have e1 : placeR s k c = (⟨#[]⟩, 1) := by unfold placeR; rw [if_neg (by rw [hp]; simp)]
    have e2 : pickR s k = (⟨#[]⟩, 1) := by unfold pickR; rw [if_neg (by rw [hp]; decide)]
    rw [e1] at HPL
    rw [e2] at HPK
    clear e1 e2
    by_cases h1 : s.size = 128
    · have d1 : ((s.size : Int) != 128) = false := by simp [h1]
      by_cases h2 : k < 0
      · have d2 : decide (k < 0) = true := by simpa using h2
        clear hp h1 h2
        go_enter Try.func7, Try.ntmps7
        go_wp2_with fail
        refine (lives_any _).mono ?_
        rintro e w1 ⟨rfl, b1⟩
        have HB1 := Lib.hid b1
        clear b1
        go_wp2_with fail
        refine (HPL.out _).mono ?_
        rintro e w2 ⟨rfl, b2⟩
        have HB2 := Lib.hid (HB1.out.trans (b2.mono HB1.out.size))
        clear b2 HB1
        go_wp2_with fail
        refine (HPK.out _).mono ?_
        rintro e w3 ⟨rfl, b3⟩
        have HB3 := Lib.hid (HB2.out.trans (b3.mono HB2.out.size))
        clear b3 HB2
        go_wp2
        go_ret
        exact ⟨rfl, HB3.out⟩
      · have d2 : decide (k < 0) = false := by simpa using h2
        have h3 : 3 < k := by
          simp only [isP, Bool.and_eq_false_iff, decide_eq_false_iff_not] at hp
          omega
        have d3 : decide (3 < k) = true := by simpa using h3
        clear hp h1 h2 h3
        go_enter Try.func7, Try.ntmps7
        go_wp2_with fail
        refine (lives_any _).mono ?_
        rintro e w1 ⟨rfl, b1⟩
        have HB1 := Lib.hid b1
        clear b1
        go_wp2_with fail
        refine (HPL.out _).mono ?_
        rintro e w2 ⟨rfl, b2⟩
        have HB2 := Lib.hid (HB1.out.trans (b2.mono HB1.out.size))
        clear b2 HB1
        go_wp2_with fail
        refine (HPK.out _).mono ?_
        rintro e w3 ⟨rfl, b3⟩
        have HB3 := Lib.hid (HB2.out.trans (b3.mono HB2.out.size))
        clear b3 HB2
        go_wp2
        go_ret
        exact ⟨rfl, HB3.out⟩
    · have d1 : ((s.size : Int) != 128) = true := bne_iff_ne.2 (by omega)
      clear hp h1
      go_enter Try.func7, Try.ntmps7
      go_wp2_with fail
      refine (lives_any _).mono ?_
      rintro e w1 ⟨rfl, b1⟩
      have HB1 := Lib.hid b1
      clear b1
      go_wp2_with fail
      refine (HPL.out _).mono ?_
      rintro e w2 ⟨rfl, b2⟩
      have HB2 := Lib.hid (HB1.out.trans (b2.mono HB1.out.size))
      clear b2 HB1
      go_wp2_with fail
      refine (HPK.out _).mono ?_
      rintro e w3 ⟨rfl, b3⟩
      have HB3 := Lib.hid (HB2.out.trans (b3.mono HB2.out.size))
      clear b3 HB2
      go_wp2
      go_ret
      exact ⟨rfl, HB3.out⟩
  | true =>
    obtain ⟨h1, h2⟩ := isP_t hp
    have d1 : ((s.size : Int) != 128) = false := by simp [h1]
    have d2 : decide (k < 0) = false := decide_eq_false (by omega)
    have d3 : decide (3 < k) = false := decide_eq_false (by omega)
    by_cases h3 : c.size = 32
    · have d4 : ((c.size : Int) != 32) = false := by simp [h3]
      have e1 : placeR s k c = (s.extract 0 (32 * k.toNat) ++ c ++ s.extract (32 * k.toNat + 32) 128, 0) := by unfold placeR; rw [if_pos ⟨hp, h3⟩]
      rw [e1] at HPL
      have HSZ := Lib.hid (placed_size h1 h3 k.toNat (by omega))
      have HPP : Hid (∀ i, i ≤ 3 → (s.extract 0 (32 * k.toNat) ++ c ++ s.extract (32 * k.toNat + 32) 128).extract (32 * i) (32 * i + 32) = if i = k.toNat then c else s.extract (32 * i) (32 * i + 32)) := fun i hi => pick_placed h1 h3 k.toNat i (by omega) hi
      generalize s.extract 0 (32 * k.toNat) ++ c ++ s.extract (32 * k.toNat + 32) 128 = p at *
      have hkb : 0 ≤ k ∧ k ≤ 3 := by omega
      have hs1 : 128 ≤ s.size := by omega
      have hs3 : (32 : Int) ≤ (s.size : Int) := by omega
      have hs4 : (64 : Int) ≤ (s.size : Int) := by omega
      have hs5 : (96 : Int) ≤ (s.size : Int) := by omega
      have hs6 : (128 : Int) ≤ (s.size : Int) := by omega
      have HS1 : Hid (s.size = 128) := h1
      have HX0 : Hid (∀ u : World, Calls Try.prog 20 #[.string s, .int .i64 0] u fun e w' => e = .returned (.tuple #[.string (s.extract 0 32), .int .i64 0]) ∧ Below u.heap.size u w') := fun u => by
        have h := pick_any s 0 u
        have e : pickR s 0 = (s.extract 0 32, 0) := by unfold pickR; rw [if_pos (by simp [isP, HS1.out])]; rfl
        rwa [e] at h
      have HY0 : Hid (∀ u : World, Calls Try.prog 20 #[.string p, .int .i64 0] u fun e w' => e = .returned (.tuple #[.string (if k = 0 then c else s.extract 0 32), .int .i64 0]) ∧ Below u.heap.size u w') := fun u => by
        have h := pick_any p 0 u
        have e : pickR p 0 = (if k = 0 then c else s.extract 0 32, 0) := by
          unfold pickR
          rw [if_pos (by simp [isP, HSZ.out])]
          have h5 := HPP.out 0 (by omega)
          have e5 : (if 0 = k.toNat then c else s.extract (32 * 0) (32 * 0 + 32)) = (if k = 0 then c else s.extract 0 32) := by
            by_cases hk : k = 0
            · rw [if_pos hk, if_pos (by omega)]
            · rw [if_neg hk, if_neg (by omega)]
          rw [e5] at h5
          exact congrArg (fun x => (x, (0 : Int))) h5
        rwa [e] at h
      have HX1 : Hid (∀ u : World, Calls Try.prog 20 #[.string s, .int .i64 1] u fun e w' => e = .returned (.tuple #[.string (s.extract 32 64), .int .i64 0]) ∧ Below u.heap.size u w') := fun u => by
        have h := pick_any s 1 u
        have e : pickR s 1 = (s.extract 32 64, 0) := by unfold pickR; rw [if_pos (by simp [isP, HS1.out])]; rfl
        rwa [e] at h
      have HY1 : Hid (∀ u : World, Calls Try.prog 20 #[.string p, .int .i64 1] u fun e w' => e = .returned (.tuple #[.string (if k = 1 then c else s.extract 32 64), .int .i64 0]) ∧ Below u.heap.size u w') := fun u => by
        have h := pick_any p 1 u
        have e : pickR p 1 = (if k = 1 then c else s.extract 32 64, 0) := by
          unfold pickR
          rw [if_pos (by simp [isP, HSZ.out])]
          have h5 := HPP.out 1 (by omega)
          have e5 : (if 1 = k.toNat then c else s.extract (32 * 1) (32 * 1 + 32)) = (if k = 1 then c else s.extract 32 64) := by
            by_cases hk : k = 1
            · rw [if_pos hk, if_pos (by omega)]
            · rw [if_neg hk, if_neg (by omega)]
          rw [e5] at h5
          exact congrArg (fun x => (x, (0 : Int))) h5
        rwa [e] at h
      have HX2 : Hid (∀ u : World, Calls Try.prog 20 #[.string s, .int .i64 2] u fun e w' => e = .returned (.tuple #[.string (s.extract 64 96), .int .i64 0]) ∧ Below u.heap.size u w') := fun u => by
        have h := pick_any s 2 u
        have e : pickR s 2 = (s.extract 64 96, 0) := by unfold pickR; rw [if_pos (by simp [isP, HS1.out])]; rfl
        rwa [e] at h
      have HY2 : Hid (∀ u : World, Calls Try.prog 20 #[.string p, .int .i64 2] u fun e w' => e = .returned (.tuple #[.string (if k = 2 then c else s.extract 64 96), .int .i64 0]) ∧ Below u.heap.size u w') := fun u => by
        have h := pick_any p 2 u
        have e : pickR p 2 = (if k = 2 then c else s.extract 64 96, 0) := by
          unfold pickR
          rw [if_pos (by simp [isP, HSZ.out])]
          have h5 := HPP.out 2 (by omega)
          have e5 : (if 2 = k.toNat then c else s.extract (32 * 2) (32 * 2 + 32)) = (if k = 2 then c else s.extract 64 96) := by
            by_cases hk : k = 2
            · rw [if_pos hk, if_pos (by omega)]
            · rw [if_neg hk, if_neg (by omega)]
          rw [e5] at h5
          exact congrArg (fun x => (x, (0 : Int))) h5
        rwa [e] at h
      have HX3 : Hid (∀ u : World, Calls Try.prog 20 #[.string s, .int .i64 3] u fun e w' => e = .returned (.tuple #[.string (s.extract 96 128), .int .i64 0]) ∧ Below u.heap.size u w') := fun u => by
        have h := pick_any s 3 u
        have e : pickR s 3 = (s.extract 96 128, 0) := by unfold pickR; rw [if_pos (by simp [isP, HS1.out])]; rfl
        rwa [e] at h
      have HY3 : Hid (∀ u : World, Calls Try.prog 20 #[.string p, .int .i64 3] u fun e w' => e = .returned (.tuple #[.string (if k = 3 then c else s.extract 96 128), .int .i64 0]) ∧ Below u.heap.size u w') := fun u => by
        have h := pick_any p 3 u
        have e : pickR p 3 = (if k = 3 then c else s.extract 96 128, 0) := by
          unfold pickR
          rw [if_pos (by simp [isP, HSZ.out])]
          have h5 := HPP.out 3 (by omega)
          have e5 : (if 3 = k.toNat then c else s.extract (32 * 3) (32 * 3 + 32)) = (if k = 3 then c else s.extract 96 128) := by
            by_cases hk : k = 3
            · rw [if_pos hk, if_pos (by omega)]
            · rw [if_neg hk, if_neg (by omega)]
          rw [e5] at h5
          exact congrArg (fun x => (x, (0 : Int))) h5
        rwa [e] at h
      clear hp e1 h1 h2 h3 HPK HPP HS1
      have d5 : ((p.size : Int) == 128) = true := by have := HSZ.out; simp [this]
      go_enter Try.func7, Try.ntmps7
      go_wp2_with fail
      refine (lives_any _).mono ?_
      rintro e w1 ⟨rfl, b1⟩
      have HB1 := Lib.hid b1
      clear b1
      go_wp2_with fail
      refine (HPL.out _).mono ?_
      rintro e w2 ⟨rfl, b2⟩
      have HB2 := Lib.hid (HB1.out.trans (b2.mono HB1.out.size))
      clear b2 HB1
      go_wp2
      go_loopw [11] (fun i wr => ∃ j : Nat, j ≤ 4 ∧ i = .int .i64 (j : Int) ∧ Below w.heap.size w wr) (fun i _ => 4 - (intOf i).toNat)
      case atStart => exact ⟨0, by omega, rfl, HB2.out⟩
      case round =>
        clear HB2
        obtain ⟨j, hj, rfl, hb⟩ := hrel
        have HB3 := Lib.hid hb
        clear hb
        by_cases hlt : j < 4
        · have hj4 : j = 0 ∨ j = 1 ∨ j = 2 ∨ j = 3 := by omega
          rcases hj4 with rfl | rfl | rfl | rfl
          · by_cases hk : k = 0
            · subst hk
              have HY := HY0
              rw [if_pos rfl] at HY
              go_wp2_with fail
              refine (HX0.out _).mono ?_
              rintro e w4 ⟨rfl, b4⟩
              have HB4 := Lib.hid (HB3.out.trans (b4.mono HB3.out.size))
              clear b4 HB3
              go_wp2_with fail
              refine (HY.out _).mono ?_
              rintro e w5 ⟨rfl, b5⟩
              have HB5 := Lib.hid (HB4.out.trans (b5.mono HB4.out.size))
              clear b5 HB4
              go_wp2
              go_roundw
              case rel => exact ⟨1, by omega, rfl, HB5.out⟩
              case measure => simp [intOf]
            · have HY := HY0
              rw [if_neg hk] at HY
              have x1 : ((0 : Int) == k) = false := by simp; omega
              have x2 : ((0 : Int) != k) = true := bne_iff_ne.2 (by omega)
              clear hk
              go_wp2_with fail
              refine (HX0.out _).mono ?_
              rintro e w4 ⟨rfl, b4⟩
              have HB4 := Lib.hid (HB3.out.trans (b4.mono HB3.out.size))
              clear b4 HB3
              go_wp2_with fail
              refine (HY.out _).mono ?_
              rintro e w5 ⟨rfl, b5⟩
              have HB5 := Lib.hid (HB4.out.trans (b5.mono HB4.out.size))
              clear b5 HB4
              go_wp2
              go_roundw
              case rel => exact ⟨1, by omega, rfl, HB5.out⟩
              case measure => simp [intOf]
          · by_cases hk : k = 1
            · subst hk
              have HY := HY1
              rw [if_pos rfl] at HY
              go_wp2_with fail
              refine (HX1.out _).mono ?_
              rintro e w4 ⟨rfl, b4⟩
              have HB4 := Lib.hid (HB3.out.trans (b4.mono HB3.out.size))
              clear b4 HB3
              go_wp2_with fail
              refine (HY.out _).mono ?_
              rintro e w5 ⟨rfl, b5⟩
              have HB5 := Lib.hid (HB4.out.trans (b5.mono HB4.out.size))
              clear b5 HB4
              go_wp2
              go_roundw
              case rel => exact ⟨2, by omega, rfl, HB5.out⟩
              case measure => simp [intOf]
            · have HY := HY1
              rw [if_neg hk] at HY
              have x1 : ((1 : Int) == k) = false := by simp; omega
              have x2 : ((1 : Int) != k) = true := bne_iff_ne.2 (by omega)
              clear hk
              go_wp2_with fail
              refine (HX1.out _).mono ?_
              rintro e w4 ⟨rfl, b4⟩
              have HB4 := Lib.hid (HB3.out.trans (b4.mono HB3.out.size))
              clear b4 HB3
              go_wp2_with fail
              refine (HY.out _).mono ?_
              rintro e w5 ⟨rfl, b5⟩
              have HB5 := Lib.hid (HB4.out.trans (b5.mono HB4.out.size))
              clear b5 HB4
              go_wp2
              go_roundw
              case rel => exact ⟨2, by omega, rfl, HB5.out⟩
              case measure => simp [intOf]
          · by_cases hk : k = 2
            · subst hk
              have HY := HY2
              rw [if_pos rfl] at HY
              go_wp2_with fail
              refine (HX2.out _).mono ?_
              rintro e w4 ⟨rfl, b4⟩
              have HB4 := Lib.hid (HB3.out.trans (b4.mono HB3.out.size))
              clear b4 HB3
              go_wp2_with fail
              refine (HY.out _).mono ?_
              rintro e w5 ⟨rfl, b5⟩
              have HB5 := Lib.hid (HB4.out.trans (b5.mono HB4.out.size))
              clear b5 HB4
              go_wp2
              go_roundw
              case rel => exact ⟨3, by omega, rfl, HB5.out⟩
              case measure => simp [intOf]
            · have HY := HY2
              rw [if_neg hk] at HY
              have x1 : ((2 : Int) == k) = false := by simp; omega
              have x2 : ((2 : Int) != k) = true := bne_iff_ne.2 (by omega)
              clear hk
              go_wp2_with fail
              refine (HX2.out _).mono ?_
              rintro e w4 ⟨rfl, b4⟩
              have HB4 := Lib.hid (HB3.out.trans (b4.mono HB3.out.size))
              clear b4 HB3
              go_wp2_with fail
              refine (HY.out _).mono ?_
              rintro e w5 ⟨rfl, b5⟩
              have HB5 := Lib.hid (HB4.out.trans (b5.mono HB4.out.size))
              clear b5 HB4
              go_wp2
              go_roundw
              case rel => exact ⟨3, by omega, rfl, HB5.out⟩
              case measure => simp [intOf]
          · by_cases hk : k = 3
            · subst hk
              have HY := HY3
              rw [if_pos rfl] at HY
              go_wp2_with fail
              refine (HX3.out _).mono ?_
              rintro e w4 ⟨rfl, b4⟩
              have HB4 := Lib.hid (HB3.out.trans (b4.mono HB3.out.size))
              clear b4 HB3
              go_wp2_with fail
              refine (HY.out _).mono ?_
              rintro e w5 ⟨rfl, b5⟩
              have HB5 := Lib.hid (HB4.out.trans (b5.mono HB4.out.size))
              clear b5 HB4
              go_wp2
              go_roundw
              case rel => exact ⟨4, by omega, rfl, HB5.out⟩
              case measure => simp [intOf]
            · have HY := HY3
              rw [if_neg hk] at HY
              have x1 : ((3 : Int) == k) = false := by simp; omega
              have x2 : ((3 : Int) != k) = true := bne_iff_ne.2 (by omega)
              clear hk
              go_wp2_with fail
              refine (HX3.out _).mono ?_
              rintro e w4 ⟨rfl, b4⟩
              have HB4 := Lib.hid (HB3.out.trans (b4.mono HB3.out.size))
              clear b4 HB3
              go_wp2_with fail
              refine (HY.out _).mono ?_
              rintro e w5 ⟨rfl, b5⟩
              have HB5 := Lib.hid (HB4.out.trans (b5.mono HB4.out.size))
              clear b5 HB4
              go_wp2
              go_roundw
              case rel => exact ⟨4, by omega, rfl, HB5.out⟩
              case measure => simp [intOf]
        · obtain rfl : j = 4 := by omega
          rw [show ((4 : Nat) : Int) = 4 from rfl]
          go_wp2
          go_ret
          exact ⟨rfl, HB3.out⟩
    · have d4 : ((c.size : Int) != 32) = true := bne_iff_ne.2 (by omega)
      have e1 : placeR s k c = (⟨#[]⟩, 1) := by unfold placeR; rw [if_neg (fun h => h3 h.2)]
      have e2 : (pickR s k).2 = 0 := by unfold pickR; rw [if_pos hp]
      rw [e1] at HPL
      rw [e2] at HPK
      have d5 : ((s.size : Int) == 128) = true := by simp [h1]
      have d6 : decide (0 ≤ k) = true := decide_eq_true (by omega)
      have d7 : decide (k ≤ 3) = true := decide_eq_true (by omega)
      generalize (pickR s k).1 = q at *
      clear hp h1 h2 h3 e1 e2
      go_enter Try.func7, Try.ntmps7
      go_wp2_with fail
      refine (lives_any _).mono ?_
      rintro e w1 ⟨rfl, b1⟩
      have HB1 := Lib.hid b1
      clear b1
      go_wp2_with fail
      refine (HPL.out _).mono ?_
      rintro e w2 ⟨rfl, b2⟩
      have HB2 := Lib.hid (HB1.out.trans (b2.mono HB1.out.size))
      clear b2 HB1
      go_wp2_with fail
      refine (HPK.out _).mono ?_
      rintro e w3 ⟨rfl, b3⟩
      have HB3 := Lib.hid (HB2.out.trans (b3.mono HB2.out.size))
      clear b3 HB2
      go_wp2
      go_ret
      exact ⟨rfl, HB3.out⟩

set_option maxRecDepth 100000 in
theorem lifted (os : Os) (started : os.Started) (H : Type) (enc : TypeId × Value → H) :
    ReturnsInHanded {} Try.checked os 7 .any (Rows.cardsPlaceSpec.pre6 enc Try.prog Try.f7 Rows.cardsPlaceRow.domain false) (Rows.cardsPlaceSpec.post enc Try.prog Try.f7 false true false false) := by
  refine returnsInHanded_of_change_sized (C := Try.checked) own started (by kernel_rfl) Try.func7
    (ChangeSpec.witness6 (enc := enc) (C := Try.checked) false ⟨#[], #[.string ByteArray.empty, .int .i64 0, .string ByteArray.empty], []⟩ 8 (by kernel_rfl) (by kernel_rfl) (by kernel_rfl) (by kernel_rfl)) ?_
  intro W base args ds gs before hval0 hW hcnd hsz0 _
  have hval : ∀ (j : Nat) t v, Try.f7.params[j]? = some t → args[j]? = some v → Value.okWide Try.prog W .any base t v := hval0
  have hsz : (DataW.weightsEach Try.prog (Try.f7.params.toList ++ Rows.cardsPlaceSpec.plain.varTypes Try.prog) (ds ++ gs)).all (· ≤ reachBytes) = true := hsz0
  have hW' := hW
  obtain ⟨p, q, hA0, hV, rfl, hfz, hnd⟩ := hW
  have hA : DataW.TrodAll enc Try.prog W 0 (fun _ => true) true Try.f7.params.toList args.toList ds p := hA0
  rw [Try.params7] at hA hval hsz
  obtain ⟨v0, vs0, d0, ds0, p0, q0, hargs, rfl, rfl, h0, r0⟩ := trodAll_cons hA
  obtain ⟨v1, vs1, d1, ds1, p1, q1, rfl, rfl, rfl, h1, r1⟩ := trodAll_cons r0
  obtain ⟨v2, vs2, d2, ds2, p2, q2, rfl, rfl, rfl, h2, r2⟩ := trodAll_cons r1
  obtain ⟨rfl, rfl, rfl⟩ := trodAll_nil r2
  obtain rfl : args = #[v0, v1, v2] := by cases args; simp_all
  obtain ⟨rfl, rfl⟩ := trodVars_none hV
  obtain ⟨s0, rfl, rfl, rfl, hs0⟩ := open_string Try.underlying9 (hval 0 9 v0 rfl rfl) h0
  have b0 : s0.size ≤ 140737488355328 := by
    have := sized_string hsz (j := 0) (t := 9) rfl rfl
    rw [Array.length_toList] at this
    simp only [reachBytes] at this
    exact Nat.le_trans this (by decide)
  obtain ⟨n1, rfl, rfl, rfl, wn1⟩ := open_int Try.underlying3 (hval 1 3 v1 rfl rfl) h1
  obtain ⟨s2, rfl, rfl, rfl, hs2⟩ := open_string Try.underlying9 (hval 2 9 v2 rfl rfl) h2
  have b2 : s2.size ≤ 140737488355328 := by
    have := sized_string hsz (j := 2) (t := 9) rfl rfl
    rw [Array.length_toList] at this
    simp only [reachBytes] at this
    exact Nat.le_trans this (by decide)
  clear hA0 hval0
  refine (walk s0 n1 s2 W b0 (i64_of_wf wn1) b2).mono fun e W' ⟨he, bel⟩ => ?_
  subst he
  exact ⟨_, rfl, _, _, _, [], _, [], hW', trodAll_mk1 (shut_bool Try.underlying4 _), (trodAll_cons_mk (shut_string Try.underlying9 hs0) (trodAll_cons_mk (shut_int Try.underlying3 wn1) (trodAll_cons_mk (shut_string Try.underlying9 hs2) trodAll_mk0))), rfl, bel.frame _, fun h => by cases h⟩

theorem over : Rows.cardsPlaceRow.holds Try.pinned (OpenSpec.ofChange Rows.cardsPlaceSpec) :=
  OpenClaim.holds_of_wide 7 Try.f7 rfl rfl rfl rfl rfl rfl rfl ⟨rfl, rfl, rfl, rfl, rfl⟩ rfl rfl rfl rfl rfl (by kernel_rfl) Try.func7 (by kernel_rfl)
    (of_decide_eq_true (by kernel_rfl)) (by unfold Func.isWrapper; first | (rw [if_pos (by decide +kernel)]; kernel_rfl) | (rw [if_neg (by decide +kernel)]; exact ⟨rfl, rfl⟩))
    (fun os started H enc _ => lifted os started H enc)

end Go.Proofs.Ytmimfnbcffcdfaa.cardsPlace
namespace Go.Proofs.Ytmimfnbcffcdfaa
theorem cardsPlace_proved : Rows.CardsPlaceSaid := cardsPlace.over
#print axioms cardsPlace_proved
end Go.Proofs.Ytmimfnbcffcdfaa
