/-
  LadderBack: the rungs of a map say it, with zeros behind; they need a block for each list that is there. No condition.
-/
import Derived.Test.YtiknbbkblldjiaaBack
import Derived.BigGuardPart
import Derived.Deep.CutRange
namespace Go.Proofs.Ytiknbbkblldjiaa.ladderBack
open Go.ChangeShapes Go.WideShapes Go.ChangeAt Go.RowKit
open Go.ChangeMaps (open_string shut_string)

theorem cut_at {w : World} {B : Nat} {A : Option Addr} {n : Nat} {zs : List Int} (h : IntsAt w B A n zs) : IntsAt w B A (min (n : Int) 400).toNat (zs.take (min (n : Int) 400).toNat) := h.take _ (by omega)

def anyN (zs : List Int) (a q : Nat) : Bool := (List.range q).any fun t => zs.getD (12 + 8 * a + t) 0 != 0
theorem anyN_succ (zs : List Int) (a q : Nat) : anyN zs a (q + 1) = (anyN zs a q || (zs.getD (12 + 8 * a + q) 0 != 0)) := by simp [anyN, List.range_succ]
theorem anyN_8 (zs : List Int) (a : Nat) (ha : a < 8) : anyN zs a 8 = !zeroB (pieceOf zs (a + 2)) := by
  have hoff : offP (a + 2) = 12 + 8 * a := by simp [offP]; omega
  cases h : zeroB (pieceOf zs (a + 2)) with
  | true =>
    show anyN zs a 8 = false
    unfold anyN
    rw [List.any_eq_false]
    intro t ht
    have := zeroB_at h t
    rw [pieceOf_get zs (a + 2) t (by omega) (by simp [lenP]; simpa using ht), hoff] at this
    rw [this]
    simp
  | false =>
    show anyN zs a 8 = true
    unfold anyN
    rw [List.any_eq_true]
    have h' : ¬ ∀ k, k < (pieceOf zs (a + 2)).length → (pieceOf zs (a + 2)).getD k 0 = 0 := of_decide_eq_false h
    apply Classical.byContradiction
    intro hn
    apply h'
    intro k hk
    rw [pieceOf_len zs (a + 2) (by omega)] at hk
    apply Classical.byContradiction
    intro hk2
    rw [pieceOf_get zs (a + 2) k (by omega) hk, hoff] at hk2
    exact hn ⟨k, List.mem_range.2 (by simpa [lenP] using hk), bne_iff_ne.2 hk2⟩

set_option maxHeartbeats 8000000 in
theorem walk (A : Option Addr) (n c : Nat) (zs0 : List Int) (w : World) (h : IntsAt w w.heap.size A n zs0 ∧ n ≤ c) :
    Calls Try.prog 5 #[.slice A n c] w fun e w' => e = .returned (.bool true) ∧ Below w.heap.size w w' := by
  obtain ⟨hA, hc⟩ := h
  have HA := Lib.hid (cut_at hA)
  have hm : (min (n : Int) 400).toNat ≤ 400 := by omega
  have hmc : (min (n : Int) 400).toNat ≤ c := by omega
  clear hA
  go_enter Try.func5, Try.ntmps5
  go_wp2_with fail
  refine (lives_any w).mono ?_
  rintro e w1 ⟨rfl, b1⟩
  have HA1 := Lib.hid (HA.out.below b1 (Nat.le_refl _))
  have HB1 := Lib.hid b1
  have hz1 := b1.size
  clear b1
  go_wp2_with fail
  generalize (min (n : Int) 400) = mi at *
  generalize mi.toNat = M at *
  generalize zs0.take M = zs at *
  have HL1 := Lib.hid HA1.out.len
  by_cases hE : fitsE zs = 0
  · refine (of_any A M c w.heap.size zs w1 HA1.out hz1 (by omega) hmc hE).mono ?_
    rintro e w2 ⟨A1, A2, A3, c1, c2, c3, rfl, h1, h2, h3, -, -, b2⟩
    obtain ⟨A2', c2', e2, -, h2', -⟩ := h2.read
    injection e2 with e21 e22 e23
    subst e21 e23
    have HB2 := Lib.hid (HB1.out.trans (b2.mono hz1))
    have hz2 := HB2.out.size
    have HA2 := Lib.hid (HA1.out.below b2 hz1)
    have HR2 : Hid (Rungs3 w2 w2.heap.size A1 A2 A3 4 ((optP zs 1).getD []).length (dblOf zs).length (pieceOf zs 0) ((optP zs 1).getD []) (dblOf zs)) := ⟨h1, h2', h3⟩
    have HD8 : Hid ((dblOf zs).length ≤ 8) := by show _ ≤ _; rw [show (dblOf zs).length = _ from dblL_len _]; split <;> omega
    have HBK := Lib.hid (blocks_back zs)
    have HBN := Lib.hid (back_nums zs)
    clear h1 h2 h2' h3 b2 hE e22 HA1 HA
    generalize hn2 : ((optP zs 1).getD []).length = n2 at *
    generalize hn3 : (dblOf zs).length = n3 at *
    obtain ⟨b3, hb3⟩ : ∃ b3, b3 = w2.alloc (.cells #[.slice A1 4 c1, .slice A2 n2 c2, .slice A3 n3 c3] 26) := ⟨_, rfl⟩
    have hstr3 : b3.heap[w2.heap.size]? = some (.cells #[.slice A1 4 c1, .slice A2 n2 c2, .slice A3 n3 c3] 26 (0, 0)) := by rw [hb3]; exact World.alloc_heap_new w2 _
    have hbb3 : Below w2.heap.size w2 b3 := by rw [hb3]; exact (Below.refl _ w2).alloc (Nat.le_refl _) _
    have hz3 : b3.heap.size = w2.heap.size + 1 := by rw [hb3]; simp
    go_wp2_with fail
    refine (map_any A1 A2 A3 4 n2 n3 c1 c2 c3 w2.heap.size _ _ _ _ (HR2.out.below ((Below.refl _ w2).alloc (Nat.le_refl _) _) (Nat.le_refl _)) (by simp)).mono ?_
    rw [mapRow_nums, HBN.out, ← hb3]
    rintro e w4 ⟨g, hg, rfl, hrow, b4⟩
    rw [wholeOf_len]
    have hb24 := hbb3.trans (b4.mono (by omega))
    have HR4 := Lib.hid (HR2.out.below hb24 (Nat.le_refl _))
    have HA4 := Lib.hid (HA2.out.below hb24 hz2)
    have HSTR : Hid (w4.heap[w2.heap.size]? = some (.cells #[.slice A1 4 c1, .slice A2 n2 c2, .slice A3 n3 c3] 26 (0, 0))) := (b4.block _ (by omega)).trans hstr3
    have HROW := Lib.hid hrow
    have HB4 := Lib.hid (HB2.out.trans (hb24.mono hz2))
    have hz4 : w2.heap.size < w4.heap.size := by have := b4.size; omega
    clear hrow hb24 b4 hstr3 hbb3 hz3 hb3
    go_wp2
    go_loop [6] (fun j => ∃ i : Nat, i ≤ 76 ∧ j = .int .i64 (i : Int)) (fun j => 76 - (intOf j).toNat)
    case atStart => exact ⟨0, by omega, rfl⟩
    case round =>
      obtain ⟨i, hi, rfl⟩ := hrel
      by_cases hlt : i < 76
      · have k1 := HROW.out.cell i (by rw [wholeOf_len]; exact hlt)
        rw [wholeOf_get zs i hlt] at k1
        have d1 : decide ((i : Int) < 76) = true := by simp; omega
        by_cases hiM : i < M
        · obtain ⟨b, o, rfl, hbB, k2⟩ := HA4.out.at_ hiM
          have d2 : decide ((i : Int) < (M : Int)) = true := by simp; omega
          generalize zs.getD i 0 = z at *
          go_wp2
          go_round
          case rel => exact ⟨i + 1, by omega, by go_num⟩
          case measure => simp [intOf]; omega
        · have e0 : zs.getD i 0 = 0 := getD_out zs i (by rw [HL1.out]; omega)
          have d2 : decide ((i : Int) < (M : Int)) = false := by simp; omega
          rw [e0] at k1
          clear e0
          go_wp2
          go_round
          case rel => exact ⟨i + 1, by omega, by go_num⟩
          case measure => simp [intOf]; omega
      · obtain rfl : i = 76 := by omega
        rw [show ((76 : Nat) : Int) = 76 from rfl]
        go_wp2
        clear hi hlt
        go_loop [8, 9, 10] (fun s l j => ∃ i : Nat, i ≤ 76 ∧ s = .int .i64 (sinN zs i : Int) ∧ l = .int .i64 (lisN zs i : Int) ∧ j = .int .i64 (i : Int)) (fun _ _ j => 76 - (intOf j).toNat)
        case atStart => exact ⟨0, by omega, rfl, rfl, rfl⟩
        case round =>
          obtain ⟨i, hi, rfl, rfl, rfl⟩ := hrel
          have hsl := sinN_le zs i
          have hll := lisN_le zs i
          by_cases hlt : i < 76
          · have k1 := HROW.out.cell i (by rw [wholeOf_len]; exact hlt)
            rw [wholeOf_get zs i hlt] at k1
            have d1 : decide ((i : Int) < 76) = true := by simp; omega
            have HP := Lib.hid (place_any (i : Int) w4 (by unfold Fit; omega))
            by_cases h4 : i < 4
            · have HP2 : Hid (Calls Try.prog 18 #[.int .i64 (i : Int)] w4 fun e w' => e = .returned (.tuple #[.int .i64 0, .int .i64 (i : Int), .int .i64 0]) ∧ w4 = w') := by
                have := HP.out
                rw [show placeK (i : Int) = (0, (i : Int), 0) by unfold placeK; rw [if_neg (by omega), if_pos (by omega)]] at this
                exact this
              have HS1 : Hid (sinN zs (i + 1) = sinN zs i) := sinN_out (by omega)
              have HL2 : Hid (lisN zs (i + 1) = lisN zs i) := lisN_out (by omega)
              clear HP
              generalize zs.getD i 0 = z at *
              by_cases hz : z = 0
              · subst hz
                go_wp2_with fail
                refine HP2.out.mono ?_
                rintro e w5 ⟨rfl, rfl⟩
                go_wp2
                go_round
                case rel => exact ⟨i + 1, by omega, by rw [HS1.out], by rw [HL2.out], by go_num⟩
                case measure => simp [intOf]; omega
              · have hz' : (z != 0) = true := bne_iff_ne.2 hz
                go_wp2_with fail
                refine HP2.out.mono ?_
                rintro e w5 ⟨rfl, rfl⟩
                go_wp2
                go_round
                case rel => exact ⟨i + 1, by omega, by rw [HS1.out], by rw [HL2.out], by go_num⟩
                case measure => simp [intOf]; omega
            · by_cases h12 : i < 12
              · have HP2 : Hid (Calls Try.prog 18 #[.int .i64 (i : Int)] w4 fun e w' => e = .returned (.tuple #[.int .i64 1, .int .i64 ((i : Int) - 4), .int .i64 0]) ∧ w4 = w') := by
                  have := HP.out
                  rw [show placeK (i : Int) = (1, (i : Int) - 4, 0) by unfold placeK; rw [if_neg (by omega), if_neg (by omega), if_pos (by omega)]] at this
                  exact this
                have HL2 : Hid (lisN zs (i + 1) = lisN zs i) := lisN_out (by omega)
                clear HP
                by_cases hz : zs.getD i 0 = 0
                · have HS1 : Hid (sinN zs (i + 1) = sinN zs i) := sinN_out (fun h => h.2.2 hz)
                  rw [hz] at k1
                  clear hz
                  go_wp2_with fail
                  refine HP2.out.mono ?_
                  rintro e w5 ⟨rfl, rfl⟩
                  go_wp2
                  go_round
                  case rel => exact ⟨i + 1, by omega, by rw [HS1.out], by rw [HL2.out], by go_num⟩
                  case measure => simp [intOf]; omega
                · have HS1 : Hid (sinN zs (i + 1) = 1) := sinN_in (by omega) h12 hz
                  generalize zs.getD i 0 = z at *
                  have hz' : (z != 0) = true := bne_iff_ne.2 hz
                  go_wp2_with fail
                  refine HP2.out.mono ?_
                  rintro e w5 ⟨rfl, rfl⟩
                  go_wp2
                  go_round
                  case rel => exact ⟨i + 1, by omega, by rw [HS1.out]; rfl, by rw [HL2.out], by go_num⟩
                  case measure => simp [intOf]; omega
              · obtain ⟨a, r, hr, rfl⟩ : ∃ a r, r < 8 ∧ i = 12 + 8 * a + r := ⟨(i - 12) / 8, (i - 12) % 8, by omega, by omega⟩
                have ha : a < 8 := by omega
                have HP2 : Hid (Calls Try.prog 18 #[.int .i64 ((12 + 8 * a + r : Nat) : Int)] w4 fun e w' => e = .returned (.tuple #[.int .i64 2, .int .i64 (a : Int), .int .i64 (r : Int)]) ∧ w4 = w') := by
                  have := HP.out
                  rw [show placeK ((12 + 8 * a + r : Nat) : Int) = (2, (a : Int), (r : Int)) by unfold placeK; rw [if_neg (by omega), if_neg (by omega), if_neg (by omega)]; congr 2 <;> omega] at this
                  exact this
                have HS1 : Hid (sinN zs (12 + 8 * a + r + 1) = sinN zs (12 + 8 * a + r)) := sinN_out (by omega)
                clear HP
                rcases Nat.eq_zero_or_pos r with rfl | hr0
                · have HL2 : Hid (lisN zs (12 + 8 * a + 0 + 1) = lisN zs (12 + 8 * a + 0) + if zeroB (pieceOf zs (a + 2)) = false then 1 else 0) := lisN_at zs a
                  have HA8 := Lib.hid (anyN_8 zs a ha)
                  rw [show ((0 : Nat) : Int) = 0 from rfl] at HP2
                  generalize hI : 12 + 8 * a + 0 = I at *
                  generalize zs.getD I 0 = z at *
                  by_cases hz : z = 0
                  · subst hz
                    go_wp2_with fail
                    refine HP2.out.mono ?_
                    rintro e w5 ⟨rfl, rfl⟩
                    go_wp2
                    go_loop [14, 15] (fun sm j => ∃ q : Nat, q ≤ 8 ∧ sm = .bool (anyN zs a q) ∧ j = .int .i64 (q : Int)) (fun _ j => 8 - (intOf j).toNat)
                    case atStart => exact ⟨0, by omega, rfl, rfl⟩
                    case round =>
                      obtain ⟨q, hq, rfl, rfl⟩ := hrel
                      by_cases hlq : q < 8
                      · have d3 : decide ((q : Int) < 8) = true := by simp; omega
                        have k3 := HROW.out.cell (12 + 8 * a + q) (by rw [wholeOf_len]; omega)
                        rw [wholeOf_get zs (12 + 8 * a + q) (by omega)] at k3
                        have HQ1 := Lib.hid (anyN_succ zs a q)
                        generalize zs.getD (12 + 8 * a + q) 0 = y at *
                        generalize anyN zs a q = sm at *
                        cases sm with
                        | true =>
                          go_wp2
                          go_round
                          case rel => exact ⟨q + 1, by omega, by rw [HQ1.out]; rfl, by go_num⟩
                          case measure => simp [intOf]; omega
                        | false =>
                          go_wp2
                          go_round
                          case rel => exact ⟨q + 1, by omega, by rw [HQ1.out]; rfl, by go_num⟩
                          case measure => simp [intOf]; omega
                      · obtain rfl : q = 8 := by omega
                        rw [show ((8 : Nat) : Int) = 8 from rfl, HA8.out]
                        cases hzp : zeroB (pieceOf zs (a + 2)) with
                        | true =>
                          have HL3 : Hid (lisN zs (I + 1) = lisN zs I) := by show _ = _; rw [HL2.out, hzp]; rfl
                          clear hzp
                          go_wp2
                          go_round
                          case rel => exact ⟨I + 1, by omega, by rw [HS1.out], by rw [HL3.out], by go_num⟩
                          case measure => simp [intOf]; omega
                        | false =>
                          have HL3 : Hid (lisN zs (I + 1) = lisN zs I + 1) := by show _ = _; rw [HL2.out, hzp]; rfl
                          clear hzp
                          go_wp2
                          go_round
                          case rel => exact ⟨I + 1, by omega, by rw [HS1.out], by rw [HL3.out]; go_num, by go_num⟩
                          case measure => simp [intOf]; omega
                  · have hz' : (z != 0) = true := bne_iff_ne.2 hz
                    go_wp2_with fail
                    refine HP2.out.mono ?_
                    rintro e w5 ⟨rfl, rfl⟩
                    go_wp2
                    go_loop [14, 15] (fun sm j => ∃ q : Nat, q ≤ 8 ∧ sm = .bool (anyN zs a q) ∧ j = .int .i64 (q : Int)) (fun _ j => 8 - (intOf j).toNat)
                    case atStart => exact ⟨0, by omega, rfl, rfl⟩
                    case round =>
                      obtain ⟨q, hq, rfl, rfl⟩ := hrel
                      by_cases hlq : q < 8
                      · have d3 : decide ((q : Int) < 8) = true := by simp; omega
                        have k3 := HROW.out.cell (12 + 8 * a + q) (by rw [wholeOf_len]; omega)
                        rw [wholeOf_get zs (12 + 8 * a + q) (by omega)] at k3
                        have HQ1 := Lib.hid (anyN_succ zs a q)
                        generalize zs.getD (12 + 8 * a + q) 0 = y at *
                        generalize anyN zs a q = sm at *
                        cases sm with
                        | true =>
                          go_wp2
                          go_round
                          case rel => exact ⟨q + 1, by omega, by rw [HQ1.out]; rfl, by go_num⟩
                          case measure => simp [intOf]; omega
                        | false =>
                          go_wp2
                          go_round
                          case rel => exact ⟨q + 1, by omega, by rw [HQ1.out]; rfl, by go_num⟩
                          case measure => simp [intOf]; omega
                      · obtain rfl : q = 8 := by omega
                        rw [show ((8 : Nat) : Int) = 8 from rfl, HA8.out]
                        cases hzp : zeroB (pieceOf zs (a + 2)) with
                        | true =>
                          have HL3 : Hid (lisN zs (I + 1) = lisN zs I) := by show _ = _; rw [HL2.out, hzp]; rfl
                          clear hzp
                          go_wp2
                          go_round
                          case rel => exact ⟨I + 1, by omega, by rw [HS1.out], by rw [HL3.out], by go_num⟩
                          case measure => simp [intOf]; omega
                        | false =>
                          have HL3 : Hid (lisN zs (I + 1) = lisN zs I + 1) := by show _ = _; rw [HL2.out, hzp]; rfl
                          clear hzp
                          go_wp2
                          go_round
                          case rel => exact ⟨I + 1, by omega, by rw [HS1.out], by rw [HL3.out]; go_num, by go_num⟩
                          case measure => simp [intOf]; omega
                · have HL2 : Hid (lisN zs (12 + 8 * a + r + 1) = lisN zs (12 + 8 * a + r)) := lisN_out (by omega)
                  have hr1 : ((r : Int) == 0) = false := beq_false_of_ne (by omega)
                  generalize 12 + 8 * a + r = I at *
                  generalize zs.getD I 0 = z at *
                  by_cases hz : z = 0
                  · subst hz
                    go_wp2_with fail
                    refine HP2.out.mono ?_
                    rintro e w5 ⟨rfl, rfl⟩
                    go_wp2
                    go_round
                    case rel => exact ⟨I + 1, by omega, by rw [HS1.out], by rw [HL2.out], by go_num⟩
                    case measure => simp [intOf]; omega
                  · have hz' : (z != 0) = true := bne_iff_ne.2 hz
                    go_wp2_with fail
                    refine HP2.out.mono ?_
                    rintro e w5 ⟨rfl, rfl⟩
                    go_wp2
                    go_round
                    case rel => exact ⟨I + 1, by omega, by rw [HS1.out], by rw [HL2.out], by go_num⟩
                    case measure => simp [intOf]; omega
          · obtain rfl : i = 76 := by omega
            have d1 : decide ((76 : Int) < 76) = false := by simp
            rw [show ((76 : Nat) : Int) = 76 from rfl]
            obtain ⟨⟨q0, -⟩, ⟨q1, -⟩, ⟨q2, -⟩⟩ := cell3 HSTR.out
            have HBL := Lib.hid (blocks_base _ A1 A2 A3 4 n2 n3 c1 c2 c3 w2.heap.size (dblOf zs) w4 HR4.out.h3 (by omega) (by have := HD8.out; omega) rfl)
            have HBK2 : Hid ((if 0 < n2 then 1 else 0) + (if 0 < n3 then 1 else 0) + cntTo (dblOf zs) n3 = sinN zs 76 + (lisN zs 76 + if 0 < lisN zs 76 then 1 else 0)) := HBK.out
            rw [HBK2.out] at HBL
            clear HBK2
            generalize sinN zs 76 = S at *
            generalize lisN zs 76 = L at *
            rcases Nat.eq_zero_or_pos L with rfl | hL
            · rw [show S + (0 + if 0 < 0 then 1 else 0) = S from rfl] at HBL
              go_wp2_with fail
              refine HBL.out.mono ?_
              rintro e w5 ⟨rfl, b5⟩
              go_wp2
              go_ret
              exact ⟨rfl, HB4.out.trans (b5.mono HB4.out.size)⟩
            · rw [if_pos hL] at HBL
              have hL' : (0 : Int) < (L : Int) := by omega
              go_wp2_with fail
              refine HBL.out.mono ?_
              rintro e w5 ⟨rfl, b5⟩
              go_wp2
              go_ret
              exact ⟨by simp, HB4.out.trans (b5.mono HB4.out.size)⟩
  · obtain ⟨E, hE2, h0⟩ : ∃ E, fitsE zs = E ∧ (E = 3 ∨ E = 12) := ⟨_, rfl, by unfold fitsE at hE ⊢; split <;> simp_all⟩
    refine (of_err E A M c w.heap.size zs w1 HA1.out hz1 (by omega) hmc hE2 h0).mono ?_
    rintro e w2 ⟨rfl, b2⟩
    have h0' : (E != 0) = true := bne_iff_ne.2 (by omega)
    have HB2 := Lib.hid (HB1.out.trans (b2.mono hz1))
    have hz2 := HB2.out.size
    clear b2 h0 hE2 hE
    go_wp2_with fail
    refine (blocks_base 0 none none none 0 0 0 0 0 0 0 [] _ (ListsAt.nil _ _ _) (by omega) (by omega) (by rfl)).mono ?_
    rintro e w3 ⟨rfl, b3⟩
    rw [show (((0 + cntTo [] 0 : Nat) : Nat) : Int) = 0 from rfl]
    go_wp2
    go_ret
    exact ⟨rfl, (HB2.out.alloc hz2 _).trans (b3.mono (by simp; omega))⟩

set_option maxRecDepth 100000 in
theorem lifted (os : Os) (started : os.Started) (H : Type) (enc : TypeId × Value → H) :
    ReturnsInHanded {} Try.checked os 5 .any (Rows.ladderBackSpec.pre6 enc Try.prog Try.f5 Rows.ladderBackRow.domain false) (Rows.ladderBackSpec.post enc Try.prog Try.f5 false true false false) := by
  refine returnsInHanded_of_change_sized (C := Try.checked) own started (by kernel_rfl) Try.func5
    (ChangeSpec.witness6 (enc := enc) (C := Try.checked) false ⟨#[], #[.slice none 0 0], []⟩ 8 (by kernel_rfl) (by kernel_rfl) (by kernel_rfl) (by kernel_rfl)) ?_
  intro W base args ds gs before hval0 hW hcnd hsz0 _
  have hval : ∀ (j : Nat) t v, Try.f5.params[j]? = some t → args[j]? = some v → Value.okWide Try.prog W .any base t v := hval0
  have hW' := hW
  obtain ⟨p, q, hA0, hV, rfl, hfz, hnd⟩ := hW
  have hA : DataW.TrodAll enc Try.prog W 0 (fun _ => true) true Try.f5.params.toList args.toList ds p := hA0
  rw [Try.params5] at hA hval
  obtain ⟨v0, vs0, d0, ds0, p0, q0, hargs, rfl, rfl, h0, r0⟩ := trodAll_cons hA
  obtain ⟨rfl, rfl, rfl⟩ := trodAll_nil r0
  obtain rfl : args = #[v0] := by cases args; simp_all
  obtain ⟨rfl, rfl⟩ := trodVars_none hV
  have lt0 : ∀ x ∈ p0, x.block < W.heap.size := by obtain ⟨m, hm⟩ := h0; exact DataW.trod_lt m _ _ _ hm
  obtain ⟨a0, len0, cap0, rfl⟩ := okWide_slice Try.underlying22 (hval 0 22 v0 rfl rfl)
  obtain ⟨l0, w0⟩ := ints_open h0
  clear hA0 hval0
  refine (walk a0 len0 cap0 l0 W w0).mono fun e W' ⟨he, bel⟩ => ?_
  subst he
  exact ⟨_, rfl, _, _, _, [], _, [], hW', trodAll_mk1 (shut_bool Try.underlying4 _), (trodAll_cons_mk (Below.trod laidOut (by kernel_rfl) (of_decide_eq_true (by kernel_rfl)) h0 bel lt0) trodAll_mk0), rfl, bel.frame _, fun h => by cases h⟩

theorem over : Rows.ladderBackRow.holds Try.pinned (OpenSpec.ofChange Rows.ladderBackSpec) :=
  OpenClaim.holds_of_wide 5 Try.f5 rfl rfl rfl rfl rfl rfl rfl ⟨rfl, rfl, rfl, rfl, rfl⟩ rfl rfl rfl rfl rfl (by kernel_rfl) Try.func5 (by kernel_rfl)
    (of_decide_eq_true (by kernel_rfl)) (by unfold Func.isWrapper; first | (rw [if_pos (by decide +kernel)]; kernel_rfl) | (rw [if_neg (by decide +kernel)]; exact ⟨rfl, rfl⟩))
    (fun os started H enc _ => lifted os started H enc)

end Go.Proofs.Ytiknbbkblldjiaa.ladderBack
namespace Go.Proofs.Ytiknbbkblldjiaa
theorem ladderBack_proved : Rows.LadderBackSaid := ladderBack.over
#print axioms ladderBack_proved
end Go.Proofs.Ytiknbbkblldjiaa
