/-
  WALK: the reference's Write. Conditions: at most 40000 entries.
-/
import Derived.Test.YtmmjpdggneagdaaEStrs
import Derived.Test.YtmmjpdggneagdaaERefRight
namespace Go.Proofs.Ytmmjpdggneagdaa
open Go.RowKit

theorem cut_next {l : List En} {q k : Nat} (hk : k < 8) (h : 8 * q + 8 ≤ l.length) : (cutE l q).take (k + 1) = (cutE l q).take k ++ [l.getD (8 * q + k) En.z] := by
  rw [take_snoc _ (by rw [cutE_len h]; exact hk), cutE_at hk]
theorem bytesE_snoc (l : List En) (e : En) : bytesE (l ++ [e]) = bytesE l ++ slotL e := by unfold bytesE; simp
theorem bytes_next {l : List En} {q k : Nat} (hk : k < 8) (h : 8 * q + 8 ≤ l.length) : bs (bytesE ((cutE l q).take k)) ++ bs (slotL (l.getD (8 * q + k) En.z)) = bs (bytesE ((cutE l q).take (k + 1))) := by
  rw [cut_next hk h, bytesE_snoc, bs_append]
theorem bytes_short {l : List En} (hr : rightR l = true) (q k : Nat) (hk : k ≤ 8) : (bs (bytesE ((cutE l q).take k))).size ≤ 128 := by
  rw [bs_size, bytesE_len (fun e he => (right_okS hr (cutE_mem (List.mem_of_mem_take he))).len), List.length_take]
  omega
theorem bytes_all {l : List En} {q : Nat} (h : 8 * q + 8 ≤ l.length) : bs (bytesE ((cutE l q).take 8)) = blk l q := by
  unfold blk; rw [List.take_of_length_le (by rw [cutE_len h]; omega)]
theorem writeB_no {l : List En} (h : rightR l = false) : writeB l = ([], 1) := by unfold writeB; rw [if_neg (by rw [h]; decide)]
theorem writeB_yes {l : List En} (h : rightR l = true) : writeB l = (blocksR l, 0) := by unfold writeB; rw [if_pos h]

set_option maxRecDepth 100000 in
set_option maxHeartbeats 4000000 in
theorem rwriteB_any (A : Option Addr) (n c B : Nat) (l : List En) (w : World) (hA : EnsAt w B A n l) (hB : B ≤ w.heap.size) (hn : n ≤ 40000) :
    Calls Try.prog 24 #[.slice A n c] w (RetW w (writeB l)) := by
  have HL := Lib.hid hA.len
  have HA := Lib.hid hA
  have HRT := Lib.hid (rrightE_any A n c B l w hA hB (by omega))
  clear hA
  cases h0 : rightR l with
  | false =>
    have HR := Lib.hid (writeB_no h0)
    rw [h0] at HRT
    clear h0
    go_enter Try.func24, Try.ntmps24
    go_wp2_with fail
    refine HRT.out.mono ?_
    rintro e w1 ⟨rfl, b1⟩
    go_wp2
    go_ret2
    rw [HR.out]
    exact ⟨_, rfl, World.ownsRow_nil _ _ _ _, b1⟩
  | true =>
    have HR := Lib.hid (writeB_yes h0)
    have H0 := Lib.hid h0
    have h8 := right_len h0
    rw [HL.out] at h8
    rw [h0] at HRT
    clear h0
    go_enter Try.func24, Try.ntmps24
    go_wp2_with fail
    refine HRT.out.mono ?_
    rintro e w1 ⟨rfl, b1⟩
    have HB1 := Lib.hid b1
    clear b1
    go_wp2
    go_loopw [4, 5, 6, 7] (fun v i _ _ wr => ∃ q : Nat, 8 * q ≤ n ∧ i = .int .i64 ((8 * q : Nat) : Int) ∧ wr.ownsRow w.heap.size 9 1 v (blocksTo l q).length (strs (blocksTo l q)) ∧ Below w.heap.size w wr) (fun _ i _ _ _ => n - (intOf i).toNat)
    case atStart => exact ⟨0, by omega, rfl, World.ownsRow_nil _ _ _ _, HB1.out⟩
    case round =>
      clear HB1
      obtain ⟨q, hq, rfl, hown, hb⟩ := hrel
      obtain ⟨A', c', rfl, hc'⟩ := own_slice hown
      have HOWN := Lib.hid hown
      have HB := Lib.hid hb
      clear hown hb
      have HQL := Lib.hid (blocksTo_len l q)
      by_cases hlt : 8 * q < n
      · have h8q : 8 * q + 8 ≤ n := by omega
        have h8l : 8 * q + 8 ≤ l.length := by rw [HL.out]; exact h8q
        have HNX := Lib.hid (fun k hk => bytes_next (l := l) (q := q) (k := k) hk h8l)
        have HSH := Lib.hid (fun k hk => bytes_short H0.out q k hk)
        have HALL := Lib.hid (bytes_all h8l)
        have HBS := Lib.hid (blocksTo_succ l q)
        have hlt' : ((8 * q : Nat) : Int) < (n : Int) := by omega
        generalize hX : 8 * q = x at *
        go_wp2
        go_loopw [6, 7] (fun s i wq => ∃ k : Nat, k ≤ 8 ∧ i = .int .i64 (k : Int) ∧ s = .string (bs (bytesE ((cutE l q).take k))) ∧ Below wr.heap.size wr wq) (fun _ i _ => 8 - (intOf i).toNat)
        case atStart => exact ⟨0, by omega, rfl, rfl, Below.refl _ _⟩
        case round =>
          obtain ⟨k, hk, rfl, rfl, hb2⟩ := hrel
          have HB2 := Lib.hid hb2
          clear hb2
          by_cases hk8 : k < 8
          · have hbw := HB.out.trans (HB2.out.mono HB.out.size)
            obtain ⟨b, o, rfl, hbB, g1, g2⟩ := HA.out.at_ (k := x + k) (by omega)
            have c1 := bcell hbw g1 (by show b < _; omega)
            have c2 := bcell hbw g2 (by show b < _; omega)
            have HN := Lib.hid (HNX.out k hk8)
            have hsz := HSH.out k hk
            have hok : (l.getD (x + k) En.z).okS := right_okS H0.out (by rw [getD_lt (by rw [HL.out]; omega)]; exact List.getElem_mem _)
            have HONE := Lib.hid (fun W => one_any (l.getD (x + k) En.z) W hok)
            have hs16 : (bs (slotL (l.getD (x + k) En.z))).size = 16 := slot_len hok.len
            have x1 : (0 : Int) ≤ (x : Int) + (k : Int) := by omega
            have x2 : (x : Int) + (k : Int) < (n : Int) := by omega
            have e1 : ((x : Int) + (k : Int)).toNat = x + k := by omega
            clear g1 g2 hok hbw
            generalize bs (slotL (l.getD (x + k) En.z)) = T at *
            generalize (l.getD (x + k) En.z).nm = s at *
            generalize (l.getD (x + k) En.z).nd = z at *
            generalize bs (bytesE ((cutE l q).take k)) = S at *
            have hcat : ¬ 9223372036854775807 < S.size + T.size := by omega
            go_wp2_with fail
            refine (HONE.out _).mono ?_
            rintro e w3 ⟨rfl, b3⟩
            have HB3 := Lib.hid (HB2.out.trans (b3.mono HB2.out.size))
            clear b3 c1 c2
            go_wp2
            go_roundw
            case rel => exact ⟨k + 1, by omega, by go_num, by rw [HN.out], HB3.out⟩
            case measure => simp [intOf]; omega
          · obtain rfl : k = 8 := by omega
            rw [HALL.out]
            have HBW : Hid (Below w.heap.size w wr) := HB.out.trans (HB2.out.mono HB.out.size)
            have HOW := Lib.hid (own_below HOWN.out HB2.out (Nat.le_refl _))
            clear HALL HNX HSH
            generalize blk l q = z at *
            go_wp2_with (at_builtin; refine pushS_law rfl (.tmp 30) (.tmp 32) rfl w.heap.size wr (.slice A' (blocksTo l q).length c') (blocksTo l q) z rfl rfl HOW.out (by rw [HQL.out]; omega) HBW.out.size ?_; intro v' w3 hown3 hb3)
            have HO3 : Hid (w3.ownsRow w.heap.size 9 1 v' (blocksTo l (q + 1)).length (strs (blocksTo l (q + 1)))) := by show World.ownsRow _ _ _ _ _ _ _; rw [HBS.out]; exact hown3
            clear hown3
            go_roundw
            case rel => exact ⟨q + 1, by omega, by rw [show 8 * (q + 1) = x + 8 by omega]; go_num, HO3.out, HBW.out.trans hb3⟩
            case measure => simp [intOf]; omega
      · have hq8 : q = n / 8 := by omega
        have hfin : RetW w (writeB l) (.returned (.tuple #[.slice A' (blocksTo l q).length c', .int .i64 0])) wr := by
          rw [HR.out]
          unfold blocksR
          rw [HL.out, ← hq8]
          exact ⟨_, rfl, HOWN.out, HB.out⟩
        have HF := Lib.hid hfin
        have hlt' : ¬ ((8 * q : Nat) : Int) < (n : Int) := by omega
        clear hq8
        clear hfin
        generalize 8 * q = x at *
        go_wp2
        go_ret2
        exact HF.out
end Go.Proofs.Ytmmjpdggneagdaa
