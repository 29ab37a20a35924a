/-
  WALKS of the reference's stock: Run of marks; use, Run, Take, Drop, Free, Used. Condition: the reference's deal, whole blocks.
-/
import Derived.Test.YtbkgfkemjhaopaaGreatFD
set_option linter.unusedVariables false
set_option linter.unusedSimpArgs false
set_option maxRecDepth 100000
set_option maxHeartbeats 4000000
namespace Go.Proofs.YtbkgfkemjhaopaaGreat.Dl
open Go.RowKit
open Mk
open Sl (Turns SlabAt)
open Lg (Ch chCells chsCells FS LogAt Whole setL setL_len ownB bcell z128)
open Kr (crv rightK blockK okK kf kb kc KBox cells3 put3 put3_box put3_below marksK bit_marks marks_size I64 inB)

theorem Zs.succ {m : ByteArray} {i k : Nat} (h : Zs m i k) (hb : bitN m (i + k) = false) : Zs m i (k + 1) := fun t ht => by
  by_cases e : t = k
  · rw [e]; exact hb
  · exact h t (by omega)
theorem Zs.zero (m : ByteArray) (i : Nat) : Zs m i 0 := fun t ht => by omega
theorem not_zs {m : ByteArray} {i k L : Nat} (hk : k < L) (hb : bitN m (i + k) = true) : ¬ Zs m i L := fun h => by
  rw [h k hk] at hb; cases hb

theorem rrun3_any (m : ByteArray) (b L : Nat) (w : World) (hm : m.size = 128) (hb : b ≤ 1024) (hL : 1 ≤ L) (hL2 : (L : Int) ≤ 9223372036854775807) :
    Calls Tryz.prog 60 #[.string m, .int .i64 51, .int .i64 (b : Int), .int .i64 (L : Int)] w fun e w' => ∃ o, e = .returned (.tuple #[.int .i64 (runI o), .bool (runB o)]) ∧ IsRun m 51 b L o ∧ w = w' := by
  by_cases hbL : b < L
  · have h1 : ¬ (L : Int) < 1 := by omega
    have h2 : (b : Int) < (L : Int) := by omega
    have HP : Hid (IsRun m 51 b L none) := fun j _ hj => by omega
    clear hL hbL
    go_enter Tryz.func60, Tryz.ntmps60
    go_wp2
    go_ret2
    exact ⟨none, rfl, HP.out, rfl⟩
  · have h1 : ¬ (L : Int) < 1 := by omega
    have h2 : ¬ (b : Int) < (L : Int) := by omega
    have HIS := Lib.hid (fun (i k : Nat) (h : i ≤ 1024) (h' : k ≤ 1024) => ris_any m ((i : Int) + (k : Int)) w (by rw [hm]; omega) (by omega))
    have HB := Lib.hid (⟨hb, hL, by omega⟩ : b ≤ 1024 ∧ 1 ≤ L ∧ L ≤ b)
    have hmz : (m.size : Int) = 128 := by omega
    clear hL hbL hb
    go_enter Tryz.func60, Tryz.ntmps60
    go_wp2
    go_loop [10, 11, 12] (fun i _ _ => ∃ t : Nat, 51 ≤ t ∧ t ≤ 1025 ∧ i = .int .i64 t ∧ Hid (∀ j, 51 ≤ j → j < t → ¬ Zs m j L)) (fun i _ _ => 1025 - (intOf i).toNat)
    case atStart => exact ⟨51, by omega, by omega, rfl, fun j h1 h2 => by omega⟩
    case round =>
      obtain ⟨t, ht, ht2, rfl, HNO⟩ := hrel
      by_cases hlt : t + L ≤ b
      · have g1 : (t : Int) ≤ (b : Int) - (L : Int) := by omega
        have g2 : (t : Int) < 1024 := by have := HB.out; omega
        have g3 : (b : Int) ≤ 1024 := by have := HB.out; omega
        clear hlt h2
        go_wp2
        go_loop [11, 12] (fun fr i => ∃ (k : Nat) (z : Bool), k ≤ L ∧ i = .int .i64 k ∧ fr = .bool z ∧ Hid ((z = true → Zs m t k) ∧ (z = false → ¬ Zs m t L))) (fun _ i => L - (intOf i).toNat)
        case atStart => exact ⟨0, true, by omega, rfl, rfl, ⟨fun _ => Zs.zero m t, fun e => by cases e⟩⟩
        case round =>
          obtain ⟨k, z, hk, rfl, rfl, HZ⟩ := hrel
          cases z with
          | true =>
            have HZ1 : Hid (Zs m t k) := HZ.out.1 rfl
            by_cases hkl : k < L
            · have g4 : (k : Int) < (L : Int) := by omega
              have hk2 : k ≤ 1024 := by have := HB.out; omega
              have HC := Lib.hid (HIS.out t k (by omega) hk2)
              have hisb : isB m ((t : Int) + (k : Int)) = bitN m (t + k) := by rw [show (t : Int) + (k : Int) = ((t + k : Nat) : Int) by omega, isB_nat]
              rw [hisb] at HC
              cases hb : bitN m (t + k) with
              | false =>
                rw [hb] at HC
                have HN : Hid (Zs m t (k + 1)) := HZ1.out.succ hb
                clear hb hisb HZ HZ1
                go_wp2_with (go_at_call 63; refine HC.out.mono ?_; rintro e w1 ⟨rfl, rfl⟩)
                go_round
                case rel => exact ⟨k + 1, true, by omega, by go_num, rfl, ⟨fun _ => HN.out, fun e => by cases e⟩⟩
                case measure => simp [intOf]; omega
              | true =>
                rw [hb] at HC
                have HN : Hid (¬ Zs m t L) := not_zs hkl hb
                clear hb hisb HZ HZ1
                go_wp2_with (go_at_call 63; refine HC.out.mono ?_; rintro e w1 ⟨rfl, rfl⟩)
                go_round
                case rel => exact ⟨k + 1, false, by omega, by go_num, rfl, ⟨fun e => (by cases e), fun _ => HN.out⟩⟩
                case measure => simp [intOf]; omega
            · have hke : k = L := by omega
              have g4 : ¬ (k : Int) < (L : Int) := by omega
              have HR : Hid (IsRun m 51 b L (some t)) := ⟨ht, by omega, by rw [← hke]; exact HZ1.out, HNO.out⟩
              clear hke HZ HZ1
              go_wp2
              go_ret2
              exact ⟨some t, rfl, HR.out, rfl⟩
          | false =>
            have HN : Hid (∀ j, 51 ≤ j → j < t + 1 → ¬ Zs m j L) := fun j h1 h2 => by
              by_cases e : j = t
              · rw [e]; exact HZ.out.2 rfl
              · exact HNO.out j h1 (by omega)
            clear HZ
            by_cases hkl : k < L
            · have g4 : (k : Int) < (L : Int) := by omega
              go_wp2
              go_round
              case rel => exact ⟨t + 1, by omega, by omega, by go_num, HN.out⟩
              case measure => simp [intOf]; omega
            · have g4 : ¬ (k : Int) < (L : Int) := by omega
              go_wp2
              go_round
              case rel => exact ⟨t + 1, by omega, by omega, by go_num, HN.out⟩
              case measure => simp [intOf]; omega
      · have g1 : ¬ (t : Int) ≤ (b : Int) - (L : Int) := by omega
        have HR : Hid (IsRun m 51 b L none) := fun j h1 h3 => HNO.out j h1 (by omega)
        have HB2 := HB.out
        clear hlt h2 HNO
        go_wp2
        go_ret2
        exact ⟨none, rfl, HR.out, rfl⟩

/-! ### use -/
theorem ruse_any (R r gb cb gn cn N : Nat) (base now : List ByteArray) (i : Nat) (w : World) (h : RD w R r gb cb gn cn N base now) (hm : (mkB now).size = 128) (h1 : 42 ≤ i) (h2 : i < N) (h3 : N ≤ 1000) :
    Calls Tryz.prog 61 #[.pointer (some ⟨r, 0, none⟩), .int .i64 (i : Int)] w fun e w' => e = .returned (.tuple #[]) ∧ RD w' R r gb cb gn cn N base ((now.set 42 (setR (mkB now) (i : Int) true)).set i z128) ∧ Turns [gn] w w' := by
  have d0 : w.drew.cell? ⟨gn, 42, none⟩ = some (.string (mkB now)) := h.cell (k := 42) (by omega)
  have c1 := h.c1
  have c1' : w.drew.cell? ⟨r, 1, none⟩ = some (.slice (some ⟨gn, 0, none⟩) N cn) := h.c1
  have hlt2 : (42 : Int) < (N : Int) := by omega
  have hrl : r < w.heap.size := h.lt
  have hgl : gn < w.heap.size := h.gn_ge.2
  have HST := Lib.hid (fun W => rset_any (mkB now) (i : Int) true W (by omega) (by omega))
  have hsz : (setR (mkB now) (i : Int) true).size = 128 := (setR_size _ _ _).trans hm
  have HPT := Lib.hid (fun (W : World) (hW : Below w.heap.size w W) => (h.below hW).put 42 (setR (mkB now) (i : Int) true))
  have HFZ := Lib.hid (fun (W : World) (hW : Below w.heap.size w W) => (h.below hW).fzn 42)
  have HWR := Lib.hid (fun (W : World) (hW : RD W R r gb cb gn cn N base (now.set 42 (setR (mkB now) (i : Int) true))) => rwrite_any R r gb cb gn cn N base _ (i : Int) ⟨#[]⟩ W hW (by decide))
  obtain ⟨e1, e2⟩ := wr_zero (V := now.set 42 (setR (mkB now) (i : Int) true)) (i := i) h1 (by rw [List.length_set, h.ln]; exact h2)
  rw [e1, e2] at HWR
  clear h hm e1 e2 hsz
  generalize (now.set 42 (setR (mkB now) (i : Int) true)).set i z128 = now3 at *
  generalize hn2 : now.set 42 (setR (mkB now) (i : Int) true) = now2 at *
  clear hn2
  generalize setR (mkB now) (i : Int) true = s2 at *
  generalize mkB now = s0 at *
  go_enter Tryz.func61, Tryz.ntmps61
  go_wp2_with fail
  go_region_with (go_at_call 50; refine (HST.out _).mono ?_; rintro e w1 ⟨rfl, b1⟩
                  have b2 : Below w.heap.size w w1 := ⟨b1.os, b1.tape, b1.output, b1.size, b1.block⟩
                  have d1 : w1.cell? ⟨gn, 42, none⟩ = some (.string s0) := bcell b2 d0 hgl
                  have c2 : w1.cell? ⟨r, 1, none⟩ = some (.slice (some ⟨gn, 0, none⟩) N cn) := bcell b2 c1 hrl
                  have f1 := HFZ.out _ b2
                  have R2 := Lib.hid (HPT.out _ b2)
                  have T2 : Hid (Turns [gn] w (w1.setCell ⟨gn, 42, none⟩ (.string s2))) := (Turns.of_below _ b2).trans (Turns.setCell _ (by simp) _)
                  clear b1 b2)
  all_goals
    generalize w1.setCell ⟨gn, 42, none⟩ (.string s2) = w2 at *
    go_wp2_with (go_at_call 29; refine (HWR.out _ R2.out).mono ?_; rintro e w3 ⟨rfl, r3, t3⟩)
    go_end0
    exact ⟨rfl, r3, T2.out.trans t3⟩
end Go.Proofs.YtbkgfkemjhaopaaGreat.Dl
