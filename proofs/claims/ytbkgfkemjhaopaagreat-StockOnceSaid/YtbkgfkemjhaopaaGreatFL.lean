/-
  WALKS of the law's own same and lives. Condition: a deal on a calm slab, beside the reference's.
-/
import Derived.Test.YtbkgfkemjhaopaaGreatFK
import Derived.Test.YtbkgfkemjhaopaaGreatFQ
set_option linter.unusedVariables false
set_option linter.unusedSimpArgs false
set_option maxRecDepth 100000
set_option maxHeartbeats 4000000
namespace Go.Proofs.YtbkgfkemjhaopaaGreat.Dl
open Go.RowKit
open Mk
open Sl (Turns SlabAt)
open Lg (Ch chCells chsCells FS LogAt Whole setL setL_len ownB bcell z128 newD newD_len newD_whole newD_get SsAt)
open Kr (crv rightK blockK okK kf kb kc KBox cells3 put3 put3_box put3_below marksK bit_marks marks_size I64 inB)

theorem diff_fit (now base : List ByteArray) (h : now.length ≤ 1000) : ∀ z ∈ diffL now base, -9223372036854775808 ≤ z ∧ z ≤ 9223372036854775807 := fun z hz => by
  obtain ⟨i, hi, rfl⟩ := List.mem_map.1 hz
  have := List.mem_range.1 (List.mem_filter.1 hi).1
  omega
section
variable {w0 w : World} {B d q p pd pm R r : Nat} {g : Fram} {N : Nat} {D V base now : List ByteArray}
theorem same13_any (h : St w0 w B d q p pd pm R r g N D V base now) (ha : Agree N V D now base) :
    Calls Tryz.prog 12 #[.pointer (some ⟨g.at_, 0, none⟩)] w fun e w' => e = .returned (.bool true) ∧ Below w.heap.size w w' := by
  have hl := h.lenV
  have hl2 := h.lenN
  have HN := Lib.hid (⟨h.least, h.most⟩ : 64 ≤ N ∧ N ≤ 1000)
  obtain ⟨v, gb, cb, gn, cn, dv, rd⟩ := h.ex
  have HP := Lib.hid (fun W (hW : Below w.heap.size w W) => (⟨(h.below hW).c0, (h.below hW).c1, (rd.below hW).c1⟩ : W.cell? ⟨g.at_, 0, none⟩ = some (.pointer (some ⟨d, 0, none⟩)) ∧ W.cell? ⟨g.at_, 1, none⟩ = some (.pointer (some ⟨r, 0, none⟩)) ∧ W.cell? ⟨r, 1, none⟩ = some (.slice (some ⟨gn, 0, none⟩) N cn)))
  have HCN := Lib.hid (fun W (hW : Below w.heap.size w W) (k : Nat) (hk : k < N) => (rd.below hW).cell hk)
  have HRD := Lib.hid (fun W (hW : Below w.heap.size w W) (i : Int) => read_dv B d q p pd pm 0 0 D V v i W (dv.below hW))
  have HRE : Hid (∀ k : Nat, 42 ≤ k → k < N → rdB V (k : Int) = now.getD k ⟨#[]⟩ ∧ rdE V (k : Int) = 0) := fun k h1 h2 => by
    have e : hasB V.length (k : Int) = true := hasB_t.2 (by omega)
    refine ⟨?_, by unfold rdE; rw [if_pos e]⟩
    unfold rdB
    rw [if_pos e, Int.toNat_natCast]
    exact (ha.hnow k (by omega) (Lg.ownB_f.2 (by omega))).symm
  have hdf : diffL V D = diffL now base := ha.diff hl hl2 (fun i hi => dv.own hi)
  have HDF := Lib.hid (diff_fit now base (by rw [hl2]; exact h.most))
  have HDL : Hid ((diffL now base).length ≤ 1000) := by
    have h1 := diffP_len now base N
    have e : diffP now base N = diffL now base := by unfold diffP diffL; rw [hl2]
    rw [e] at h1
    exact Nat.le_trans h1 h.most
  have HCH := Lib.hid (fun W (hW : Below w.heap.size w W) => changed_dv B d q p pd pm 0 0 D V v W (dv.below hW))
  rw [hdf] at HCH
  have HRC := Lib.hid (fun W (hW : Below w.heap.size w W) => rchanged_any R r gb cb gn cn N base now W (rd.below hW) h.most)
  clear hl hl2 h ha dv rd hdf
  generalize diffL now base = dl at *
  go_enter Tryz.func12, Tryz.ntmps12
  go_wp2_with fail
  go_loopw [3] (fun iv wr => ∃ k : Nat, 42 ≤ k ∧ k ≤ N ∧ iv = .int .i64 (k : Int) ∧ Below w.heap.size w wr) (fun iv _ => N - (intOf iv).toNat)
  case atStart => exact ⟨42, by omega, by have := HN.out; omega, rfl, Below.refl _ _⟩
  case round =>
    obtain ⟨k, hk1, hk2, rfl, hb⟩ := hrel
    obtain ⟨p0, p1, r1⟩ := HP.out wr hb
    have HB := Lib.hid hb
    have hN9 := HN.out
    by_cases hlt : k < N
    · have g1 : (k : Int) < (N : Int) := by omega
      have g0 : (0 : Int) ≤ (k : Int) := by omega
      have RD1 := Lib.hid (HRD.out wr hb (k : Int))
      obtain ⟨e1, e2⟩ := HRE.out k hk1 hlt
      rw [e1, e2] at RD1
      have n1 := HCN.out wr hb k hlt
      generalize hs : now.getD k ⟨#[]⟩ = s at *
      have hss : (s.toList != s.toList) = false := by simp
      have HSX := Lib.hid hs
      clear e1 e2 hs hb
      go_wp2_with (go_at_call 35; refine RD1.out.mono ?_; rintro e w2 ⟨rfl, b2⟩
                   have HB2 := Lib.hid (HB.out.trans (b2.mono HB.out.size))
                   obtain ⟨p0', p1', r1'⟩ := HP.out _ HB2.out
                   have n1' := HCN.out _ HB2.out k hlt
                   rw [HSX.out] at n1'
                   clear b2)
      go_roundw
      case rel => exact ⟨k + 1, by omega, by omega, by go_num, HB2.out⟩
      case measure => simp [intOf]; omega
    · have g1 : ¬ (k : Int) < (N : Int) := by omega
      go_wp2_with fail
      have HPP := Lib.hid (fun W hW => (⟨(HP.out W hW).1, (HP.out W hW).2.1⟩ : W.cell? ⟨g.at_, 0, none⟩ = some (.pointer (some ⟨d, 0, none⟩)) ∧ W.cell? ⟨g.at_, 1, none⟩ = some (.pointer (some ⟨r, 0, none⟩))))
      have HB0 : Hid (Below w.heap.size w wr.drew) := hb.drew
      clear hb
      go_region_held3 (fun v' => v'.cell? ⟨g.at_, 0, none⟩ = some (.pointer (some ⟨d, 0, none⟩)) ∧ v'.cell? ⟨g.at_, 1, none⟩ = some (.pointer (some ⟨r, 0, none⟩)))
        (first | exact HPP.out _ HB0.out | exact HPP.out _ HB7.out | exact HPP.out _ HB8.out | exact HPP.out _ HB9.out)
        (first
          | (go_at_call 36; go_must (go_fit (rsame_ints _ _ _ _ _ _ _ _ dl dl true _ (by simp) HJ8.out HI8.out (by have := HDL.out; omega) (by have := HDL.out; omega)))
             rintro e w9 ⟨rfl, h9⟩
             have HB9 : Hid (Below w.heap.size w w9) := Lg.Below.drews HB8.out h9
             clear h9)
          | (go_at_call 37; go_must (go_fit (HRC.out _ HB7.out)); rintro e w8 ⟨A8, c8, rfl, o8, b8⟩
             have HB8 := Lib.hid (HB7.out.trans (b8.mono HB7.out.size))
             have HI8 := Lib.hid (Lg.IntsAt.of_own o8 rfl HDF.out)
             have HJ8 := Lib.hid ((HI7.out.below b8 (Nat.le_refl _)).more b8.size)
             clear o8 b8)
          | (go_at_call 22; go_must (go_fit (HCH.out _ HB0.out)); rintro e w7 ⟨g7, rfl, hg7, r7, b7⟩
             have HB7 := Lib.hid (HB0.out.trans (b7.mono HB0.out.size))
             have HI7 := Lib.hid (Lg.IntRow.ints r7 HDF.out r7.lt)
             clear r7 b7))
      all_goals
        go_wp2
        go_ret
        exact ⟨rfl, HB9.out⟩
end

/-! ### lives -/
theorem fnd1 : IsFnd (marksK (64 : Nat)) 64 1 51 1 := by
  refine .inr ⟨by omega, by omega, ⟨by omega, by omega, fun t ht => ?_⟩, fun j hj hf => by have := hf.1; omega, fun j L h1 h2 => by omega⟩
  obtain rfl : t = 0 := by omega
  exact bit_new (n := 64) (t := 51) (by omega) (by omega) (by omega)
theorem bit1 (t : Nat) : bitN (takeN (marksK (64 : Nat)) 51 1) t = if 51 ≤ t ∧ t < 52 then true else bitN (marksK (64 : Nat)) t := take_bit _ _ _ 1 (by rw [marks_size]; omega)
theorem fnd3 : IsFnd (takeN (marksK (64 : Nat)) 51 1) 64 3 52 3 := by
  refine .inr ⟨by omega, by omega, ⟨by omega, by omega, fun t ht => ?_⟩, fun j hj hf => ?_, fun j L h1 h2 => by omega⟩
  · rw [bit1, if_neg (by omega)]
    exact bit_new (n := 64) (by omega) (by omega) (by omega)
  · obtain rfl : j = 51 := by have := hf.1; omega
    have := hf.2.2 0 (by omega)
    rw [bit1, if_pos (by omega)] at this
    cases this
theorem bit51 : bitN (takeN (takeN (marksK (64 : Nat)) 51 1) 52 3) 51 = true := by
  rw [take_bit _ _ _ 3 (by rw [take_size, marks_size]; omega), if_neg (by omega), bit1, if_pos (by omega)]
theorem lives13_any (w : World) : Calls Tryz.prog 7 #[] w fun e w' => e = .returned (.bool true) ∧ Below w.heap.size w w' := by
  have k0 : Crd (V0 64 ⟨#[]⟩) 64 (marksK (64 : Nat)) := crd_new (by omega) (by omega)
  obtain ⟨a1, a2, a3, k1⟩ := k0.some (by omega) (by omega) fnd1
  obtain ⟨b1, b2, b3, k2⟩ := k1.some (by omega) (by omega) fnd3
  obtain ⟨c1, k3⟩ := k2.drop (i := 51) (by omega) (by omega) bit51
  obtain ⟨f1, f2⟩ := k0.free
  rw [show fcn (marksK (64 : Nat)) 64 = 13 from fcn_new 64 (by omega) 13 (by omega)] at f1
  have HBG := Lib.hid (fun W => begin13_any 64 ⟨#[]⟩ W (by omega) (by omega) (by decide))
  have HA := Lib.hid (⟨a1, a2⟩ : rnE (V0 64 ⟨#[]⟩) 1 = 0 ∧ rnA (V0 64 ⟨#[]⟩) 1 = 51)
  have HB := Lib.hid (⟨b1, b2, b3⟩ : rnE (rnV (V0 64 ⟨#[]⟩) 1) 3 = 0 ∧ rnA (rnV (V0 64 ⟨#[]⟩) 1) 3 = 52 ∧ rnL (rnV (V0 64 ⟨#[]⟩) 1) 3 = 3)
  have HC : Hid (dpE (rnV (rnV (V0 64 ⟨#[]⟩) 1) 3) 51 = 0) := c1
  have HF := Lib.hid (⟨f1, f2⟩ : frN (V0 64 ⟨#[]⟩) = 13 ∧ crE (V0 64 ⟨#[]⟩) = 0)
  clear k0 k1 k2 k3 a1 a2 a3 b1 b2 b3 c1 f1 f2
  unfold RetBg at HBG
  generalize V0 64 ⟨#[]⟩ = V at *
  go_enter Tryz.func7, Tryz.ntmps7
  go_wp2_with (first
    | (go_at_call 8; refine (HBG.out _).mono ?_; rintro e w1 ⟨B, d, q, p, pd, pm, R, r, g, rfl, s1, -⟩
       have c0 : w1.cell? ⟨g, 0, none⟩ = some (.pointer (some ⟨d, 0, none⟩)) := s1.c0
       have h2 := free_st s1
       rw [HF.out.1, HF.out.2] at h2)
    | (go_at_call 17; refine h2.mono ?_; rintro e w2 ⟨rfl, b2⟩
       have s2 := s1.below b2
       have c0 : w2.cell? ⟨g, 0, none⟩ = some (.pointer (some ⟨d, 0, none⟩)) := s2.c0
       have h3 := take_st s2
       rw [HA.out.1, HA.out.2] at h3)
    | (go_at_call 14; refine h3.mono ?_; rintro e w3 ⟨rfl, s3⟩
       have c0 : w3.cell? ⟨g, 0, none⟩ = some (.pointer (some ⟨d, 0, none⟩)) := s3.c0
       have h4 := run_st 3 s3 (by unfold I64; omega)
       rw [HB.out.1, HB.out.2.1, HB.out.2.2] at h4)
    | (go_at_call 15; refine h4.mono ?_; rintro e w4 ⟨rfl, s4⟩
       have c0 : w4.cell? ⟨g, 0, none⟩ = some (.pointer (some ⟨d, 0, none⟩)) := s4.c0
       have h5 := drop_st 51 s4 (by unfold I64; omega)
       rw [HC.out] at h5)
    | (go_at_call 16; refine h5.mono ?_; rintro e w5 ⟨rfl, s5⟩))
  go_ret
  exact ⟨rfl, s5.hb⟩
end Go.Proofs.YtbkgfkemjhaopaaGreat.Dl
