/-
  WALK: the reference Write returns the bytes and the error of writeR, and writes nothing that was there. Conditions: each slice has at most 20000000000000 elements.
-/
import Derived.Test.YtbjmbnodckhikaaWrite
namespace Go.Proofs.Ytbjmbnodckhikaa
open Go.RowKit

theorem quiet_same {P : Program} {f : FuncId} {args : Array Value} {w : World} {n : Nat} {v : Value} (h : Calls P f args (w.drewN n) fun e w' => e = .returned v ∧ w.drewN n = w') :
    Calls P f args (w.drewN n) fun e w'' => e = .returned v ∧ ∃ m, w'' = w.drewN m := h.mono fun _ _ ⟨he, hm⟩ => ⟨he, n, hm.symm⟩

theorem bel_drewN {B : Nat} {a w : World} (h : Below B a w) (n : Nat) : Below B a (w.drewN n) := ⟨h.os, h.tape, h.output, h.size, h.block⟩
theorem IntsAt.drewN {w : World} {B : Nat} {A : Option Addr} {n : Nat} {zs : List Int} (h : IntsAt w B A n zs) (k : Nat) : IntsAt (w.drewN k) B A n zs := h

set_option maxHeartbeats 1000000 in
theorem rwrite_any (A A' : Option Addr) (n c m c' B : Nat) (ws vs : List Int) (w : World) (hr : IntsAt w B A n ws) (hr' : IntsAt w B A' m vs) (hB : B ≤ w.heap.size) (hn : n ≤ 20000000000000) (hm : m ≤ 20000000000000) :
    Calls Try.prog 26 #[.slice A n c, .slice A' m c'] w fun e w' => e = .returned (.tuple #[.string (strOfNums (writeR ws vs).1), .int .i64 (writeR ws vs).2]) ∧ Below w.heap.size w w' := by
  by_cases hok : okTo ws ws.length = true
  · by_cases hl : n = m
    · subst hl
      obtain ⟨i0, hi, hz0, hz1, hz2⟩ := info_parts Try.info5
      have hsz := sizeS_good ws hok
      have hsb := sumTo_bd ws ws.length hok
      rw [← hsz, hr.len] at hsb
      have hsn : decide (sizeS ws < 0) = false := by simp; omega
      have hne : ((n : Int) != (n : Int)) = false := by simp
      have HOK := Lib.hid hok
      have HL := Lib.hid hr.len
      have HL' := Lib.hid hr'.len
      clear hok hsz
      go_enter Try.func26, Try.ntmps26
      go_wp2_with (go_at_call 39; refine (rsize_any A n c B ws w hr (by omega)).mono ?_; rintro e w' ⟨rfl, rfl⟩)
      clear hsn hne hsb
      go_loopw [6, 7] (fun r i wr => ∃ k : Nat, k ≤ n ∧ i = .int .i64 k ∧ fitTo ws vs k = true ∧ wr.ownsRow w.heap.size 5 1 r (encTo ws vs k).length ((encTo ws vs k).map (.int .u8)) ∧ Below w.heap.size w wr) (fun _ i _ => n - (intOf i).toNat)
      case atStart => exact ⟨0, Nat.zero_le _, rfl, rfl, World.ownsRow_nil _ _ _ _, Below.refl _ _⟩
      case round =>
        obtain ⟨k, hk, rfl, hfit, hown, hbel⟩ := hrel
        by_cases hlt : k < n
        · have hrk := hr.below hbel hB
          have hrk' := hr'.below hbel hB
          obtain ⟨b, o, rfl, hb, hc⟩ := hrk.at_ hlt
          obtain ⟨b', o', rfl, hb', hc'⟩ := hrk'.at_ hlt
          have hwk := okTo_at ws (k := k) (n := ws.length) (by rw [HL.out]; exact hlt) HOK.out
          have hvb := hr'.bd k
          have hel := encTo_len ws vs k (okTo_mono ws k ws.length (by rw [HL.out]; exact hk) HOK.out)
          have hel2 := (sumTo_bd ws k (okTo_mono ws k ws.length (by rw [HL.out]; exact hk) HOK.out)).2
          have hlen : (encTo ws vs k).length ≤ 80000000000000 := by omega
          clear hel hel2 hrk hrk'
          cases hf : fitB (vs.getD k 0) (ws.getD k 0) with
          | false =>
            have HW := Lib.hid (writeR_range HOK.out (HL.out.trans HL'.out.symm) (by rw [HL.out]; exact hlt) hf)
            have hff : ¬ (0 ≤ vs.getD k 0 ∧ vs.getD k 0 ≤ mostOf (ws.getD k 0)) := by simpa only [fitB, decide_eq_false_iff_not] using hf
            clear hf hfit hwk
            generalize ws.getD k 0 = z at *
            generalize vs.getD k 0 = q at *
            by_cases h0 : q < 0
            · have h1 : decide (q < 0) = true := by simpa using h0
              clear hff
              go_wp2
              go_quiet (fail)
              go_wp2
              go_ret2
              exact ⟨by rw [HW.out]; rfl, bel_drewN hbel _⟩
            · have h1 : decide (q < 0) = false := by simpa using h0
              have h2 : decide (mostOf z < q) = true := by simp only [decide_eq_true_eq]; omega
              clear hff
              go_wp2
              go_quiet ((go_at_call 40; exact quiet_same (most_any _ _)))
              go_wp2
              go_ret2
              exact ⟨by rw [HW.out]; rfl, bel_drewN hbel _⟩
          | true =>
            have HF : Hid (fitTo ws vs (k + 1) = true) := by show fitTo ws vs (k + 1) = true; simp only [fitTo, hfit, hf]; rfl
            have HE : Hid (encTo ws vs (k + 1) = encTo ws vs k ++ encF (vs.getD k 0) (ws.getD k 0).toNat) := by show _ = _; rfl
            have hff : 0 ≤ vs.getD k 0 ∧ vs.getD k 0 ≤ mostOf (ws.getD k 0) := by simpa only [fitB, decide_eq_true_eq] using hf
            have hz := wOk_d hwk
            have hzr : 0 ≤ ws.getD k 0 ∧ ws.getD k 0 ≤ 4 := by omega
            clear hf hfit hwk hz
            generalize ws.getD k 0 = z at *
            generalize vs.getD k 0 = q at *
            have h1 : decide (q < 0) = false := by simp; omega
            have h2 : decide (mostOf z < q) = false := by simp only [decide_eq_false_iff_not]; omega
            have hq0 := hff.1
            obtain ⟨zn, rfl⟩ := Int.eq_ofNat_of_zero_le hzr.1
            rw [Int.toNat_natCast] at HE
            clear hff
            go_wp2
            go_quiet ((go_at_call 40; exact quiet_same (most_any _ _)))
            go_wp2
            clear h1 h2
            have hbq := bel_drewN hbel nq
            have howq : (wr.drewN nq).ownsRow w.heap.size 5 1 u6 (encTo ws vs k).length ((encTo ws vs k).map (.int .u8)) := hown
            have hcw : w.cell? ⟨b, o + k, none⟩ = some (.int .i64 zn) := (hbel.cell (p := ⟨b, o + k, none⟩) (by show b < _; omega)).symm.trans hc
            have HCW := Lib.hid hcw
            clear hcw hc hc'
            go_loopw [6, 8, 9] (fun r vv i wx => ∃ j : Nat, j ≤ zn ∧ i = .int .i64 j ∧ vv = .int .i64 (q / 256 ^ j) ∧ wx.ownsRow w.heap.size 5 1 r ((encTo ws vs k).length + j) ((encTo ws vs k ++ encF q j).map (.int .u8)) ∧ Below w.heap.size w wx) (fun _ _ i _ => zn - (intOf i).toNat)
            case atStart => exact ⟨0, Nat.zero_le _, rfl, by simp, by simpa [encF] using howq, hbq⟩
            case round =>
              obtain ⟨j, hj, rfl, rfl, hownj, hbelj⟩ := hrel
              have HQ := Lib.hid (quot_step q j)
              have HEJ : Hid (encF q (j + 1) = encF q j ++ [(q / 256 ^ j) % 256]) := by show _ = _; rfl
              have hqb := quot_bd q j hq0 hvb.2
              have hcx : wr.cell? ⟨b, o + k, none⟩ = some (.int .i64 zn) := (hbelj.cell (p := ⟨b, o + k, none⟩) (by show b < _; omega)).trans HCW.out
              have hzx : w.heap.size ≤ wr.heap.size := hbelj.size
              generalize q / 256 ^ j = p at *
              by_cases hjz : j < zn
              · go_wp2_with (first | (at_builtin; refine wpList_append_own _ rfl _ _ 53 rfl w.heap.size 5 i0 (.int .u8 0) 1 1 Try.underlying53 hi hz0 hz1 hz2 rfl (by decide) _ _ _ rfl (hownj.alloc _) ⟨wr.heap.size, 0, none⟩ 1 1 [.int .u8 (p % 256)] rfl rfl (cell_one_new _ _ _) ?c2 ?c3 ?c4 ?c5 ?_))
                case c2 => intro u hu; simp at hu; subst hu; rfl
                case c3 => unfold maxLen; omega
                case c4 => omega
                case c5 => simp; omega
                intro v' w1 hown2 hgrow _
                have hb2 : Below w.heap.size w w1 := (hbelj.alloc (by omega) _).grown hgrow (by simp; omega) (fun g hg => (hownj.lt g hg).1)
                clear hgrow hownj hbelj hcx
                go_wp2
                go_roundw
                case rel => exact ⟨j + 1, by omega, by go_num, by rw [HQ.out], by rw [HEJ.out]; simpa [Nat.add_assoc] using hown2, hb2⟩
                case measure => simp [intOf]; omega
              · have hjn : j = zn := by omega
                subst hjn
                go_wp2
                go_roundw
                case rel => exact ⟨k + 1, by omega, by go_num, HF.out, by rw [HE.out]; simpa [encF_len] using hownj, hbelj⟩
                case measure => simp [intOf]; omega
        · have hkn : k = n := by omega
          subst hkn
          have HW := Lib.hid (writeR_ok HOK.out (HL.out.trans HL'.out.symm) (by rw [HL.out]; exact hfit))
          have hcv := conv_own hown
          clear hfit
          go_wp2
          go_ret2
          exact ⟨by simp only [HW.out, HL.out]; rfl, hbel⟩
    · have hsb := sizeS_good ws hok
      have hsb' := sumTo_bd ws ws.length hok
      rw [← hsb] at hsb'
      have hsn : decide (sizeS ws < 0) = false := by simp; omega
      have hne : ((n : Int) != (m : Int)) = true := bne_iff_ne.2 (by omega)
      have HW := Lib.hid (writeR_arg (ws := ws) (vs := vs) (by rw [hr.len, hr'.len]; exact fun h => hl h.2))
      clear hsb hsb' hok
      go_enter Try.func26, Try.ntmps26
      go_wp2_with (go_at_call 39; refine (rsize_any A n c B ws w hr (by omega)).mono ?_; rintro e w' ⟨rfl, rfl⟩)
      go_ret2
      exact ⟨by rw [HW.out]; rfl, Below.refl _ _⟩
  · have hsn : decide (sizeS ws < 0) = true := by simp only [decide_eq_true_eq]; exact (sizeS_neg ws).2 hok
    have HW := Lib.hid (writeR_arg (ws := ws) (vs := vs) (fun h => hok h.1))
    clear hok
    go_enter Try.func26, Try.ntmps26
    go_wp2_with (go_at_call 39; refine (rsize_any A n c B ws w hr (by omega)).mono ?_; rintro e w' ⟨rfl, rfl⟩)
    go_ret2
    exact ⟨by rw [HW.out]; rfl, Below.refl _ _⟩
end Go.Proofs.Ytbjmbnodckhikaa
