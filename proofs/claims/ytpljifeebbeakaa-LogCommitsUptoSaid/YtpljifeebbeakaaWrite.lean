/-
  WALK: mould.Write returns the bytes and the error of writeR, and writes nothing that was there. Conditions: each slice has at most 20000000000000 elements.
-/
import Derived.Test.YtpljifeebbeakaaField
import Derived.Laws.BytesArg
namespace Go.Proofs.Ytpljifeebbeakaa
open Go.RowKit

theorem conv_own {w : World} {base n : Nat} {v : Value} {xs : List Int} (h : w.ownsRow base 5 1 v n (xs.map (.int .u8))) :
    (convert 36 9 v).run Try.prog w = .ok (.string (strOfNums xs)) w := by
  have hl : xs.length = n := by have := h.1; simpa using this
  rcases h.2 with ⟨rfl, h0⟩ | ⟨g, cap, cur, rfl, _, _, _⟩
  · have : xs = [] := List.eq_nil_of_length_eq_zero (by omega)
    subst this
    rw [run_convert_bytes_nil w 36 5 Try.underlying36 Try.underlying5 0 0 9 Try.underlying9]
    rfl
  · refine run_convert_bytes_arg w 36 5 Try.underlying36 Try.underlying5 g 0 n cap xs hl (fun i hi => ?_) 9 Try.underlying9
    have hc := h.cells (g := g) rfl i (.int .u8 (xs.getD i 0)) (by simp [List.getD, List.getElem?_eq_getElem (show i < xs.length by omega)])
    rw [Go.WideShapes.add_plain] at hc
    exact hc

set_option maxHeartbeats 1000000 in
theorem write_any (A A' : Option Addr) (n c m c' B : Nat) (ws vs : List Int) (w : World) (hr : IntsAt w B A n ws) (hr' : IntsAt w B A' m vs) (hB : B ≤ w.heap.size) (hn : n ≤ 20000000000000) (hm : m ≤ 20000000000000) :
    Calls Try.prog 65 #[.slice A n c, .slice A' m c'] w fun e w' => e = .returned (.tuple #[.string (strOfNums (writeR ws vs).1), .int .i64 (writeR ws vs).2]) ∧ Below w.heap.size w w' := by
  by_cases hok : okTo ws ws.length = true
  · by_cases hl : n = m
    · subst hl
      obtain ⟨i0, hi, hz0, hz1, hz2⟩ := info_parts Try.info5
      have hsz := sizeS_good ws hok
      have hsb := sumTo_bd ws ws.length hok
      rw [← hsz, hr.len] at hsb
      have hsn : decide (sizeS ws < 0) = false := by simp; omega
      have hne : ((n : Int) != (n : Int)) = false := by simp
      have HOK := Lib.hid hok
      have HS := Lib.hid hsz
      have HL := Lib.hid hr.len
      have HL' := Lib.hid hr'.len
      clear hok hsz
      go_enter Try.func65, Try.ntmps65
      go_wp2_with fail
      refine (size_any A n c B ws w hr (by omega)).mono ?_
      rintro e w' ⟨rfl, rfl⟩
      generalize hszv : sizeS ws = sz at *
      have HSZ := Lib.hid hszv
      clear hszv
      obtain ⟨szn, rfl⟩ := Int.eq_ofNat_of_zero_le hsb.1
      go_wp2_with (first | (at_make; refine wpList_make_own _ rfl _ _ 36 rfl w.heap.size 5 i0 (.int .u8 0) 1 Try.underlying36 hi hz0 hz1 _ _ _ szn rfl rfl rfl (by rw [hz2]; omega) (by unfold maxLen; omega) (Nat.le_refl _) ?_; intro w1 hown1 hgrow1))
      have hb1 : Below w.heap.size w w1 := (Below.refl _ _).grown hgrow1 (Nat.le_refl _) (by intro k hk; cases hk)
      clear hgrow1
      go_loopw [7, 25] (fun r i wr => ∃ k : Nat, k ≤ n ∧ i = .int .i64 k ∧ fitTo ws vs k = true ∧ wr.ownsRow w.heap.size 5 1 r (encTo ws vs k).length ((encTo ws vs k).map (.int .u8)) ∧ Below w.heap.size w wr) (fun _ i _ => n - (intOf i).toNat)
      case atStart => exact ⟨0, Nat.zero_le _, rfl, rfl, by simpa [encTo] using hown1, hb1⟩
      case round =>
        obtain ⟨k, hk, rfl, hfit, hown, hbel⟩ := hrel
        clear hown1 hb1
        by_cases hlt : k < n
        · have hrk := hr.below hbel hB
          have hrk' := hr'.below hbel hB
          obtain ⟨b, o, rfl, hb, hc⟩ := hrk.at_ hlt
          obtain ⟨b', o', rfl, hb', hc'⟩ := hrk'.at_ hlt
          have hwk := okTo_at ws (k := k) (n := ws.length) (by rw [HL.out]; exact hlt) HOK.out
          have hvb := hr'.bd k
          have hel := encTo_len ws vs k (okTo_mono ws k ws.length (by rw [HL.out]; exact hk) HOK.out)
          have hel2 := (sumTo_bd ws k (okTo_mono ws k ws.length (by rw [HL.out]; exact hk) HOK.out)).2
          have hlen : (encTo ws vs k).length ≤ 80000000000000 := by omega
          clear hel hel2 hrk hrk'
          cases hf : fitB (vs.getD k 0) (ws.getD k 0) with
          | false =>
            have HW := Lib.hid (writeR_range HOK.out (HL.out.trans HL'.out.symm) (by rw [HL.out]; exact hlt) hf)
            have Hf := Lib.hid hf
            have Hwk := Lib.hid hwk
            clear hf hfit hwk
            generalize ws.getD k 0 = z at *
            generalize vs.getD k 0 = q at *
            go_wp2_with (go_at_call 82; refine (fits_any _ _ _ Hwk.out hvb).mono ?_; rintro e w' ⟨rfl, rfl⟩; rw [Hf.out])
            go_ret2
            exact ⟨by rw [HW.out]; rfl, hbel⟩
          | true =>
            have HF : Hid (fitTo ws vs (k + 1) = true) := by show fitTo ws vs (k + 1) = true; simp only [fitTo, hfit, hf]; rfl
            have HE : Hid (encTo ws vs (k + 1) = encTo ws vs k ++ encF (vs.getD k 0) (ws.getD k 0).toNat) := by show _ = _; rfl
            have hq0 : 0 ≤ vs.getD k 0 := by have := hf; simp only [fitB, decide_eq_true_eq] at this; exact this.1
            have hz := wOk_d hwk
            have hz1 : 0 ≤ ws.getD k 0 ∧ ws.getD k 0 ≤ 4 := by omega
            have Hf := Lib.hid hf
            have Hwk := Lib.hid hwk
            clear hf hfit hwk hz
            generalize ws.getD k 0 = z at *
            generalize vs.getD k 0 = q at *
            obtain ⟨zn, rfl⟩ := Int.eq_ofNat_of_zero_le hz1.1
            go_wp2_with (first
              | (go_at_call 82; refine (fits_any _ _ _ Hwk.out hvb).mono ?_; rintro e w' ⟨rfl, rfl⟩; rw [Hf.out])
              | (go_at_call 83; refine (appendField_any _ _ zn _ w.heap.size _ _ (by omega) ⟨hq0, hvb.2⟩ (by omega) hbel.size hown).mono ?_; rintro e w2 ⟨r2, rfl, hown2, hb2⟩))
            have hb3 := hbel.trans hb2
            go_roundw
            case rel => exact ⟨k + 1, by omega, by go_num, HF.out, by rw [HE.out]; simpa [encF_len] using hown2, hb3⟩
            case measure => simp [intOf]; omega
        · have hkn : k = n := by omega
          subst hkn
          have HW := Lib.hid (writeR_ok HOK.out (HL.out.trans HL'.out.symm) (by rw [HL.out]; exact hfit))
          have hcv := conv_own hown
          clear hfit
          go_wp2
          go_ret2
          exact ⟨by simp only [HW.out, HL.out]; rfl, hbel⟩
    · have hsb := sizeS_good ws hok
      have hsb' := sumTo_bd ws ws.length hok
      rw [← hsb] at hsb'
      have hsn : decide (sizeS ws < 0) = false := by simp; omega
      have hne : ((m : Int) != (n : Int)) = true := bne_iff_ne.2 (by omega)
      have HW := Lib.hid (writeR_arg (ws := ws) (vs := vs) (by rw [hr.len, hr'.len]; exact fun h => hl h.2))
      clear hsb hsb' hok
      go_enter Try.func65, Try.ntmps65
      go_wp2_with (go_at_call 78; refine (size_any A n c B ws w hr (by omega)).mono ?_; rintro e w' ⟨rfl, rfl⟩)
      go_ret2
      exact ⟨by rw [HW.out]; rfl, Below.refl _ _⟩
  · have hsn : decide (sizeS ws < 0) = true := by simp only [decide_eq_true_eq]; exact (sizeS_neg ws).2 hok
    have HW := Lib.hid (writeR_arg (ws := ws) (vs := vs) (fun h => hok h.1))
    clear hok
    go_enter Try.func65, Try.ntmps65
    go_wp2_with (go_at_call 78; refine (size_any A n c B ws w hr (by omega)).mono ?_; rintro e w' ⟨rfl, rfl⟩)
    go_ret2
    exact ⟨by rw [HW.out]; rfl, Below.refl _ _⟩
end Go.Proofs.Ytpljifeebbeakaa
