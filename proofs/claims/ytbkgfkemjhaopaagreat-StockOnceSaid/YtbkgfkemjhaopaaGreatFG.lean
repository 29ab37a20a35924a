/-
  WALKS of the reference's stock: Run, Take, Drop, Free, Used. Condition: the reference's deal, whole blocks.
-/
import Derived.Test.YtbkgfkemjhaopaaGreatFE
set_option linter.unusedVariables false
set_option linter.unusedSimpArgs false
set_option maxRecDepth 100000
set_option maxHeartbeats 4000000
namespace Go.Proofs.YtbkgfkemjhaopaaGreat.Dl
open Go.RowKit
open Mk
open Sl (Turns SlabAt)
open Lg (Ch chCells chsCells FS LogAt Whole setL setL_len ownB bcell z128)
open Kr (crv rightK blockK okK kf kb kc KBox cells3 put3 put3_box put3_below marksK bit_marks marks_size I64 inB)

/-! ### what use leaves -/
def rTo (V : List ByteArray) (a k : Nat) : List ByteArray := (zTo V a k).set 42 (takeN (mkB V) a k)
theorem rTo_zero {V : List ByteArray} (a : Nat) (h : 42 < V.length) : rTo V a 0 = V := by
  unfold rTo zTo takeN mkB
  refine List.ext_getElem (by simp) fun i h1 h2 => ?_
  rw [List.getElem_set]
  split
  · rename_i e
    subst e
    simp [List.getD, h]
  · rfl
theorem rTo_mk {V : List ByteArray} (a k : Nat) (h : 42 < V.length) : mkB (rTo V a k) = takeN (mkB V) a k := by
  unfold rTo
  rw [show mkB ((zTo V a k).set 42 (takeN (mkB V) a k)) = ((zTo V a k).set 42 (takeN (mkB V) a k)).getD 42 ⟨#[]⟩ from rfl, getD_set2, zTo_len, if_pos ⟨rfl, h⟩]
theorem rTo_succ {V : List ByteArray} (a k : Nat) (h : 42 < V.length) (ha : 51 ≤ a) : ((rTo V a k).set 42 (setR (mkB (rTo V a k)) ((a + k : Nat) : Int) true)).set (a + k) z128 = rTo V a (k + 1) := by
  rw [rTo_mk a k h, setR_take]
  unfold rTo
  rw [List.set_set, zTo, List.set_comm _ _ (by omega : (42 : Nat) ≠ a + k)]
theorem rTo_len (V : List ByteArray) (a k : Nat) : (rTo V a k).length = V.length := by unfold rTo; rw [List.length_set, zTo_len]

theorem rrun3_is (m : ByteArray) (b L : Nat) (w : World) (hm : m.size = 128) (hb : b ≤ 1024) (hL : 1 ≤ L) (hL2 : (L : Int) ≤ 9223372036854775807) :
    Calls Tryz.prog 60 #[.string m, .int .i64 51, .int .i64 (b : Int), .int .i64 (L : Int)] w fun e w' => e = .returned (.tuple #[.int .i64 (runI (runR m 51 b L)), .bool (runB (runR m 51 b L))]) ∧ Lg.Drew w w' := by
  refine (rrun3_any m b L w hm hb hL hL2).mono ?_
  rintro e w' ⟨o, rfl, ho, rfl⟩
  rw [ho.uniq (runR_is m 51 b L hm hb hL)]
  exact ⟨rfl, Lg.Drew.refl _⟩

theorem ruse_step (R r gb cb gn cn N : Nat) (base now : List ByteArray) (a k : Nat) (w : World) (h : RD w R r gb cb gn cn N base (rTo now a k)) (hl : now.length = N) (hm : (mkB now).size = 128) (ha : 51 ≤ a) (hk : a + k < N) (hN : N ≤ 1000) :
    Calls Tryz.prog 61 #[.pointer (some ⟨r, 0, none⟩), .int .i64 ((a : Int) + (k : Int))] w fun e w' => e = .returned (.tuple #[]) ∧ RD w' R r gb cb gn cn N base (rTo now a (k + 1)) ∧ Turns [gn] w w' := by
  have h1 := ruse_any R r gb cb gn cn N base (rTo now a k) (a + k) w h (by rw [rTo_mk a k (by omega), take_size]; exact hm) (by omega) hk hN
  rw [rTo_succ a k (by omega) ha] at h1
  rw [show (a : Int) + (k : Int) = ((a + k : Nat) : Int) by omega]
  exact h1

theorem rrun_any (R r gb cb gn cn N : Nat) (base now : List ByteArray) (n : Int) (w : World) (h : RD w R r gb cb gn cn N base now) (hN : 64 ≤ N) (hN2 : N ≤ 1000) (hw : Whole now) (hn : I64 n) :
    Calls Tryz.prog 31 #[.pointer (some ⟨r, 0, none⟩), .int .i64 n] w fun e w' => e = .returned (.tuple #[.int .i64 (rnA now n), .int .i64 (rnL now n), .int .i64 (rnE now n)]) ∧ RD w' R r gb cb gn cn N base (rnV now n) ∧ Turns [gn] w w' := by
  have hz : (mkB now).size = 128 := hw.get (k := 42) (by rw [h.ln]; omega)
  have HCR := Lib.hid (rcrown_any R r gb cb gn cn N base now w h (by omega) (by rw [hw.get (k := 0) (by rw [h.ln]; omega)]; omega))
  unfold RetCr at HCR
  unfold rnV rnA rnL
  have HR := Lib.hid h
  have HN := Lib.hid (KBox.new3)
  cases ho : okCr now with
  | false =>
    have e1 : rnE now n = 15 := by unfold rnE; rw [ho]; rfl
    have e2 := (cr_no ho).2
    rw [e1]
    simp only [if_neg (by decide : ¬ (15 : Int) = 0)]
    rw [e2] at HCR
    clear h ho e1 e2 hz
    generalize crF now = f at *
    generalize crB now = b at *
    generalize crC now = u at *
    unfold crv at *
    go_enter Tryz.func31, Tryz.ntmps31
    go_wp2_with (go_at_call 59; refine HCR.out.mono ?_; rintro e w1 ⟨rfl, b1⟩)
    go_ret3
    exact ⟨rfl, HR.out.below (b1.alloc b1.size _), Turns.of_below _ (b1.alloc b1.size _)⟩
  | true =>
    rw [cr_ok ho] at HCR
    obtain ⟨k1, k2, k3, k4⟩ := cr_b ho
    by_cases h1 : n < 1
    · have e1 : rnE now n = 1 := by unfold rnE; rw [if_pos ho, if_pos h1]
      rw [e1]
      simp only [if_neg (by decide : ¬ (1 : Int) = 0)]
      clear h ho e1 hz k1 k2 k3 k4
      generalize crF now = f at *
      generalize crB now = b at *
      generalize crC now = u at *
      unfold crv at *
      go_enter Tryz.func31, Tryz.ntmps31
      go_wp2_with (go_at_call 59; refine HCR.out.mono ?_; rintro e w1 ⟨rfl, b1⟩)
      go_ret3
      exact ⟨rfl, HR.out.below (b1.alloc b1.size _), Turns.of_below _ (b1.alloc b1.size _)⟩
    · obtain ⟨L, rfl⟩ : ∃ L : Nat, n = (L : Int) := ⟨n.toNat, by omega⟩
      obtain ⟨bn, hbn⟩ : ∃ bn : Nat, crB now = (bn : Int) := ⟨(crB now).toNat, by omega⟩
      have hL : 1 ≤ L := by omega
      have hfi := fnd_is (mkB now) bn L hz (by omega) hL
      have HRR := Lib.hid (fun (K : Nat) (hK : 1 ≤ K) (hK2 : (K : Int) ≤ 9223372036854775807) W => rrun3_is (mkB now) bn K W hz (by omega) hK hK2)
      have HIR := Lib.hid (fun (K : Nat) (hK : 1 ≤ K) => (show IsRun (mkB now) 51 bn K (runR (mkB now) 51 bn K) from runR_is (mkB now) 51 bn K hz (by omega) hK))
      have c1 := h.c1
      have d0 : w.cell? ⟨gn, 42, none⟩ = some (.string (mkB now)) := h.cell (k := 42) (by omega)
      have hrl : r < w.heap.size := h.lt
      have hgl : gn < w.heap.size := h.gn_ge.2
      rw [hbn] at HCR
      have hfn : fnV now (L : Int) = fndP (mkB now) bn L := by unfold fnV; rw [hbn]
      have HE : Hid (rnE now (L : Int) = if (fndP (mkB now) bn L).2 = 0 then 10 else 0) := by show _ = _; unfold rnE; rw [if_pos ho, if_neg h1, hfn]
      have HL := Lib.hid (show 1 ≤ L ∧ (L : Int) ≤ 9223372036854775807 ∧ 64 ≤ bn ∧ bn ≤ 400 ∧ bn ≤ N by have := h.ln; have := hn.2; refine ⟨hL, by omega, by omega, by omega, by omega⟩)
      have HZZ := Lib.hid hz
      have HUQ : Hid (∀ a l, IsFnd (mkB now) bn L a l → l = (fndP (mkB now) bn L).2 ∧ (l ≠ 0 → a = (fndP (mkB now) bn L).1)) := fun a l hx => hx.uniq hfi
      rw [hfn]
      clear h ho hz k1 k2 k3 k4 hbn hfn hfi hn hL
      generalize fndP (mkB now) (bn : Int) (L : Int) = fp at *
      obtain ⟨fa, fl⟩ := fp
      simp only at HE HUQ
      have HPY : Hid (∀ W, RD W R r gb cb gn cn N base (rTo now fa fl) → Turns [gn] w W → fl ≠ 0 → Ending.returned (.tuple #[.int .i64 (fa : Int), .int .i64 (fl : Int), .int .i64 0]) = .returned (.tuple #[.int .i64 (if rnE now (L : Int) = 0 then (((fa, fl) : Nat × Nat).1 : Int) else 0), .int .i64 (if rnE now (L : Int) = 0 then (((fa, fl) : Nat × Nat).2 : Int) else 0), .int .i64 (rnE now (L : Int))]) ∧ RD W R r gb cb gn cn N base (if rnE now (L : Int) = 0 then (zTo now ((fa, fl) : Nat × Nat).1 ((fa, fl) : Nat × Nat).2).set 42 (takeN (mkB now) ((fa, fl) : Nat × Nat).1 ((fa, fl) : Nat × Nat).2) else now) ∧ Turns [gn] w W) := fun W h1 h2 h3 => by
        rw [HE.out, if_neg h3]
        exact ⟨rfl, h1, h2⟩
      have HPN : Hid (∀ W, RD W R r gb cb gn cn N base now → Turns [gn] w W → fl = 0 → Ending.returned (.tuple #[.int .i64 0, .int .i64 0, .int .i64 10]) = .returned (.tuple #[.int .i64 (if rnE now (L : Int) = 0 then (((fa, fl) : Nat × Nat).1 : Int) else 0), .int .i64 (if rnE now (L : Int) = 0 then (((fa, fl) : Nat × Nat).2 : Int) else 0), .int .i64 (rnE now (L : Int))]) ∧ RD W R r gb cb gn cn N base (if rnE now (L : Int) = 0 then (zTo now ((fa, fl) : Nat × Nat).1 ((fa, fl) : Nat × Nat).2).set 42 (takeN (mkB now) ((fa, fl) : Nat × Nat).1 ((fa, fl) : Nat × Nat).2) else now) ∧ Turns [gn] w W) := fun W h1 h2 h3 => by
        rw [HE.out, if_pos h3]
        exact ⟨rfl, h1, h2⟩
      have HLEN := Lib.hid HR.out.ln
      have HMZ : Hid ((mkB now).size = 128) := HZZ.out
      have HN2 := Lib.hid hN2
      have HUS := Lib.hid (fun a k W hrd ha hk => ruse_step R r gb cb gn cn N base now a k W hrd HLEN.out HMZ.out ha hk hN2)
      have HR0 : Hid (∀ a, rTo now a 0 = now) := fun a => rTo_zero a (by rw [HLEN.out]; omega)
      clear HE
      generalize rnE now (L : Int) = z at *
      generalize (if z = 0 then (((fa, fl) : Nat × Nat).1 : Int) else 0) = xa at *
      generalize (if z = 0 then (((fa, fl) : Nat × Nat).2 : Int) else 0) = xl at *
      generalize (if z = 0 then (zTo now ((fa, fl) : Nat × Nat).1 ((fa, fl) : Nat × Nat).2).set 42 (takeN (mkB now) ((fa, fl) : Nat × Nat).1 ((fa, fl) : Nat × Nat).2) else now) = xv at *
      generalize crF now = f at *
      generalize crC now = u at *
      generalize hmm : mkB now = m at *
      have hN42 : (42 : Int) < (N : Int) := by omega
      clear hmm hw hN hN2
      unfold crv at *
      have hdL : decide ((L : Int) < 1) = false := by simp; have := HL.out; omega
      go_enter Tryz.func31, Tryz.ntmps31
      go_wp2_with (go_at_call 59; refine HCR.out.mono ?_; rintro e w1 ⟨rfl, b1⟩
                   have HB1 := Lib.hid (b1.alloc b1.size (.cells #[.int .i64 f, .int .i64 (bn : Int), .int .i64 u] 62))
                   have HX1 := Lib.hid (HN.out w1 f bn u)
                   obtain ⟨y0, y1, y2⟩ := HX1.out.row
                   have c1' := bcell HB1.out c1 hrl
                   have d1' := bcell HB1.out d0 hgl
                   clear b1)
      generalize w1.heap.size = gx at *
      generalize w1.alloc (.cells #[.int .i64 f, .int .i64 (bn : Int), .int .i64 u] 62) = W1 at *
      have HQ := Lib.hid (HRR.out L HL.out.1 HL.out.2.1)
      have HI := Lib.hid (HIR.out L HL.out.1)
      cases hr : runR m 51 bn L with
      | some i =>
        rw [hr] at HQ HI
        simp only [runI, runB, Option.isSome] at HQ
        have hL0 := HL.out
        obtain ⟨q1, q2, q3, q4⟩ := HI.out
        have HAL : Hid (51 ≤ i ∧ i + L ≤ N ∧ 1 ≤ L) := ⟨q1, by omega, by omega⟩
        have hq := HUQ.out i L (.inr ⟨by omega, Nat.le_refl _, ⟨q1, q2, q3⟩, fun j hj hf => q4 j hf.1 hj hf.2.2, fun j K h1 h2 => by omega⟩)
        obtain ⟨rfl, hq2⟩ := hq
        obtain rfl := hq2 (by omega)
        have hl0 : ((L : Int) == 0) = false := by rw [beq_eq_false_iff_ne]; omega
        clear hr q1 q2 q3 q4 hL0 hq2 HI HIR HRR HUQ
        go_quiet ((go_at_call 60; with_reducible exact Lg.quiet_drew (HQ.out _)))
        have HB2 : Hid (Below w.heap.size w (W1.drewN nq)) := Lg.Below.drews HB1.out ⟨_, rfl⟩
        clear HB1 c1' d1' c1 d0 y0 y1 y2 HX1
        generalize W1.drewN nq = W2 at *
        have HR2 := Lib.hid (HR.out.below HB2.out)
        have HT2 : Hid (Turns [gn] w W2) := Turns.of_below _ HB2.out
        go_wp2
        go_loopw [15] (fun ix wr => ∃ k : Nat, k ≤ L ∧ ix = .int .i64 k ∧ RD wr R r gb cb gn cn N base (rTo now i k) ∧ Turns [gn] w wr) (fun ix _ => L - (intOf ix).toNat)
        case atStart => exact ⟨0, by omega, rfl, by rw [HR0.out]; exact HR2.out, HT2.out⟩
        case round =>
          obtain ⟨k, hk, rfl, hrd, htt⟩ := hrel
          by_cases hlt : k < L
          · have g1 : (k : Int) < (L : Int) := by omega
            have g2 : (i : Int) + (k : Int) ≤ 1000 := by have := HAL.out; have := HN2.out; omega
            have HU := Lib.hid (HUS.out i k wr hrd HAL.out.1 (by have := HAL.out; omega))
            have HTT := Lib.hid htt
            clear hrd htt
            go_wp2_with (go_at_call 61; refine HU.out.mono ?_; rintro e w3 ⟨rfl, r3, t3⟩)
            go_roundw
            case rel => exact ⟨k + 1, by omega, by go_num, r3, HTT.out.trans t3⟩
            case measure => simp [intOf]; omega
          · have hke : k = L := by omega
            have g1 : ¬ (k : Int) < (L : Int) := by omega
            rw [hke] at hrd
            have HRD := Lib.hid hrd
            have HTT := Lib.hid htt
            clear hrd htt hke
            go_wp2
            go_ret3
            exact HPY.out _ HRD.out HTT.out (by have := HAL.out; omega)
      | none =>
        rw [hr] at HQ HI
        simp only [runI, runB, Option.isSome] at HQ
        clear hr
        go_quiet ((go_at_call 60; with_reducible exact Lg.quiet_drew (HQ.out _)))
        have HB2 : Hid (Below w.heap.size w (W1.drewN nq)) := Lg.Below.drews HB1.out ⟨_, rfl⟩
        have HX2 : Hid (KBox (W1.drewN nq) gx f bn u) := HX1.out
        clear HB1 c1' d1' y0 y1 y2 HX1
        generalize W1.drewN nq = W2 at *
        go_wp2
        go_loopw [9, 11, 12] (fun at_ best kv wr => ∃ t aa : Nat, t ≤ bn ∧ kv = .int .i64 ((t : Int) + 1) ∧ best = .int .i64 (t : Int) ∧ at_ = .int .i64 (aa : Int) ∧ Hid (t ≠ 0 → IsRun m 51 bn t (some aa)) ∧ Lg.Drew W2 wr) (fun _ _ kv _ => bn + 1 - (intOf kv).toNat)
        case atStart => exact ⟨0, 0, by omega, rfl, rfl, rfl, fun e => absurd rfl e, Lg.Drew.refl _⟩
        case round =>
          obtain ⟨t, aa, ht, rfl, rfl, rfl, HT, hd⟩ := hrel
          have hbn := HL.out
          by_cases hlt : t + 1 ≤ bn
          · have g1 : (t : Int) + 1 ≤ (bn : Int) := by omega
            have g2 : (bn : Int) ≤ 400 := by omega
            have HB3 : Hid (Below w.heap.size w wr) := Lg.Below.drews HB2.out hd
            have HX3 : Hid (KBox wr gx f bn u) := by obtain ⟨nn, rfl⟩ := hd; exact HX2.out
            have HDR := Lib.hid hd
            obtain ⟨y0, y1, y2⟩ := HX3.out.row
            have c1' := bcell HB3.out c1 hrl
            have d1' := bcell HB3.out d0 hgl
            clear hd
            have hq := HRR.out (t + 1) (by omega) (by omega)
            have hi := HIR.out (t + 1) (by omega)
            rw [show ((t + 1 : Nat) : Int) = (t : Int) + 1 by omega] at hq hi
            cases hr : runR m 51 bn ((t : Int) + 1) with
            | some i2 =>
              rw [hr] at hq hi
              have HQ2 := Lib.hid hq
              have HI2 := Lib.hid hi
              simp only [runI, runB, Option.isSome] at HQ2
              clear hr hq hi hbn HB3 HX3
              go_wp2_with fail
              go_quiet ((go_at_call 60; with_reducible exact Lg.quiet_drew (HQ2.out _)))
              go_wp2
              go_roundw
              case rel => exact ⟨t + 1, i2, by omega, by go_num, by go_num, rfl, fun _ => HI2.out, HDR.out.trans ⟨_, rfl⟩⟩
              case measure => simp [intOf]; omega
            | none =>
              rw [hr] at hq hi
              have HQ2 := Lib.hid hq
              simp only [runI, runB, Option.isSome] at HQ2
              have hno : ∀ j, ¬ Fr m bn j (t + 1) := fun j hf => hi j hf.1 hf.2.1 hf.2.2
              have hfd : IsFnd m bn L aa t := by
                rcases Nat.eq_zero_or_pos t with e | e
                · subst e; exact .inl ⟨rfl, hno⟩
                · obtain ⟨q1, q2, q3, q4⟩ := HT.out (by omega)
                  have hfr : Fr m bn aa t := ⟨q1, q2, q3⟩
                  refine .inr ⟨e, ?_, hfr, fun j hj hf => q4 j hf.1 hj hf.2.2, fun j K h1 h2 hf => hno j (hf.less h1)⟩
                  rcases Nat.lt_or_ge L t with h | h
                  · have h2 := hfr.less (Nat.le_of_lt h)
                    exact absurd h2.2.2 (HI.out aa h2.1 h2.2.1)
                  · exact h
              have hAL : t ≠ 0 → 51 ≤ aa ∧ aa + t ≤ N ∧ 1 ≤ t := fun e => by
                obtain ⟨q1, q2, q3, q4⟩ := HT.out e
                omega
              obtain ⟨hq1, hq2⟩ := HUQ.out aa t hfd
              subst hq1
              have HAL0 := Lib.hid hAL
              have HQA := Lib.hid hq2
              have HT3 : Hid (∀ k, Turns [gn] w (wr.drewN k)) := fun k => Turns.of_below _ (Lg.Below.drews HB3.out ⟨_, rfl⟩)
              have HR3 : Hid (∀ k, RD (wr.drewN k) R r gb cb gn cn N base now) := fun k => HR.out.below (Lg.Below.drews HB3.out ⟨_, rfl⟩)
              clear hr hq hi hbn hno hfd hAL hq2 HT HB3 HX3 HDR
              by_cases ht0 : t = 0
              · have hl0 : ((t : Int) == 0) = true := by rw [beq_iff_eq]; omega
                have HT0 := Lib.hid ht0
                clear ht0
                go_wp2_with fail
                go_quiet ((go_at_call 60; with_reducible exact Lg.quiet_drew (HQ2.out _)))
                go_wp2
                go_ret3
                exact HPN.out _ (HR3.out _) (HT3.out _) HT0.out
              · have hl0 : ((t : Int) == 0) = false := by rw [beq_eq_false_iff_ne]; omega
                have HAL := Lib.hid (HAL0.out ht0)
                have hqa := HQA.out ht0
                subst hqa
                go_wp2_with fail
                go_quiet ((go_at_call 60; with_reducible exact Lg.quiet_drew (HQ2.out _)))
                have HR2 := Lib.hid (HR3.out nq)
                have HT2 := Lib.hid (HT3.out nq)
                clear c1' d1' y0 y1 y2
                generalize wr.drewN nq = W4 at *
                go_wp2
                go_loopw [15] (fun ix wr => ∃ k : Nat, k ≤ t ∧ ix = .int .i64 k ∧ RD wr R r gb cb gn cn N base (rTo now aa k) ∧ Turns [gn] w wr) (fun ix _ => t - (intOf ix).toNat)
                case atStart => exact ⟨0, by omega, rfl, by rw [HR0.out]; exact HR2.out, HT2.out⟩
                case round =>
                  obtain ⟨k, hk, rfl, hrd, htt⟩ := hrel
                  by_cases hlt : k < t
                  · have g1 : (k : Int) < (t : Int) := by omega
                    have g2 : (aa : Int) + (k : Int) ≤ 1000 := by have := HAL.out; have := HN2.out; omega
                    have HU := Lib.hid (HUS.out aa k wr hrd HAL.out.1 (by have := HAL.out; omega))
                    have HTT := Lib.hid htt
                    clear hrd htt
                    go_wp2_with (go_at_call 61; refine HU.out.mono ?_; rintro e w3 ⟨rfl, r3, t3⟩)
                    go_roundw
                    case rel => exact ⟨k + 1, by omega, by go_num, r3, HTT.out.trans t3⟩
                    case measure => simp [intOf]; omega
                  · have hke : k = t := by omega
                    have g1 : ¬ (k : Int) < (t : Int) := by omega
                    rw [hke] at hrd
                    have HRD := Lib.hid hrd
                    have HTT := Lib.hid htt
                    clear hrd htt hke
                    go_wp2
                    go_ret3
                    exact HPY.out _ HRD.out HTT.out (by have := HAL.out; omega)
          · exfalso
            obtain ⟨q1, q2, _⟩ := HT.out (by omega)
            omega
end Go.Proofs.YtbkgfkemjhaopaaGreat.Dl
