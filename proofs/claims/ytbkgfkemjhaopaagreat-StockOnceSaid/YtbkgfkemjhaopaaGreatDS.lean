/-
  WALKS of the reference's deal: SetCrown, Crown, Changed, Undo, Commit. Condition: 64 to 1000 blocks of 128 bytes.
-/
import Derived.Test.YtbkgfkemjhaopaaGreatDR
import Derived.Test.YtbkgfkemjhaopaaGreatDI
set_option linter.unusedVariables false
set_option linter.unusedSimpArgs false
set_option maxRecDepth 100000
set_option maxHeartbeats 4000000
namespace Go.Proofs.YtbkgfkemjhaopaaGreat.Dl
open Go.RowKit
open Sl (Turns SlabAt)
open Lg (Ch chCells chsCells FS LogAt Whole setL setL_len ownB bcell SsAt strs strs_len strs_get ownS_set copyS_law ints pushI_law)
open Kr (crv rightK blockK okK kf kb kc writeK KBox cells3 put3 put3_box put3_below row_set)

theorem rsetcrown_any (R r gb cb gn cn N : Nat) (base now : List ByteArray) (f b u : Int) (w : World) (h : RD w R r gb cb gn cn N base now) (hN : 0 < N) :
    Calls Tryz.prog 28 #[.pointer (some ⟨r, 0, none⟩), crv f b u] w fun e w' => e = .returned (.int .i64 (scE now f b u)) ∧ RD w' R r gb cb gn cn N base (scV now f b u) ∧ Turns [gn] w w' := by
  have HX0 : Hid (KBox (w.alloc (.cells (cells3 f b u) 62)) w.heap.size f b u) := KBox.new _ _ _ _
  have HB0 : Hid (Below w.heap.size w (w.alloc (.cells (cells3 f b u) 62))) := (Below.refl _ _).alloc (Nat.le_refl _) _
  have HW := Lib.hid (fun W => Kr.rwrite10_any f b u W)
  have HD := Lib.hid h
  have hrl := h.lt
  have hgl := h.gn_ge.2
  have c1 := h.c1
  have d0 := h.cell hN
  unfold cells3 at HX0 HB0
  unfold scE scV scOk
  rw [h.ln]
  cases hr : rightK f b u with
  | false =>
    rw [Kr.writeK_no hr] at HW
    rw [Bool.false_and, if_neg (by decide), if_neg (by decide)]
    clear h hr
    go_enter Tryz.func28, Tryz.ntmps28
    obtain ⟨x0, x1, x2⟩ := HX0.out.row
    unfold crv at *
    go_wp2_with (go_at_call 57; refine (HW.out _).mono ?_; rintro e w1 ⟨rfl, b1⟩)
    go_quiet (fail)
    go_wp2
    go_ret
    have hb : Below w.heap.size w (w1.drewN nq) := Lg.Below.drews (HB0.out.trans (b1.mono HB0.out.size)) ⟨_, rfl⟩
    exact ⟨rfl, HD.out.below hb, Turns.of_below _ hb⟩
  | true =>
    rw [Kr.writeK_ok hr] at HW
    rw [Bool.true_and]
    by_cases hb : b ≤ (N : Int)
    · have g1 : decide ((N : Int) < b) = false := by simp; omega
      rw [decide_eq_true hb, if_pos rfl, if_pos rfl]
      have hN2 : (0 : Int) < (N : Int) := by omega
      have HPT := Lib.hid (fun (W : World) (hW : Below w.heap.size w W) => (h.below hW).put 0 (blockK f b u))
      have HFZ := Lib.hid (fun (W : World) (hW : Below w.heap.size w W) => (h.below hW).fzn 0)
      clear h hr hb
      generalize now.set 0 (blockK f b u) = V' at *
      generalize blockK f b u = s at *
      generalize now.getD 0 ⟨#[]⟩ = s0 at *
      go_enter Tryz.func28, Tryz.ntmps28
      obtain ⟨x0, x1, x2⟩ := HX0.out.row
      unfold crv at *
      go_wp2_with (go_at_call 57; refine (HW.out _).mono ?_; rintro e w1 ⟨rfl, b1⟩)
      have HB1 := Lib.hid (HB0.out.trans (b1.mono HB0.out.size))
      obtain ⟨y0, y1, y2⟩ := (HX0.out.below b1 HX0.out.lt).row
      have c2 := bcell HB1.out c1 hrl
      clear x0 x1 x2 b1
      go_quiet (fail)
      have HB2 : Hid (Below w.heap.size w (w1.drewN nq)) := Lg.Below.drews HB1.out ⟨_, rfl⟩
      clear HB1 y0 y1 y2 c2
      generalize w1.drewN nq = w2 at *
      have c3 := bcell HB2.out c1 hrl
      have d3 := bcell HB2.out d0 hgl
      have f3 := HFZ.out _ HB2.out
      go_wp2
      go_ret
      exact ⟨rfl, HPT.out _ HB2.out, (Turns.of_below _ HB2.out).trans (Turns.setCell _ (by simp) _)⟩
    · have g1 : decide ((N : Int) < b) = true := by simp; omega
      rw [decide_eq_false hb, if_neg (by decide), if_neg (by decide)]
      clear h hr hb
      generalize blockK f b u = s at *
      generalize now.getD 0 ⟨#[]⟩ = s0 at *
      go_enter Tryz.func28, Tryz.ntmps28
      obtain ⟨x0, x1, x2⟩ := HX0.out.row
      unfold crv at *
      go_wp2_with (go_at_call 57; refine (HW.out _).mono ?_; rintro e w1 ⟨rfl, b1⟩)
      have HB1 := Lib.hid (HB0.out.trans (b1.mono HB0.out.size))
      obtain ⟨y0, y1, y2⟩ := (HX0.out.below b1 HX0.out.lt).row
      have c2 := bcell HB1.out c1 hrl
      clear x0 x1 x2 b1
      go_quiet (fail)
      go_wp2
      go_ret
      have hb : Below w.heap.size w (w1.drewN nq) := Lg.Below.drews HB1.out ⟨_, rfl⟩
      exact ⟨rfl, HD.out.below hb, Turns.of_below _ hb⟩

theorem rcrown_any (R r gb cb gn cn N : Nat) (base now : List ByteArray) (w : World) (h : RD w R r gb cb gn cn N base now) (hN : 0 < N) (hs : (now.getD 0 ⟨#[]⟩).size ≤ 140737488355328) :
    Calls Tryz.prog 59 #[.pointer (some ⟨r, 0, none⟩)] w (RetCr w now) := by
  have HX0 : Hid (KBox (w.alloc (.cells (cells3 0 0 0) 62)) w.heap.size 0 0 0) := KBox.new _ _ _ _
  have HB0 : Hid (Below w.heap.size w (w.alloc (.cells (cells3 0 0 0) 62))) := (Below.refl _ _).alloc (Nat.le_refl _) _
  have HVL := Lib.hid h.ln
  have HRK := Lib.hid (fun W => Kr.rread10_any (now.getD 0 ⟨#[]⟩) W hs)
  have hrl := h.lt
  have c1 := h.c1
  have hN2 : (0 : Int) < (N : Int) := by omega
  have c1' := bcell HB0.out h.c1 hrl
  have d1' := bcell HB0.out (h.cell hN) h.gn_ge.2
  unfold RetCr crF crB crC crE okCr
  unfold Kr.RetK Kr.fK Kr.bK Kr.cK Kr.eK at HRK
  unfold cells3 at HX0 HB0 c1' d1'
  generalize now.getD 0 ⟨#[]⟩ = s at *
  clear h hs
  have HN := Lib.hid (KBox.new3)
  have HNB : Hid (∀ (W : World) (o : Obj), Below W.heap.size W (W.alloc o)) := fun W o => (Below.refl _ _).alloc (Nat.le_refl _) _
  cases hk : okK s with
  | false =>
    simp only [Bool.false_and, if_neg (by decide : ¬ false = true)]
    rw [hk] at HRK
    simp only [if_neg (by decide : ¬ false = true)] at HRK
    clear hk
    unfold crv at *
    go_enter Tryz.func59, Tryz.ntmps59
    go_wp2_with (first
      | (go_at_call 86; refine (HRK.out _).mono ?_; rintro e w2 ⟨rfl, b2⟩
         have HB2 := Lib.hid ((HB0.out.trans (b2.mono HB0.out.size)).alloc (Nat.le_trans HB0.out.size b2.size) (.cells #[.int .i64 0, .int .i64 0, .int .i64 0] 62))
         have HX2 := Lib.hid ((HX0.out.below b2 HX0.out.lt).below (HNB.out w2 (.cells #[.int .i64 0, .int .i64 0, .int .i64 0] 62)) (Nat.lt_of_lt_of_le HX0.out.lt b2.size))
         have HG2 := Lib.hid (HN.out w2 0 0 0)
         clear b2 HX0 HB0 c1' d1'))
    generalize w2.alloc (.cells #[.int .i64 0, .int .i64 0, .int .i64 0] 62) = w3 at *
    generalize w2.heap.size = g at *
    obtain ⟨y0, y1, y2⟩ := HG2.out.row
    have c1' := bcell HB2.out c1 hrl
    clear c1
    go_quiet (fail)
    have HX4 : Hid (KBox (w3.drewN nq) w.heap.size 0 0 0) := HX2.out
    have HG4 : Hid (KBox (w3.drewN nq) g 0 0 0) := HG2.out
    have HB4 : Hid (Below w.heap.size w (w3.drewN nq)) := Lg.Below.drews HB2.out ⟨_, rfl⟩
    clear HX2 HG2 HB2 y0 y1 y2 c1'
    generalize w3.drewN nq = w4 at *
    obtain ⟨r0, r1, r2⟩ := HX4.out.row
    obtain ⟨y0, y1, y2⟩ := HG4.out.row
    have zr := HX4.out.fz
    go_wp2
    clear r0 r1 r2 zr y0 y1 y2
    have HX9 : Hid (KBox (put3 w4 w.heap.size 0 0 0) w.heap.size 0 0 0) := put3_box HX4.out
    have HB9 : Hid (Below w.heap.size w (put3 w4 w.heap.size 0 0 0)) := put3_below HB4.out (Nat.le_refl _)
    unfold put3 at HX9 HB9
    generalize World.setCell _ ⟨w.heap.size, 2, none⟩ _ = w9 at *
    obtain ⟨r0, r1, r2⟩ := HX9.out.row
    refine bodyPost_ret (v := .tuple #[crv 0 0 0, .int .i64 15]) (by simp [results, go_sem, r0, r1, r2, crv]) rfl ?_
    exact ⟨rfl, HB9.out⟩
  | true =>
    rw [hk] at HRK
    simp only [if_pos] at HRK
    rw [Bool.true_and, HVL.out]
    generalize kf s = f at *
    generalize kb s = b at *
    generalize kc s = u at *
    clear hk
    by_cases hb : b ≤ (N : Int)
    · have g1 : decide ((N : Int) < b) = false := by simp; omega
      rw [decide_eq_true hb]
      simp only [if_pos]
      clear hb HVL
      unfold crv at *
      go_enter Tryz.func59, Tryz.ntmps59
      go_wp2_with (first
        | (go_at_call 86; refine (HRK.out _).mono ?_; rintro e w2 ⟨rfl, b2⟩
           have HB2 := Lib.hid ((HB0.out.trans (b2.mono HB0.out.size)).alloc (Nat.le_trans HB0.out.size b2.size) (.cells #[.int .i64 f, .int .i64 b, .int .i64 u] 62))
           have HX2 := Lib.hid ((HX0.out.below b2 HX0.out.lt).below (HNB.out w2 (.cells #[.int .i64 f, .int .i64 b, .int .i64 u] 62)) (Nat.lt_of_lt_of_le HX0.out.lt b2.size))
           have HG2 := Lib.hid (HN.out w2 f b u)
           clear b2 HX0 HB0 c1' d1'))
      generalize w2.alloc (.cells #[.int .i64 f, .int .i64 b, .int .i64 u] 62) = w3 at *
      generalize w2.heap.size = g at *
      obtain ⟨y0, y1, y2⟩ := HG2.out.row
      have c1' := bcell HB2.out c1 hrl
      clear c1
      go_quiet (fail)
      have HX4 : Hid (KBox (w3.drewN nq) w.heap.size 0 0 0) := HX2.out
      have HG4 : Hid (KBox (w3.drewN nq) g f b u) := HG2.out
      have HB4 : Hid (Below w.heap.size w (w3.drewN nq)) := Lg.Below.drews HB2.out ⟨_, rfl⟩
      clear HX2 HG2 HB2 y0 y1 y2 c1'
      generalize w3.drewN nq = w4 at *
      obtain ⟨r0, r1, r2⟩ := HX4.out.row
      obtain ⟨y0, y1, y2⟩ := HG4.out.row
      have zr := HX4.out.fz
      go_wp2
      clear r0 r1 r2 zr y0 y1 y2
      have HX9 : Hid (KBox (put3 w4 w.heap.size f b u) w.heap.size f b u) := put3_box HX4.out
      have HB9 : Hid (Below w.heap.size w (put3 w4 w.heap.size f b u)) := put3_below HB4.out (Nat.le_refl _)
      unfold put3 at HX9 HB9
      generalize World.setCell _ ⟨w.heap.size, 2, none⟩ _ = w9 at *
      obtain ⟨r0, r1, r2⟩ := HX9.out.row
      refine bodyPost_ret (v := .tuple #[crv f b u, .int .i64 0]) (by simp [results, go_sem, r0, r1, r2, crv]) rfl ?_
      exact ⟨rfl, HB9.out⟩
    · have g1 : decide ((N : Int) < b) = true := by simp; omega
      rw [decide_eq_false hb]
      simp only [if_neg (by decide : ¬ false = true)]
      clear hb HVL
      unfold crv at *
      go_enter Tryz.func59, Tryz.ntmps59
      go_wp2_with (first
        | (go_at_call 86; refine (HRK.out _).mono ?_; rintro e w2 ⟨rfl, b2⟩
           have HB2 := Lib.hid ((HB0.out.trans (b2.mono HB0.out.size)).alloc (Nat.le_trans HB0.out.size b2.size) (.cells #[.int .i64 f, .int .i64 b, .int .i64 u] 62))
           have HX2 := Lib.hid ((HX0.out.below b2 HX0.out.lt).below (HNB.out w2 (.cells #[.int .i64 f, .int .i64 b, .int .i64 u] 62)) (Nat.lt_of_lt_of_le HX0.out.lt b2.size))
           have HG2 := Lib.hid (HN.out w2 f b u)
           clear b2 HX0 HB0 c1' d1'))
      generalize w2.alloc (.cells #[.int .i64 f, .int .i64 b, .int .i64 u] 62) = w3 at *
      generalize w2.heap.size = g at *
      obtain ⟨y0, y1, y2⟩ := HG2.out.row
      have c1' := bcell HB2.out c1 hrl
      clear c1
      go_quiet (fail)
      have HX4 : Hid (KBox (w3.drewN nq) w.heap.size 0 0 0) := HX2.out
      have HG4 : Hid (KBox (w3.drewN nq) g f b u) := HG2.out
      have HB4 : Hid (Below w.heap.size w (w3.drewN nq)) := Lg.Below.drews HB2.out ⟨_, rfl⟩
      clear HX2 HG2 HB2 y0 y1 y2 c1'
      generalize w3.drewN nq = w4 at *
      obtain ⟨r0, r1, r2⟩ := HX4.out.row
      obtain ⟨y0, y1, y2⟩ := HG4.out.row
      have zr := HX4.out.fz
      go_wp2
      clear r0 r1 r2 zr y0 y1 y2
      have HX9 : Hid (KBox (put3 w4 w.heap.size 0 0 0) w.heap.size 0 0 0) := put3_box HX4.out
      have HB9 : Hid (Below w.heap.size w (put3 w4 w.heap.size 0 0 0)) := put3_below HB4.out (Nat.le_refl _)
      unfold put3 at HX9 HB9
      generalize World.setCell _ ⟨w.heap.size, 2, none⟩ _ = w9 at *
      obtain ⟨r0, r1, r2⟩ := HX9.out.row
      refine bodyPost_ret (v := .tuple #[crv 0 0 0, .int .i64 15]) (by simp [results, go_sem, r0, r1, r2, crv]) rfl ?_
      exact ⟨rfl, HB9.out⟩

/-! ### Changed -/
def diffP (now base : List ByteArray) (k : Nat) : List Int := ((List.range k).filter fun i => decide (now.getD i ⟨#[]⟩ ≠ base.getD i ⟨#[]⟩)).map fun i : Nat => (i : Int)
theorem diffP_ne {now base : List ByteArray} {k : Nat} (h : ¬ now.getD k ⟨#[]⟩ = base.getD k ⟨#[]⟩) : diffP now base (k + 1) = diffP now base k ++ [(k : Int)] := by
  unfold diffP
  rw [List.range_succ, List.filter_append, List.map_append, List.filter_cons_of_pos (by simpa using h)]
  rfl
theorem diffP_eq {now base : List ByteArray} {k : Nat} (h : now.getD k ⟨#[]⟩ = base.getD k ⟨#[]⟩) : diffP now base (k + 1) = diffP now base k := by
  unfold diffP
  rw [List.range_succ, List.filter_append, List.map_append, List.filter_cons_of_neg (by simpa using h)]
  simp
theorem diffP_len (now base : List ByteArray) (k : Nat) : (diffP now base k).length ≤ k := by
  unfold diffP
  rw [List.length_map]
  exact Nat.le_trans (List.length_filter_le _ _) (by rw [List.length_range]; exact Nat.le_refl _)
theorem rchanged_any (R r gb cb gn cn N : Nat) (base now : List ByteArray) (w : World) (h : RD w R r gb cb gn cn N base now) (hN2 : N ≤ 1000) :
    Calls Tryz.prog 37 #[.pointer (some ⟨r, 0, none⟩)] w fun e w' => ∃ A c, e = .returned (.slice A (diffL now base).length c) ∧ w'.ownsRow w.heap.size 3 1 (.slice A (diffL now base).length c) (diffL now base).length (ints (diffL now base)) ∧ Below w.heap.size w w' := by
  have HE : Hid (diffP now base N = diffL now base) := by show _ = _; unfold diffP diffL; rw [h.ln]
  have hrl := h.lt
  have hgn := h.gn_ge.2
  have hgb := h.gb_ge.2
  have c0 := h.c0
  have c1 := h.c1
  have HC := Lib.hid (fun k (hk : k < N) => h.cell hk)
  have HCB := Lib.hid (fun k (hk : k < N) => h.cellB hk)
  have HPE := Lib.hid (fun k => diffP_eq (now := now) (base := base) (k := k))
  have HPN := Lib.hid (fun k => diffP_ne (now := now) (base := base) (k := k))
  have HPL := Lib.hid (diffP_len now base)
  clear h
  generalize diffL now base = dl at *
  go_enter Tryz.func37, Tryz.ntmps37
  go_wp2
  go_loopw [3, 4] (fun v i wr => ∃ k : Nat, k ≤ N ∧ i = .int .i64 (k : Int) ∧ wr.ownsRow w.heap.size 3 1 v (diffP now base k).length (ints (diffP now base k)) ∧ Below w.heap.size w wr) (fun _ i _ => N - (intOf i).toNat)
  case atStart => exact ⟨0, by omega, rfl, World.ownsRow_nil _ _ _ _, Below.refl _ _⟩
  case round =>
    obtain ⟨k, hk, rfl, ho, hb⟩ := hrel
    have e0 := bcell hb c0 hrl
    have e1 := bcell hb c1 hrl
    have HB := Lib.hid hb
    have HO := Lib.hid ho
    by_cases h1 : k < N
    · have hlt : (k : Int) < (N : Int) := by omega
      have x0 : (0 : Int) ≤ (k : Int) := by omega
      have d0 := bcell hb (HC.out k h1) hgn
      have d1 := bcell hb (HCB.out k h1) hgb
      have he := HPE.out k
      have hn := HPN.out k
      have hl := HPL.out k
      generalize now.getD k ⟨#[]⟩ = s at *
      generalize base.getD k ⟨#[]⟩ = t at *
      clear ho hb
      by_cases hst : s = t
      · have q1 : (s.toList == t.toList) = true := by rw [hst]; simp
        have q2 : (s.toList != t.toList) = false := by rw [hst]; simp
        have HO2 : Hid (∀ n, (wr.drewN n).ownsRow w.heap.size 3 1 u3 (diffP now base (k + 1)).length (ints (diffP now base (k + 1)))) := fun n => by
          rw [he hst]; exact own_turns HO.out (Sl.drewN_turns wr n) (by simp)
        clear he hn hst hl
        go_wp2_with fail
        go_quiet (fail)
        go_wp2
        go_roundw
        case rel => exact ⟨k + 1, h1, by push_cast; rfl, HO2.out _, Lg.Below.drews HB.out ⟨_, rfl⟩⟩
        case measure => simp only [intOf]; omega
      · have q1 : (s.toList == t.toList) = false := by rw [Lg.lists_eq]; exact decide_eq_false hst
        have q2 : (s.toList != t.toList) = true := by unfold bne; rw [q1]; rfl
        have HX := Lib.hid (hn hst)
        have HLL := Lib.hid hl
        have HO2 : Hid (∀ n, (wr.drewN n).ownsRow w.heap.size 3 1 u3 (diffP now base k).length (ints (diffP now base k))) := fun n => own_turns HO.out (Sl.drewN_turns wr n) (by simp)
        clear he hn hst hl
        go_wp2_with fail
        go_quiet (fail)
        have HO3 := Lib.hid (HO2.out nq)
        have HB3 : Hid (Below w.heap.size w (wr.drewN nq)) := Lg.Below.drews HB.out ⟨_, rfl⟩
        clear HO2 d0 d1 e0 e1
        generalize wr.drewN nq = w5 at *
        go_wp2_with (at_builtin; refine pushI_law rfl _ _ rfl w.heap.size w5 u3 (diffP now base k) (k : Int) rfl rfl HO3.out (by have := HLL.out; omega) HB3.out.size (fun v6 w6 h6 b6 => ?_))
        have HX6 : Hid (w6.ownsRow w.heap.size 3 1 v6 (diffP now base (k + 1)).length (ints (diffP now base (k + 1)))) := by show World.ownsRow _ _ _ _ _ _ _; rw [HX.out]; exact h6
        have HB6 : Hid (Below w.heap.size w w6) := HB3.out.trans b6
        clear h6 b6
        go_roundw
        case rel => exact ⟨k + 1, h1, by push_cast; rfl, HX6.out, HB6.out⟩
        case measure => simp only [intOf]; omega
    · have hnlt : ¬ (k : Int) < (N : Int) := by omega
      have e : k = N := by omega
      obtain ⟨A, c, rfl, hc⟩ := Lg.own_slice ho
      have HO2 : Hid (wr.ownsRow w.heap.size 3 1 (.slice A (diffP now base k).length c) dl.length (ints dl)) := by
        have h2 := ho
        rw [e, HE.out] at h2 ⊢
        exact h2
      have HL2 : Hid ((diffP now base k).length = dl.length) := by show _ = _; rw [e, HE.out]
      clear ho hb e
      go_wp2
      go_ret
      rw [HL2.out] at HO2 ⊢
      exact ⟨A, c, rfl, HO2.out, HB.out⟩

/-! ### Undo, Commit -/
end Go.Proofs.YtbkgfkemjhaopaaGreat.Dl
