/-
  PROVED: SlabKeeps returns true, and each argument reads afterwards as it read before. No condition.
-/
import Derived.Test.YtclfklpekkkkfaaSlabStops
namespace Go.Proofs.Ytclfklpekkkkfaa.slabKeeps
open Go.ChangeShapes Go.WideShapes Go.ChangeAt Go.RowKit
open Go.ChangeMaps (open_string shut_string)
open slabStops (step_calls)

/-- a slab that never stops, behind at most k calls. -/
structure Calm (σ : St) (k : Nat) : Prop where
  stops : σ.stops = false
  calls : σ.calls ≤ k
  len : σ.dur.length = 9
theorem Calm.step {σ : St} {k : Nat} (h : Calm σ k) (kd i : Int) (s : ByteArray) : Calm (σ.step kd i s) (k + 1) := by
  obtain ⟨h1, h2, h3, h4⟩ := step_calls σ kd i s
  exact ⟨h2.trans h.stops, by rw [h1]; have := h.calls; omega, h4.trans h.len⟩
theorem Calm.more {σ : St} {k k' : Nat} (h : Calm σ k) (hk : k ≤ k') : Calm σ k' := ⟨h.stops, Nat.le_trans h.calls hk, h.len⟩
theorem step_dur {σ : St} {kd i : Int} {s : ByteArray} (hk : kd % 4 = 0) : (σ.step kd i s).dur = σ.dur := by
  unfold St.step
  rw [if_pos hk]
  unfold St.write
  split
  · rfl
  · split <;> rfl
theorem img_firm {σ : St} (h : σ.loose = fun _ => none) : σ.img = σ.dur := by
  unfold St.img
  apply List.ext_getElem (by simp)
  intro j h1 h2
  simp [St.at, h, h2]
theorem looseOf_none {σ : St} {zs : List Int} (h : LooseOf σ zs) (hn : σ.loose = fun _ => none) : zs.length = 0 := by
  cases zs with
  | nil => rfl
  | cons a r =>
    have := (h.2.1 a).1 (by simp)
    rw [hn] at this
    exact absurd rfl this

/-- the three blocks of a slab lie from lo on and below hi. -/
def Band (x xd xm lo hi : Nat) : Prop := lo ≤ x ∧ x < hi ∧ lo ≤ xd ∧ xd < hi ∧ lo ≤ xm ∧ xm < hi
theorem Band.kept {w w' : World} {x xd xm y yd ym lo hi lo' hi' : Nat} {σ : St} (h : SlabAt w y yd ym σ) (t : Turns [x, xd, xm] w w') (bx : Band x xd xm lo hi) (by_ : Band y yd ym lo' hi') (d : hi ≤ lo' ∨ hi' ≤ lo) : SlabAt w' y yd ym σ := by
  obtain ⟨x1, x2, x3, x4, x5, x6⟩ := bx
  obtain ⟨y1, y2, y3, y4, y5, y6⟩ := by_
  exact h.kept t (by simp; omega) (by simp; omega) (by simp; omega)
theorem Band.low {x xd xm lo hi B : Nat} (h : Band x xd xm lo hi) (hB : B ≤ lo) : ∀ j, j ∈ [x, xd, xm] → B ≤ j := by
  obtain ⟨x1, x2, x3, x4, x5, x6⟩ := h
  intro j hj
  simp at hj
  omega
theorem Band.out {x xd xm lo hi g : Nat} (h : Band x xd xm lo hi) (hg : hi ≤ g) : g ∉ [x, xd, xm] := by
  obtain ⟨x1, x2, x3, x4, x5, x6⟩ := h
  simp
  omega

set_option maxHeartbeats 4000000 in
theorem walk (A : Option Addr) (n c : Nat) (l : List Step) (A2 : Option Addr) (n2 c2 : Nat) (l2 : List Step) (w : World) (hA : OpsAt w A n l) (_hl : l.length = n) (hnc : n ≤ c) (hA2 : OpsAt w A2 n2 l2) (_hl2 : l2.length = n2) (hnc2 : n2 ≤ c2) :
    Calls Try.prog 6 #[.slice A n c, .slice A2 n2 c2] w fun e w' => e = .returned (.bool true) ∧ Below w.heap.size w w' := by
  obtain ⟨m, hm⟩ : ∃ m : Nat, m = min n 200 := ⟨_, rfl⟩
  obtain ⟨m2, hm2⟩ : ∃ m2 : Nat, m2 = min n2 200 := ⟨_, rfl⟩
  have HMM := Lib.hid hm
  have HMM2 := Lib.hid hm2
  have hmb : m ≤ 200 := by omega
  have hmb2 : m2 ≤ 200 := by omega
  have HA := Lib.hid (hA.less (m := m) (by omega))
  have HA2 := Lib.hid (hA2.less (m := m2) (by omega))
  clear hA hA2 hm hm2
  go_enter Try.func6, Try.ntmps6
  go_wp2_with fail
  refine (lives_any w).mono ?_
  rintro e w1 ⟨rfl, b1⟩
  have B1 := Lib.hid b1
  clear b1
  go_wp2_with fail
  refine (early_any A n c w1 hnc).mono ?_
  rintro e w2 ⟨rfl, rfl⟩
  rw [← HMM.out]
  go_wp2_with fail
  refine (early_any A2 n2 c2 w1 hnc2).mono ?_
  rintro e w2 ⟨rfl, rfl⟩
  rw [← HMM2.out]
  go_wp2_with fail
  refine (new_any 9 w1).mono ?_
  rintro e w3 ⟨x, xd, xm, rfl, h3, hp, hd, hm, b3⟩
  have BX : Hid (Band x xd xm w1.heap.size w3.heap.size) := ⟨hp, h3.lt_p, hd, h3.lt_d, hm, h3.lt_m⟩
  have X3 := Lib.hid h3
  have BB3 := Lib.hid b3
  clear h3 b3 hp hd hm
  go_wp2_with fail
  refine (new_any 9 w3).mono ?_
  rintro e w4 ⟨y, yd, ym, rfl, h4, hp, hd, hm, b4⟩
  have BY : Hid (Band y yd ym w3.heap.size w4.heap.size) := ⟨hp, h4.lt_p, hd, h4.lt_d, hm, h4.lt_m⟩
  have X4 := Lib.hid (X3.out.keptB (Turns.of_below _ b4))
  have Y4 := Lib.hid h4
  have BB4 := Lib.hid b4
  clear h4 b4 hp hd hm
  go_wp2_with fail
  refine (new_any 9 w4).mono ?_
  rintro e w5 ⟨z, zd, zm, rfl, h5, hp, hd, hm, b5⟩
  have BZ : Hid (Band z zd zm w4.heap.size w5.heap.size) := ⟨hp, h5.lt_p, hd, h5.lt_d, hm, h5.lt_m⟩
  have X5 := Lib.hid (X4.out.keptB (Turns.of_below _ b5))
  have Y5 := Lib.hid (Y4.out.keptB (Turns.of_below _ b5))
  have Z5 := Lib.hid h5
  have s1 := Lib.hid B1.out.size
  have s3 := Lib.hid BB3.out.size
  have s4 := Lib.hid BB4.out.size
  have s5 := Lib.hid b5.size
  have B5 : Hid (Below w.heap.size w w5) := ((B1.out.trans (BB3.out.mono s1.out)).trans (BB4.out.mono (Nat.le_trans s1.out s3.out))).trans (b5.mono (Nat.le_trans s1.out (Nat.le_trans s3.out s4.out)))
  have LX : Hid (∀ j, j ∈ [x, xd, xm] → w.heap.size ≤ j) := BX.out.low s1.out
  have LY : Hid (∀ j, j ∈ [y, yd, ym] → w.heap.size ≤ j) := BY.out.low (Nat.le_trans s1.out s3.out)
  have LZ : Hid (∀ j, j ∈ [z, zd, zm] → w.heap.size ≤ j) := BZ.out.low (Nat.le_trans s1.out (Nat.le_trans s3.out s4.out))
  have HC0 : Hid (Calm (St.new 9) 0) := ⟨rfl, Nat.le_refl _, by simp [St.new, St.fresh]; decide⟩
  clear h5 b5 hp hd hm X3 X4 Y4 BB3 BB4 B1
  go_wp2
  go_loopw [8] (fun i wr => ∃ k : Nat, k ≤ m ∧ i = .int .i64 k ∧ ∃ σ, SlabAt wr x xd xm σ ∧ SlabAt wr y yd ym σ ∧ SlabAt wr z zd zm σ ∧ Calm σ k ∧ Below w.heap.size w wr ∧ w5.heap.size ≤ wr.heap.size) (fun i _ => m - (intOf i).toNat)
  case atStart => exact ⟨0, Nat.zero_le _, rfl, _, X5.out, Y5.out, Z5.out, HC0.out, B5.out, Nat.le_refl _⟩
  case round =>
    obtain ⟨k, hk, rfl, σ, hx, hy, hz, hcm, hb, hsz⟩ := hrel
    have hkc : σ.calls ≤ k := hcm.calls
    have Hx := Lib.hid hx
    have Hy := Lib.hid hy
    have Hz := Lib.hid hz
    have Hcm := Lib.hid hcm
    have Hb := Lib.hid hb
    have Hsz := Lib.hid hsz
    clear hx hy hz hcm hb hsz X5 Y5 Z5 B5 HC0
    by_cases hlt : k < m
    · obtain ⟨b, o, A', n', c', rfl, hok, x0, x1, x2, x3⟩ := HA.out k hlt
      have hbl := World.block_lt_of_cell? w _ x0
      generalize l.getD k (0, 0, ⟨#[]⟩) = st at *
      obtain ⟨kd, i, s⟩ := st
      simp only at x0 x1 x2 x3
      have X0 := Lib.hid (fun (w' : World) (hb : Below w.heap.size w w') => (hb.cell (p := ⟨b, o + k * 4, none⟩) hbl).trans x0)
      have X1 := Lib.hid (fun (w' : World) (hb : Below w.heap.size w w') => (hb.cell (p := ⟨b, o + k * 4 + 1, none⟩) hbl).trans x1)
      have X2 := Lib.hid (fun (w' : World) (hb : Below w.heap.size w w') => (hb.cell (p := ⟨b, o + k * 4 + 2, none⟩) hbl).trans x2)
      have X3 := Lib.hid (fun (w' : World) (hb : Below w.heap.size w w') => (hb.cell (p := ⟨b, o + k * 4 + 3, none⟩) hbl).trans x3)
      clear x0 x1 x2 x3
      have y0 := X0.out wr Hb.out
      have y1 := X1.out wr Hb.out
      have y2 := X2.out wr Hb.out
      have y3 := X3.out wr Hb.out
      go_wp2_with fail
      refine (kind_any kd i s A' n' c' wr).mono ?_
      rintro e w6 ⟨rfl, b6⟩
      have t6 : Turns [] wr w6 := Turns.of_below _ b6
      have Hx6 := Lib.hid (Hx.out.keptB t6)
      have Hy6 := Lib.hid (Hy.out.keptB t6)
      have Hz6 := Lib.hid (Hz.out.keptB t6)
      have hb6 := Lib.hid (Hb.out.trans (b6.mono Hb.out.size))
      have hs6 := Lib.hid (Nat.le_trans Hsz.out b6.size)
      clear y0 y1 y2 y3 t6 b6 Hx Hy Hz Hb Hsz
      by_cases hkd : kd % 4 < 2
      · have d5 : decide (kd % 4 < 2) = true := by simpa using hkd
        have HK := Lib.hid hkd
        have y0 := X0.out w6 hb6.out
        have y1 := X1.out w6 hb6.out
        have y2 := X2.out w6 hb6.out
        have y3 := X3.out w6 hb6.out
        generalize hKK : kd % 4 = K at d5
        clear hKK hkd
        go_wp2_with fail
        refine (does_any x xd xm σ kd i s A' n' c' w6 Hx6.out (by omega) hok.1 hok.2 HK.out).mono ?_
        rintro e w7 ⟨rfl, h7, t7⟩
        have Hx7 := Lib.hid h7
        have Hy7 := Lib.hid (BX.out.kept Hy6.out t7 BY.out (Or.inl (Nat.le_refl _)))
        have Hz7 := Lib.hid (BX.out.kept Hz6.out t7 BZ.out (Or.inl s4.out))
        have hb7 := Lib.hid (hb6.out.trans (t7.below hb6.out.size LX.out))
        have hs7 := Lib.hid (Nat.le_trans hs6.out t7.size)
        clear y0 y1 y2 y3 h7 t7 Hx6 Hy6 Hz6
        have y0 := X0.out w7 hb7.out
        have y1 := X1.out w7 hb7.out
        have y2 := X2.out w7 hb7.out
        have y3 := X3.out w7 hb7.out
        go_wp2_with fail
        refine (does_any y yd ym σ kd i s A' n' c' w7 Hy7.out (by omega) hok.1 hok.2 HK.out).mono ?_
        rintro e w8 ⟨rfl, h8, t8⟩
        have Hx8 := Lib.hid (BY.out.kept Hx7.out t8 BX.out (Or.inr (Nat.le_refl _)))
        have Hy8 := Lib.hid h8
        have Hz8 := Lib.hid (BY.out.kept Hz7.out t8 BZ.out (Or.inl (Nat.le_refl _)))
        have hb8 := Lib.hid (hb7.out.trans (t8.below hb7.out.size LY.out))
        have hs8 := Lib.hid (Nat.le_trans hs7.out t8.size)
        clear y0 y1 y2 y3 h8 t8 Hx7 Hy7 Hz7
        have y0 := X0.out w8 hb8.out
        have y1 := X1.out w8 hb8.out
        have y2 := X2.out w8 hb8.out
        have y3 := X3.out w8 hb8.out
        go_wp2_with fail
        refine (does_any z zd zm σ kd i s A' n' c' w8 Hz8.out (by omega) hok.1 hok.2 HK.out).mono ?_
        rintro e w9 ⟨rfl, h9, t9⟩
        have Hx9 := Lib.hid (BZ.out.kept Hx8.out t9 BX.out (Or.inr s4.out))
        have Hy9 := Lib.hid (BZ.out.kept Hy8.out t9 BY.out (Or.inr (Nat.le_refl _)))
        have Hz9 := Lib.hid h9
        have hb9 := Lib.hid (hb8.out.trans (t9.below hb8.out.size LZ.out))
        have hs9 := Lib.hid (Nat.le_trans hs8.out t9.size)
        have Hc9 := Lib.hid (Hcm.out.step kd i s)
        clear y0 y1 y2 y3 h9 t9 Hx8 Hy8 Hz8
        generalize σ.step kd i s = τ at *
        generalize σ.stepE kd i s = E at *
        go_wp2
        go_roundw
        case rel => exact ⟨k + 1, by omega, by go_num, τ, Hx9.out, Hy9.out, Hz9.out, Hc9.out, hb9.out, hs9.out⟩
        case measure => simp [intOf]; omega
      · have d5 : decide (kd % 4 < 2) = false := by simpa using hkd
        generalize hKK : kd % 4 = K at d5
        clear hKK hkd
        go_wp2
        go_roundw
        case rel => exact ⟨k + 1, by omega, by go_num, σ, Hx6.out, Hy6.out, Hz6.out, Hcm.out.more (by omega), hb6.out, hs6.out⟩
        case measure => simp [intOf]; omega
    · have hk200 : k ≤ 200 := by omega
      obtain ⟨eF, eE⟩ := St.flush_ok (σ := σ) Hcm.out.stops
      have EE := Lib.hid eE
      obtain ⟨τ, hτ⟩ : ∃ τ, τ = σ.flush := ⟨_, rfl⟩
      have T1 : Hid (τ.loose = fun _ => none) := by show _ = _; rw [hτ, eF]; rfl
      have T2 : Hid (Calm τ 201) := by
        show Calm _ _
        obtain ⟨f1, f2, f3, f4⟩ := slabStops.flush_calls σ
        rw [hτ]
        exact ⟨f2.trans Hcm.out.stops, by rw [f1]; omega, f4.trans Hcm.out.len⟩
      have T3 : Hid (τ.img = τ.dur) := img_firm T1.out
      have HF := Lib.hid hτ
      clear eF eE hτ
      go_wp2_with fail
      refine (flush_any x xd xm σ wr Hx.out (by omega)).mono ?_
      rintro e w6 ⟨rfl, h6, t6⟩
      rw [EE.out]
      rw [← HF.out] at h6
      have Hx6 := Lib.hid h6
      have Hy6 := Lib.hid (BX.out.kept Hy.out t6 BY.out (Or.inl (Nat.le_refl _)))
      have Hz6 := Lib.hid (BX.out.kept Hz.out t6 BZ.out (Or.inl s4.out))
      have hb6 := Lib.hid (Hb.out.trans (t6.below Hb.out.size LX.out))
      have hs6 := Lib.hid (Nat.le_trans Hsz.out t6.size)
      clear h6 t6 Hx Hy Hz Hb Hsz
      go_wp2_with fail
      refine (flush_any y yd ym σ w6 Hy6.out (by omega)).mono ?_
      rintro e w7 ⟨rfl, h7, t7⟩
      rw [EE.out]
      rw [← HF.out] at h7
      have Hx7 := Lib.hid (BY.out.kept Hx6.out t7 BX.out (Or.inr (Nat.le_refl _)))
      have Hy7 := Lib.hid h7
      have Hz7 := Lib.hid (BY.out.kept Hz6.out t7 BZ.out (Or.inl (Nat.le_refl _)))
      have hb7 := Lib.hid (hb6.out.trans (t7.below hb6.out.size LY.out))
      have hs7 := Lib.hid (Nat.le_trans hs6.out t7.size)
      clear h7 t7 Hx6 Hy6 Hz6 hb6 hs6
      go_wp2_with fail
      refine (flush_any z zd zm σ w7 Hz7.out (by omega)).mono ?_
      rintro e w8 ⟨rfl, h8, t8⟩
      rw [EE.out]
      rw [← HF.out] at h8
      have Hx8 := Lib.hid (BZ.out.kept Hx7.out t8 BX.out (Or.inr s4.out))
      have Hy8 := Lib.hid (BZ.out.kept Hy7.out t8 BY.out (Or.inr (Nat.le_refl _)))
      have Hz8 := Lib.hid h8
      have hb8 := Lib.hid (hb7.out.trans (t8.below hb7.out.size LZ.out))
      have hs8 := Lib.hid (Nat.le_trans hs7.out t8.size)
      clear h8 t8 Hx7 Hy7 Hz7 hb7 hs7
      go_wp2_with fail
      refine (image_any z zd zm τ w8 Hz8.out).mono ?_
      rintro e w9 ⟨rfl, r9, b9⟩
      rw [T3.out] at r9
      rw [T2.out.len]
      have t9 : Turns [] w8 w9 := Turns.of_below _ b9
      have Hx9 := Lib.hid (Hx8.out.keptB t9)
      have Hy9 := Lib.hid (Hy8.out.keptB t9)
      have Hz9 := Lib.hid (Hz8.out.keptB t9)
      have hb9 := Lib.hid (hb8.out.trans (b9.mono hb8.out.size))
      have hs9 := Lib.hid (Nat.le_trans hs8.out b9.size)
      have R9 := Lib.hid r9
      clear r9 b9 t9 Hx8 Hy8 Hz8
      have GX : Hid (w8.heap.size ∉ [x, xd, xm]) := BX.out.out (by have := hs8.out; have := s4.out; have := s5.out; omega)
      have GY : Hid (w8.heap.size ∉ [y, yd, ym]) := BY.out.out (by have := hs8.out; have := s5.out; omega)
      have GZ : Hid (w8.heap.size ∉ [z, zd, zm]) := BZ.out.out hs8.out
      go_wp2
      go_loopw [10] (fun i wr2 => ∃ k2 : Nat, k2 ≤ m2 ∧ i = .int .i64 k2 ∧ ∃ ρ, SlabAt wr2 x xd xm ρ ∧ SlabAt wr2 y yd ym ρ ∧ SlabAt wr2 z zd zm ρ ∧ Calm ρ (201 + k2) ∧ ρ.dur = τ.dur ∧ Below w.heap.size w wr2 ∧ RowAt wr2 w8.heap.size τ.dur) (fun i _ => m2 - (intOf i).toNat)
      case atStart => exact ⟨0, Nat.zero_le _, rfl, _, Hx9.out, Hy9.out, Hz9.out, T2.out, rfl, hb9.out, R9.out⟩
      case round =>
        obtain ⟨k2, hk2, rfl, ρ, hx, hy, hz, hcm2, hdur, hb, hrow⟩ := hrel
        have hkc2 : ρ.calls ≤ 201 + k2 := hcm2.calls
        have Hx := Lib.hid hx
        have Hy := Lib.hid hy
        have Hz := Lib.hid hz
        have Hc2 := Lib.hid hcm2
        have HD := Lib.hid hdur
        have Hb := Lib.hid hb
        have HR := Lib.hid hrow
        clear hx hy hz hcm2 hdur hb hrow Hx9 Hy9 Hz9 hb9 R9 hs9
        by_cases hlt2 : k2 < m2
        · obtain ⟨b, o, A', n', c', rfl, hok, x0, x1, x2, x3⟩ := HA2.out k2 hlt2
          have hbl := World.block_lt_of_cell? w _ x0
          generalize l2.getD k2 (0, 0, ⟨#[]⟩) = st at *
          obtain ⟨kd, i, s⟩ := st
          simp only at x0 x1 x2 x3
          have X0 := Lib.hid (fun (w' : World) (hb : Below w.heap.size w w') => (hb.cell (p := ⟨b, o + k2 * 4, none⟩) hbl).trans x0)
          have X1 := Lib.hid (fun (w' : World) (hb : Below w.heap.size w w') => (hb.cell (p := ⟨b, o + k2 * 4 + 1, none⟩) hbl).trans x1)
          have X2 := Lib.hid (fun (w' : World) (hb : Below w.heap.size w w') => (hb.cell (p := ⟨b, o + k2 * 4 + 2, none⟩) hbl).trans x2)
          have X3 := Lib.hid (fun (w' : World) (hb : Below w.heap.size w w') => (hb.cell (p := ⟨b, o + k2 * 4 + 3, none⟩) hbl).trans x3)
          clear x0 x1 x2 x3
          have y0 := X0.out wr Hb.out
          have y1 := X1.out wr Hb.out
          have y2 := X2.out wr Hb.out
          have y3 := X3.out wr Hb.out
          go_wp2_with fail
          refine (kind_any kd i s A' n' c' wr).mono ?_
          rintro e u6 ⟨rfl, b6⟩
          have t6 : Turns [] wr u6 := Turns.of_below _ b6
          have Hx6 := Lib.hid (Hx.out.keptB t6)
          have Hy6 := Lib.hid (Hy.out.keptB t6)
          have Hz6 := Lib.hid (Hz.out.keptB t6)
          have HR6 := Lib.hid (HR.out.turns t6 (by simp))
          have hb6 := Lib.hid (Hb.out.trans (b6.mono Hb.out.size))
          clear y0 y1 y2 y3 t6 b6 Hx Hy Hz Hb HR
          by_cases hkd : kd % 4 = 0
          · have HK : Hid (kd % 4 < 2) := by show _ < _; omega
            have HK0 := Lib.hid hkd
            rw [hkd]
            clear hkd
            have y0 := X0.out u6 hb6.out
            have y1 := X1.out u6 hb6.out
            have y2 := X2.out u6 hb6.out
            have y3 := X3.out u6 hb6.out
            go_wp2_with fail
            refine (does_any x xd xm ρ kd i s A' n' c' u6 Hx6.out (by omega) hok.1 hok.2 HK.out).mono ?_
            rintro e u7 ⟨rfl, h7, t7⟩
            have Hx7 := Lib.hid h7
            have Hy7 := Lib.hid (BX.out.kept Hy6.out t7 BY.out (Or.inl (Nat.le_refl _)))
            have Hz7 := Lib.hid (BX.out.kept Hz6.out t7 BZ.out (Or.inl s4.out))
            have HR7 := Lib.hid (HR6.out.turns t7 GX.out)
            have hb7 := Lib.hid (hb6.out.trans (t7.below hb6.out.size LX.out))
            clear y0 y1 y2 y3 h7 t7 Hx6 Hy6 Hz6 HR6
            have y0 := X0.out u7 hb7.out
            have y1 := X1.out u7 hb7.out
            have y2 := X2.out u7 hb7.out
            have y3 := X3.out u7 hb7.out
            go_wp2_with fail
            refine (does_any y yd ym ρ kd i s A' n' c' u7 Hy7.out (by omega) hok.1 hok.2 HK.out).mono ?_
            rintro e u8 ⟨rfl, h8, t8⟩
            have Hx8 := Lib.hid (BY.out.kept Hx7.out t8 BX.out (Or.inr (Nat.le_refl _)))
            have Hy8 := Lib.hid h8
            have Hz8 := Lib.hid (BY.out.kept Hz7.out t8 BZ.out (Or.inl (Nat.le_refl _)))
            have HR8 := Lib.hid (HR7.out.turns t8 GY.out)
            have hb8' := Lib.hid (hb7.out.trans (t8.below hb7.out.size LY.out))
            clear y0 y1 y2 y3 h8 t8 Hx7 Hy7 Hz7 HR7
            have y0 := X0.out u8 hb8'.out
            have y1 := X1.out u8 hb8'.out
            have y2 := X2.out u8 hb8'.out
            have y3 := X3.out u8 hb8'.out
            go_wp2_with fail
            refine (does_any z zd zm ρ kd i s A' n' c' u8 Hz8.out (by omega) hok.1 hok.2 HK.out).mono ?_
            rintro e u9 ⟨rfl, h9, t9⟩
            have Hx9 := Lib.hid (BZ.out.kept Hx8.out t9 BX.out (Or.inr s4.out))
            have Hy9 := Lib.hid (BZ.out.kept Hy8.out t9 BY.out (Or.inr (Nat.le_refl _)))
            have Hz9 := Lib.hid h9
            have HR9 := Lib.hid (HR8.out.turns t9 GZ.out)
            have hb9 := Lib.hid (hb8'.out.trans (t9.below hb8'.out.size LZ.out))
            have Hc9 := Lib.hid (Hc2.out.step kd i s)
            have HD9 := Lib.hid ((step_dur (σ := ρ) (i := i) (s := s) HK0.out).trans HD.out)
            clear y0 y1 y2 y3 h9 t9 Hx8 Hy8 Hz8 HR8
            generalize ρ.step kd i s = υ at *
            generalize ρ.stepE kd i s = E at *
            go_wp2
            go_roundw
            case rel => exact ⟨k2 + 1, by omega, by go_num, υ, Hx9.out, Hy9.out, Hz9.out, Hc9.out, HD9.out, hb9.out, HR9.out⟩
            case measure => simp [intOf]; omega
          · have d5 : (kd % 4 == 0) = false := by simpa using hkd
            generalize hKK : kd % 4 = K at d5
            clear hKK hkd
            go_wp2
            go_roundw
            case rel => exact ⟨k2 + 1, by omega, by go_num, ρ, Hx6.out, Hy6.out, Hz6.out, Hc2.out.more (by omega), HD.out, hb6.out, HR6.out⟩
            case measure => simp [intOf]; omega
        · have hk2b : k2 ≤ 200 := by omega
          have hl9 : ρ.dur.length = 9 := Hc2.out.len
          have hst : ρ.stops = false := Hc2.out.stops
          obtain ⟨eF, eE⟩ := St.flush_ok (σ := ρ) hst
          obtain ⟨ξ, hξ⟩ : ∃ ξ, ξ = ({ ρ with dur := ρ.img } : St).lost := ⟨_, rfl⟩
          have I1 : Hid (ξ.img = ρ.img) := by show _ = _; rw [hξ, img_firm rfl]; rfl
          have I2 : Hid (ξ.dur.length = 9) := by show _ = _; rw [hξ]; show ρ.img.length = 9; rw [St.img_len, hl9]
          have I3 : Hid (ξ.loose = fun _ => none) := by show _ = _; rw [hξ]; rfl
          have HXI := Lib.hid hξ
          obtain ⟨η, hη⟩ : ∃ η, η = ρ.flush := ⟨_, rfl⟩
          have J1 : Hid (η.img = ρ.img) := by show _ = _; rw [hη, eF, img_firm rfl]; rfl
          have J2 : Hid (η.dur.length = 9) := by show _ = _; rw [hη, eF]; show ρ.img.length = 9; rw [St.img_len, hl9]
          have HET := Lib.hid hη
          have EE2 := Lib.hid eE
          have K1 : Hid (ρ.lost.img = τ.dur) := by show _ = _; rw [img_firm rfl]; exact HD.out
          have K2 : Hid (ρ.lost.dur.length = 9) := hl9
          have K3 : Hid (ρ.img.length = 9) := by show _ = _; rw [St.img_len, hl9]
          have K4 : Hid (τ.dur.length = 9) := T2.out.len
          clear hξ hη eF eE hl9 hst
          go_wp2_with fail
          have tA : Turns [] wr (wr.alloc (.cells #[.bool true] 4)) := Turns.alloc _ _ _
          have HxA := Lib.hid (Hx.out.keptB tA)
          have HyA := Lib.hid (Hy.out.keptB tA)
          have HzA := Lib.hid (Hz.out.keptB tA)
          have HRA := Lib.hid (HR.out.turns tA (by simp))
          have hbA := Lib.hid (Hb.out.alloc Hb.out.size (.cells #[.bool true] 4))
          have hxl := Hx.out.lt_d
          clear tA
          refine (crash_yes x xd xm wr.heap.size ρ _ HxA.out (by omega) (cell_new wr _ 4 0 rfl) (by omega)).mono ?_
          rintro e v1 ⟨rfl, h1, t1⟩
          rw [← HXI.out] at h1
          have Hx1 := Lib.hid h1
          have Hy1 := Lib.hid (BX.out.kept HyA.out t1 BY.out (Or.inl (Nat.le_refl _)))
          have Hz1 := Lib.hid (BX.out.kept HzA.out t1 BZ.out (Or.inl s4.out))
          have HR1 := Lib.hid (HRA.out.turns t1 GX.out)
          have hb1 := Lib.hid (hbA.out.trans (t1.below hbA.out.size LX.out))
          clear h1 t1 HxA HyA HzA HRA Hx Hy Hz HR
          go_wp2_with fail
          have tB : Turns [] v1 (v1.alloc (.cells #[.bool false] 4)) := Turns.alloc _ _ _
          have HxB := Lib.hid (Hx1.out.keptB tB)
          have HyB := Lib.hid (Hy1.out.keptB tB)
          have HzB := Lib.hid (Hz1.out.keptB tB)
          have HRB := Lib.hid (HR1.out.turns tB (by simp))
          have hbB := Lib.hid (hb1.out.alloc hb1.out.size (.cells #[.bool false] 4))
          clear tB
          refine (crash_no z zd zm v1.heap.size ρ _ HzB.out (by omega) (cell_new v1 _ 4 0 rfl)).mono ?_
          rintro e v2 ⟨rfl, h2, t2⟩
          have Hx2 := Lib.hid (BZ.out.kept HxB.out t2 BX.out (Or.inr s4.out))
          have Hy2 := Lib.hid (BZ.out.kept HyB.out t2 BY.out (Or.inr (Nat.le_refl _)))
          have Hz2 := Lib.hid h2
          have HR2 := Lib.hid (HRB.out.turns t2 GZ.out)
          have hb2 := Lib.hid (hbB.out.trans (t2.below hbB.out.size LZ.out))
          clear h2 t2 HxB HyB HzB HRB Hx1 Hy1 Hz1 HR1
          go_wp2_with fail
          refine (flush_any y yd ym ρ v2 Hy2.out (by omega)).mono ?_
          rintro e v3 ⟨rfl, h3, t3⟩
          rw [EE2.out]
          rw [← HET.out] at h3
          have Hx3 := Lib.hid (BY.out.kept Hx2.out t3 BX.out (Or.inr (Nat.le_refl _)))
          have Hy3 := Lib.hid h3
          have Hz3 := Lib.hid (BY.out.kept Hz2.out t3 BZ.out (Or.inl (Nat.le_refl _)))
          have HR3 := Lib.hid (HR2.out.turns t3 GY.out)
          have hb3 := Lib.hid (hb2.out.trans (t3.below hb2.out.size LY.out))
          clear h3 t3 Hx2 Hy2 Hz2 HR2
          go_wp2_with fail
          refine (image_any x xd xm ξ v3 Hx3.out).mono ?_
          rintro e v4 ⟨rfl, r4, b4⟩
          rw [I2.out]
          rw [I1.out] at r4
          have t4 : Turns [] v3 v4 := Turns.of_below _ b4
          have Hx4 := Lib.hid (Hx3.out.keptB t4)
          have Hy4 := Lib.hid (Hy3.out.keptB t4)
          have Hz4 := Lib.hid (Hz3.out.keptB t4)
          have HR4 := Lib.hid (HR3.out.turns t4 (by simp))
          have RX4 := Lib.hid r4
          have hb4 := Lib.hid (hb3.out.trans (b4.mono hb3.out.size))
          clear r4 b4 t4 Hx3 Hy3 Hz3 HR3
          go_wp2_with fail
          refine (image_any y yd ym η v4 Hy4.out).mono ?_
          rintro e v5 ⟨rfl, r5, b5⟩
          rw [J2.out]
          rw [J1.out] at r5
          have t5 : Turns [] v4 v5 := Turns.of_below _ b5
          have Hx5 := Lib.hid (Hx4.out.keptB t5)
          have Hz5 := Lib.hid (Hz4.out.keptB t5)
          have HR5 := Lib.hid (HR4.out.turns t5 (by simp))
          have RX5 := RX4.out.turns t5 (by simp)
          have hb5 := Lib.hid (hb4.out.trans (b5.mono hb4.out.size))
          have SX : Hid (StrsAt v5 (some ⟨v3.heap.size, 0, none⟩) 9 ρ.img) := by have := RX5.strs; rw [K3.out] at this; exact this
          have SY : Hid (StrsAt v5 (some ⟨v4.heap.size, 0, none⟩) 9 ρ.img) := by have := r5.strs; rw [K3.out] at this; exact this
          clear r5 b5 t5 RX5 RX4 Hx4 Hy4 Hz4 HR4
          go_wp2_with fail
          refine (texts_same _ _ 9 9 9 ρ.img v5 (by omega) SX.out SY.out).mono ?_
          rintro e v6 ⟨rfl, t6⟩
          have Hx6 := Lib.hid (Hx5.out.keptB t6)
          have Hz6 := Lib.hid (Hz5.out.keptB t6)
          have HR6 := Lib.hid (HR5.out.turns t6 (by simp))
          have hb6 := Lib.hid (hb5.out.trans (t6.below hb5.out.size (by simp)))
          clear t6 Hx5 Hz5 HR5 SX SY
          go_wp2_with fail
          refine (image_any z zd zm ρ.lost v6 Hz6.out).mono ?_
          rintro e v7 ⟨rfl, r7, b7⟩
          rw [K2.out]
          rw [K1.out] at r7
          have t7 : Turns [] v6 v7 := Turns.of_below _ b7
          have Hx7 := Lib.hid (Hx6.out.keptB t7)
          have HR7 := HR6.out.turns t7 (by simp)
          have hb7 := Lib.hid (hb6.out.trans (b7.mono hb6.out.size))
          have SX : Hid (StrsAt v7 (some ⟨v6.heap.size, 0, none⟩) 9 τ.dur) := by have := r7.strs; rw [K4.out] at this; exact this
          have SY : Hid (StrsAt v7 (some ⟨w8.heap.size, 0, none⟩) 9 τ.dur) := by have := HR7.strs; rw [K4.out] at this; exact this
          clear r7 b7 t7 HR7 HR6 Hz6 Hx6
          go_wp2_with fail
          refine (texts_same _ _ 9 9 9 τ.dur v7 (by omega) SX.out SY.out).mono ?_
          rintro e v8 ⟨rfl, t8⟩
          have Hx8 := Lib.hid (Hx7.out.keptB t8)
          have hb8' := Lib.hid (hb7.out.trans (t8.below hb7.out.size (by simp)))
          clear t8 SX SY Hx7
          go_wp2_with fail
          refine (loose_any x xd xm ξ v8 Hx8.out).mono ?_
          rintro e v9 ⟨g, cap, zs, rfl, hz, hzl, hrow, b9⟩
          have hz0 := looseOf_none hz I3.out
          rw [hz0]
          have hb9 := Lib.hid (hb8'.out.trans (b9.mono hb8'.out.size))
          clear hz hzl hrow b9 hz0
          go_wp2
          go_ret
          exact ⟨rfl, hb9.out⟩

set_option maxRecDepth 100000 in
theorem lifted (os : Os) (started : os.Started) (H : Type) (enc : TypeId × Value → H) :
    ReturnsInHanded {} Try.checked os 6 .any (Rows.slabKeepsSpec.pre6 enc Try.prog Try.f6 Rows.slabKeepsRow.domain false) (Rows.slabKeepsSpec.post enc Try.prog Try.f6 false true false false) := by
  refine returnsInHanded_of_change_sized (C := Try.checked) own started (by kernel_rfl) Try.func6
    (ChangeSpec.witness6 (enc := enc) (C := Try.checked) false ⟨#[], #[.slice none 0 0, .slice none 0 0], []⟩ 8 (by kernel_rfl) (by kernel_rfl) (by kernel_rfl) (by kernel_rfl)) ?_
  intro W base args ds gs before hval0 hW hcnd hsz0 _
  have hval : ∀ (j : Nat) t v, Try.f6.params[j]? = some t → args[j]? = some v → Value.okWide Try.prog W .any base t v := hval0
  have hW' := hW
  obtain ⟨p, q, hA0, hV, rfl, hfz, hnd⟩ := hW
  have hA : DataW.TrodAll enc Try.prog W 0 (fun _ => true) true Try.f6.params.toList args.toList ds p := hA0
  rw [Try.params6] at hA hval
  obtain ⟨v0, vs0, d0, ds0, p0, q0, hargs, rfl, rfl, h0, r0⟩ := trodAll_cons hA
  obtain ⟨v1, vs1, d1, ds1, p1, q1, rfl, rfl, rfl, h1, r1⟩ := trodAll_cons r0
  obtain ⟨rfl, rfl, rfl⟩ := trodAll_nil r1
  obtain rfl : args = #[v0, v1] := by cases args; simp_all
  obtain ⟨rfl, rfl⟩ := trodVars_none hV
  have lt0 : ∀ x ∈ p0, x.block < W.heap.size := by obtain ⟨m, hm⟩ := h0; exact DataW.trod_lt m _ _ _ hm
  obtain ⟨a0, len0, cap0, rfl⟩ := okWide_slice Try.underlying41 (hval 0 41 v0 rfl rfl)
  obtain ⟨l0, w0, e0, c0⟩ := ops_open h0
  have lt1 : ∀ x ∈ p1, x.block < W.heap.size := by obtain ⟨m, hm⟩ := h1; exact DataW.trod_lt m _ _ _ hm
  obtain ⟨a1, len1, cap1, rfl⟩ := okWide_slice Try.underlying41 (hval 1 41 v1 rfl rfl)
  obtain ⟨l1, w1, e1, c1⟩ := ops_open h1
  clear hA0 hval0
  refine (walk a0 len0 cap0 l0 a1 len1 cap1 l1 W w0 e0 c0 w1 e1 c1).mono fun e W' ⟨he, bel⟩ => ?_
  subst he
  exact ⟨_, rfl, _, _, _, [], _, [], hW', trodAll_mk1 (shut_bool Try.underlying4 _), (trodAll_cons_mk (Below.trod laidOut (by kernel_rfl) (of_decide_eq_true (by kernel_rfl)) h0 bel lt0) (trodAll_cons_mk (Below.trod laidOut (by kernel_rfl) (of_decide_eq_true (by kernel_rfl)) h1 bel lt1) trodAll_mk0)), rfl, bel.frame _, fun h => by cases h⟩

theorem over : Rows.slabKeepsRow.holds Try.pinned (OpenSpec.ofChange Rows.slabKeepsSpec) :=
  OpenClaim.holds_of_wide 6 Try.f6 rfl rfl rfl rfl rfl rfl rfl ⟨rfl, rfl, rfl, rfl, rfl⟩ rfl rfl rfl rfl rfl (by kernel_rfl) Try.func6 (by kernel_rfl)
    (of_decide_eq_true (by kernel_rfl)) (by unfold Func.isWrapper; first | (rw [if_pos (by decide +kernel)]; kernel_rfl) | (rw [if_neg (by decide +kernel)]; exact ⟨rfl, rfl⟩))
    (fun os started H enc _ => lifted os started H enc)

end Go.Proofs.Ytclfklpekkkkfaa.slabKeeps
namespace Go.Proofs.Ytclfklpekkkkfaa
theorem slabKeeps_proved : Rows.SlabKeepsSaid := slabKeeps.over
#print axioms slabKeeps_proved
end Go.Proofs.Ytclfklpekkkkfaa
