/-
  WALKS: Save, on a deal with a crown: too large a map, no room, and a map that is saved. Condition: a deal on a calm slab; a file's card.
-/
import Derived.Test.YtgdlfiejjnjcpaaGreatHI
set_option linter.unusedVariables false
set_option linter.unusedSimpArgs false
set_option maxRecDepth 100000
set_option maxHeartbeats 8000000
namespace Go.Proofs.YtgdlfiejjnjcpaaGreat.Dl
open Go.RowKit
open Mk
open Sl (Turns)
open Kr (crv rightK kf kb kc KBox cells3 I64 inB)

theorem put9_turns (W : World) (r : Nat) (c : Cd) (A : Option Addr) (n k : Nat) (A' : Option Addr) (n' k' : Nat) : Turns [r] W (put9 W r c A n k A' n' k') := by
  unfold put9
  have s : ∀ (W : World) (j : Nat) (u : Value), Turns [r] W (W.setCell ⟨r, j, none⟩ u) := fun W j u => Turns.setCell W (by simp) u
  exact ((((((((s _ _ _).trans (s _ _ _)).trans (s _ _ _)).trans (s _ _ _)).trans (s _ _ _)).trans (s _ _ _)).trans (s _ _ _)).trans (s _ _ _)).trans (s _ _ _)
/-- a slice of ints in a box of F. -/
theorem kps_take {E : Bxs} {g ln il : Nat} {l : List Sp} (h : KpS E (some ⟨g, 0, none⟩) ln l) (hl : l.length = ln) (hi : min ln 3 = il) : KpS E (some ⟨g, 0, none⟩) il (l.take 3) := fun W hW => by
  have h1 := SpsAt.take (h W hW) il (by omega)
  have e : l.take il = l.take 3 := by
    rcases Nat.lt_or_ge 3 ln with h | h
    · rw [show il = 3 by omega]
    · rw [List.take_of_length_le (by omega), List.take_of_length_le (by omega)]
  rwa [e] at h1
theorem drop_nil {ms : List Int} (h : ms.length ≤ 120) : ms.drop 120 = [] := List.drop_of_length_le h
theorem min_drop {w : World} {B b o n : Nat} {ms : List Int} (h : IntsAt w B (some ⟨b, o, none⟩) n ms) : IntsAt w B (some ⟨b, o + min n 120, none⟩) (n - min n 120) (ms.drop 120) := by
  rcases Nat.lt_or_ge 120 n with hn | hn
  · rw [Nat.min_eq_right (by omega)]
    exact Lg.IntsAt.drop h 120 (by omega)
  · rw [Nat.min_eq_left hn, Nat.sub_self, drop_nil (by rw [h.len]; exact hn)]
    exact Lg.IntsAt.nil _ _ _
section
variable {w0 w : World} {B d q p pd pm k c : Nat} {F : Bxs} {N : Nat} {D V : List ByteArray} {b : Nat} {m : ByteArray}
theorem save_large (h : Dk w0 w B d q p pd pm k c F N D V) (hc : Crd V b m) {Bc : Nat} {x : Cd} {A : Option Addr} {kn kp : Nat} {zs L : List Int} (hf : TwoAt w Bc V b m x A kn kp zs L) (A2 : Option Addr) (hA2 : A2 = none ∨ ∃ b o, A2 = some ⟨b, o, none⟩) (n cp B2 : Nat) (ms : List Int) (hm : IntsAt w B2 A2 n ms) (hB2 : B2 ≤ w.heap.size) (hn : n ≤ 1000) (hcp : n ≤ cp) (hs : smB ms = false) :
    Calls Tryz.prog 13 #[.pointer (some ⟨d, 0, none⟩), cdv x none 0 0 A kn kp, .slice A2 n cp] w fun e w' => e = .returned (.tuple #[cdv zeroC none 0 0 none 0 0, .int .i64 12]) ∧ Below w.heap.size w w' := by
  have hn0 : n ≠ 0 := fun e => by
    have : ms = [] := List.eq_nil_of_length_eq_zero (by rw [hm.len, e])
    subst this
    cases hs
  obtain ⟨bz, oz, rfl⟩ : ∃ b o, A2 = some ⟨b, o, none⟩ := by
    rcases hA2 with e | e
    · subst e; obtain ⟨_, _, e, _⟩ := hm.at_ (k := 0) (by omega); cases e
    · exact e
  obtain ⟨mn, hmn⟩ : ∃ mn, min n 120 = mn := ⟨_, rfl⟩
  have hd := min_drop hm
  rw [hmn] at hd
  have hmn2 : min (n : Int) 120 = (mn : Int) := by omega
  have hmn3 : mn ≤ n := by omega
  have HCS := Lib.hid (fun W (hW : Below w.heap.size w W) => csome_any (some ⟨bz, oz + mn, none⟩) (n - mn) (cp - mn) B2 (ms.drop 120) W (hd.below hW hB2) (by omega))
  rw [show zeroB (ms.drop 120) = false from hs] at HCS
  have HB1 : Below w.heap.size w (w.alloc (.cells (cells9 x none 0 0 A kn kp) 30)) := (Below.refl _ _).alloc (Nat.le_refl _) _
  have HB2 := Lib.hid (HB1.alloc HB1.size (.cells (cells9 zeroC none 0 0 none 0 0) 30))
  have HC2 : Hid (CdRow ((w.alloc (.cells (cells9 x none 0 0 A kn kp) 30)).alloc (.cells (cells9 zeroC none 0 0 none 0 0) 30)) w.heap.size x none 0 0 A kn kp) := (CdRow.new w x none 0 0 A kn kp).below ((Below.refl (w.alloc (.cells (cells9 x none 0 0 A kn kp) 30)).heap.size _).alloc (Nat.le_refl _) _) (by simp)
  have HR2 : Hid (CdRow ((w.alloc (.cells (cells9 x none 0 0 A kn kp) 30)).alloc (.cells (cells9 zeroC none 0 0 none 0 0) 30)) (w.heap.size + 1) zeroC none 0 0 none 0 0) := by
    have h1 := CdRow.new (w.alloc (.cells (cells9 x none 0 0 A kn kp) 30)) zeroC none 0 0 none 0 0
    rwa [show (w.alloc (.cells (cells9 x none 0 0 A kn kp) 30)).heap.size = w.heap.size + 1 by simp] at h1
  have HLS := Lib.hid (fun W (hW : Below w.heap.size w W) => lists_of (h.below hW) hc (hf.below hW))
  have q1 : (mn : Int) ≤ (n : Int) := by omega
  have q2 : (n : Int) ≤ (cp : Int) := by omega
  have q3 : ¬ cp = mn := by
    have : ¬ n ≤ 120 := fun h => by
      have e : smB ms = true := by unfold smB; rw [drop_nil (by rw [hm.len]; exact h)]; rfl
      rw [hs] at e; cases e
    omega
  clear h hc hf hm hs HB1 hB2 hd hmn hA2
  unfold cells9 zeroC at HB2 HC2 HR2
  simp only at HB2 HC2 HR2
  go_enter Tryz.func13, Tryz.ntmps13
  go_upto_region 1 with fail
  generalize hW2 : (w.alloc _).alloc _ = W2 at *
  clear hW2
  obtain ⟨e0, e1, e2, e3, e4, e5, e6, e7, e8⟩ := HC2.out.cells
  go_wp2_with (first
    | (go_at_call 17; refine (HLS.out W2 HB2.out).mono ?_; rintro e w3 ⟨v3, rfl, ow3, b3⟩
       have HB3 := Lib.hid (HB2.out.trans (b3.mono HB2.out.size))
       have HR3 := Lib.hid (HR2.out.below b3 HR2.out.lt)
       have HC3 := Lib.hid (HC2.out.below b3 HC2.out.lt)
       have HL3 := Lib.hid ow3
       have HS3 : Hid (w.heap.size + 2 ≤ W2.heap.size ∧ W2.heap.size ≤ w3.heap.size) := ⟨by have := HR2.out.lt; omega, b3.size⟩
       obtain ⟨A3, c3, rfl, -⟩ := Lg.own_slice ow3
       obtain ⟨r0, r1, r2, r3, r4, r5, r6, r7, r8⟩ := HR3.out.cells
       have zr := HR3.out.fz
       clear b3 ow3 e0 e1 e2 e3 e4 e5 e6 e7 e8)
    | (go_at_call 33; refine (HCS.out w3 HB3.out).mono ?_; rintro e w4 ⟨rfl, rfl⟩))
  clear r0 r1 r2 r3 r4 r5 r6 r7 r8 zr
  have HR8 : Hid (CdRow (put9 w3 (w.heap.size + 1) zeroC none 0 0 none 0 0) (w.heap.size + 1) zeroC none 0 0 none 0 0) := put9_row HR3.out
  have HB8 : Hid (Below w.heap.size w (put9 w3 (w.heap.size + 1) zeroC none 0 0 none 0 0)) := put9_below HB3.out (by omega)
  unfold put9 zeroC at HR8 HB8
  simp only at HR8 HB8
  generalize World.setCell _ ⟨w.heap.size + 1, 8, none⟩ _ = wz at *
  obtain ⟨r0, r1, r2, r3, r4, r5, r6, r7, r8⟩ := HR8.out.cells
  refine bodyPost_ret (v := .tuple #[cdv zeroC none 0 0 none 0 0, .int .i64 12]) (by simp [results, Tryz.results13, go_sem, r0, r1, r2, r3, r4, r5, r6, r7, r8, zeroC]) rfl ?_
  exact ⟨rfl, HB8.out⟩
theorem save_ok (h : Dk w0 w B d q p pd pm k c F N D V) (hc : Crd V b m) {Bc : Nat} {x : Cd} {A : Option Addr} {kn kp : Nat} {zs L : List Int} (hf : TwoAt w Bc V b m x A kn kp zs L) (A2 : Option Addr) (hA2 : A2 = none ∨ ∃ b o, A2 = some ⟨b, o, none⟩) (n cp B2 : Nat) (ms : List Int) (hm : IntsAt w B2 A2 n ms) (hB2 : B2 ≤ w.heap.size) (hn : n ≤ 1000) (hcp : n ≤ cp) (hs : smB ms = true) (hp : ptsOk b ms = true) (hr : need ms ≤ fcn m b + L.length) :
    Calls Tryz.prog 13 #[.pointer (some ⟨d, 0, none⟩), cdv x none 0 0 A kn kp, .slice A2 n cp] w fun e w' => ∃ AL il cl E6, e = .returned (.tuple #[cdv { x with rs := (ofR ms).take 3, ov := svO V L ms } none 0 0 AL il cl, .int .i64 0]) ∧ Dk w0 w' B d q p pd pm k c (E6 ++ F) N D (svV V L ms) ∧ KpS E6 AL il ((ofR ms).take 3) ∧ (∀ y ∈ E6, w.heap.size ≤ y.1 ∧ y.2.2 = 85) ∧ il ≤ cl := by
  have HB1 : Below w.heap.size w (w.alloc (.cells (cells9 x none 0 0 A kn kp) 30)) := (Below.refl _ _).alloc (Nat.le_refl _) _
  have HB2 := Lib.hid (HB1.alloc HB1.size (.cells (cells9 zeroC none 0 0 none 0 0) 30))
  have HC2 : Hid (CdRow ((w.alloc (.cells (cells9 x none 0 0 A kn kp) 30)).alloc (.cells (cells9 zeroC none 0 0 none 0 0) 30)) w.heap.size x none 0 0 A kn kp) := (CdRow.new w x none 0 0 A kn kp).below ((Below.refl (w.alloc (.cells (cells9 x none 0 0 A kn kp) 30)).heap.size _).alloc (Nat.le_refl _) _) (by simp)
  have HR2 : Hid (CdRow ((w.alloc (.cells (cells9 x none 0 0 A kn kp) 30)).alloc (.cells (cells9 zeroC none 0 0 none 0 0) 30)) (w.heap.size + 1) zeroC none 0 0 none 0 0) := by
    have h1 := CdRow.new (w.alloc (.cells (cells9 x none 0 0 A kn kp) 30)) zeroC none 0 0 none 0 0
    rwa [show (w.alloc (.cells (cells9 x none 0 0 A kn kp) 30)).heap.size = w.heap.size + 1 by simp] at h1
  have HLS := Lib.hid (fun W (hW : Below w.heap.size w W) => lists_of (h.below hW) hc (hf.below hW))
  have hk : rightK (crF V) (b : Int) (crC V) = true := by have := (cr_b hc.ok).1; rwa [hc.cb] at this
  have HCR := Lib.hid (fun W (hW : Below w.heap.size w W) => crown_dk (h.below hW) hc)
  have HAB := Lib.hid (fun W (hW : Below w.heap.size w W) => areblocks_any (crF V) b (crC V) A2 n cp B2 ms W hk (hm.below hW hB2) (Nat.le_trans hB2 hW.size) hn)
  rw [hp] at HAB
  have HOF := Lib.hid (fun W (hW : Below w.heap.size w W) => Go.Proofs.YtgdlfiejjnjcpaaGreat.of_any A2 n cp B2 ms W (hm.below hW hB2) (Nat.le_trans hB2 hW.size) hcp (by omega))
  unfold RetSpsO at HOF
  have hrt : rightS b (ofR ms) = true := of_right hf.b2 hp hs (by rw [hm.len]; omega)
  have HLN : Hid ((ofR ms).length ≤ 120) := rightS_len hrt
  have HN6 : Hid (need ms ≤ 6) := need_le hrt
  have HLL : Hid (L.length ≤ 6) := by show _ ≤ _; rw [hf.fl.ln]; exact need_le hf.right
  have HNE : Hid (need ms = ((ofR ms).length - 3 + 19) / 20) := rfl
  have HUS : Hid (∀ y ∈ L, 51 ≤ y ∧ y < 400) := fun y hy => by have := hf.fl.us y hy; have := hf.b2; omega
  have HCN := Lib.hid (fun W (hW : Below w.heap.size w W) A n cp Bl hA hBl hn => canrep_any (h.below hW) hc A n cp Bl L (need ms) hA hBl hn (by have := need_le hrt; omega) hf.fl.us)
  have HA2 := Lib.hid hA2
  have HNIL : Hid (A2 = none → n = 0) := fun e => by
    rcases Nat.eq_zero_or_pos n with h0 | h0
    · exact h0
    · subst e; obtain ⟨_, _, e, _⟩ := hm.at_ (k := 0) h0; cases e
  have HM : Hid (∀ W, Below w.heap.size w W → IntsAt W B2 A2 n ms) := fun W hW => hm.below hW hB2
  have HSM := Lib.hid hs
  have HRM : Hid ((if fcn m b + L.length < need ms then (10 : Int) else 0) = 0) := if_neg (by omega)
  have HDK := Lib.hid (fun W (hW : Below w.heap.size w W) => h.below hW)
  have HFX : Hid (∀ y ∈ F, y.1 < w.heap.size) := fun y hy => h.fx.lt hy
  have HBB : Hid (B ≤ w.heap.size) := h.hBs
  have HTQ : Hid ((∀ z ∈ (svT V L ms).2, Fit z) ∧ ∀ t, t < need ms → (blockB (chk ((ofR ms).drop 3) t) ((svT V L ms).2.getD (t + 1) 0)).size ≤ 9223372036854775807) := by
    obtain ⟨m1, dd⟩ := dp_all hc hf.fl.asc hf.fl.us L.length (Nat.le_refl _)
    have hd := dd.cnt
    rw [List.take_length] at hd
    obtain ⟨m', top, tt⟩ := takes_all dd.cr (need ms) (by omega)
    have hsp : ∀ s ∈ (ofR ms).drop 3, spU s := fun s hm => rightS_u hrt s (List.mem_of_mem_drop hm)
    have hb4 := hf.b2
    exact ⟨fun z hz => by have := tt.lt z hz; unfold Fit; omega, fun t ht => by rw [show (svT V L ms).2 = (tkT (dpT V L L.length) (need ms)).2 from rfl, (chk_block tt hsp t).2.2.2]; decide⟩
  clear h hc hf hm hs hp HB1 hB2 hA2 hk hr
  unfold crv at HCR HAB
  generalize crF V = f at *
  generalize crC V = u at *
  unfold cells9 zeroC at HB2 HC2 HR2
  simp only at HB2 HC2 HR2
  go_enter Tryz.func13, Tryz.ntmps13
  go_upto_region 1 with fail
  generalize hW2 : (w.alloc _).alloc _ = W2 at *
  clear hW2
  obtain ⟨e0, e1, e2, e3, e4, e5, e6, e7, e8⟩ := HC2.out.cells
  go_upto_region 4 with (first
    | (go_at_call 17; refine (HLS.out W2 HB2.out).mono ?_; rintro e w3 ⟨v3, rfl, ow3, b3⟩
       have HB3 := Lib.hid (HB2.out.trans (b3.mono HB2.out.size))
       have HR3 := Lib.hid (HR2.out.below b3 HR2.out.lt)
       have HC3 := Lib.hid (HC2.out.below b3 HC2.out.lt)
       have HL3 := Lib.hid ow3
       have HS3 : Hid (w.heap.size + 2 ≤ W2.heap.size ∧ W2.heap.size ≤ w3.heap.size) := ⟨by have := HR2.out.lt; omega, b3.size⟩
       obtain ⟨A3, c3, rfl, -⟩ := Lg.own_slice ow3
       obtain ⟨r0, r1, r2, r3, r4, r5, r6, r7, r8⟩ := HR3.out.cells
       have zr := HR3.out.fz
       clear b3 ow3 e0 e1 e2 e3 e4 e5 e6 e7 e8))
  go_cut [33] from 28 to 83 (fun vc wx => vc = .bool false ∧ wx = w3)
  case first =>
    rcases HA2.out with rfl | ⟨bz, oz, rfl⟩
    · have hn0 := HNIL.out rfl
      subst hn0
      have HCS : Hid (∀ cc W, Calls Tryz.prog 33 #[.slice none 0 cc, .func (.func 34) #[] #[]] W fun e w' => e = .returned (.bool (!zeroB [])) ∧ W = w') := fun cc W => csome_any none 0 cc 0 [] W (Lg.IntsAt.nil _ _ _) (by omega)
      rw [show zeroB [] = true from by decide] at HCS
      go_wp2_with (go_at_call 33; refine (HCS.out _ w3).mono ?_; rintro e w4 ⟨rfl, rfl⟩)
      go_meet
      case rel => exact ⟨rfl, rfl⟩
    · have hd := min_drop (HM.out w3 HB3.out)
      obtain ⟨mn, hmn⟩ : ∃ mn, min n 120 = mn := ⟨_, rfl⟩
      rw [hmn] at hd
      have hmn2 : min (n : Int) 120 = (mn : Int) := by omega
      have hmn3 : mn ≤ n := by omega
      have q1 : (mn : Int) ≤ (n : Int) := by omega
      have q2 : (n : Int) ≤ (cp : Int) := by omega
      by_cases hcm : mn = cp
      · have hnm : n - mn = 0 := by omega
        have HCS := Lib.hid (csome_any (some ⟨bz, oz, none⟩) 0 0 0 [] w3 (Lg.IntsAt.nil _ _ _) (by omega))
        rw [show zeroB [] = true from by decide] at HCS
        clear hd hmn
        go_wp2_with (go_at_call 33; refine HCS.out.mono ?_; rintro e w4 ⟨rfl, rfl⟩)
        go_meet
        case rel => exact ⟨rfl, rfl⟩
      · have hcm2 : ¬ cp = mn := fun e => hcm e.symm
        have HCS := Lib.hid (csome_any (some ⟨bz, oz + mn, none⟩) (n - mn) (cp - mn) B2 (ms.drop 120) w3 hd (by omega))
        rw [show zeroB (ms.drop 120) = true from HSM.out] at HCS
        clear hd hmn
        go_wp2_with (go_at_call 33; refine HCS.out.mono ?_; rintro e w4 ⟨rfl, rfl⟩)
        go_meet
        case rel => exact ⟨rfl, rfl⟩
  case rest =>
    obtain ⟨rfl, rfl⟩ := hcut
    obtain ⟨E3, f3, g3, h3⟩ := own_frE HL3.out (by decide)
    have HI3 : Hid (∀ W, Bxs.fit E3 W → IntsAt W W.heap.size A3 L.length L) := fun W hW => IntsAt.of_own (h3 W hW) rfl (fun z hz => by have := HUS.out z hz; unfold Fit; omega)
    have HF3 := Lib.hid f3
    have HG3 := Lib.hid g3
    clear f3 g3 h3 HL3
    go_upto_region 10 with (first
      | (go_at_call 35; refine (HCR.out _ HB3.out).mono ?_; rintro e w4 ⟨rfl, b4⟩
         have hal := (Below.refl w4.heap.size w4).alloc (Nat.le_refl _) (.cells #[.int .i64 f, .int .i64 b, .int .i64 u] 62)
         have HX4 := Lib.hid (b4.trans (hal.mono b4.size))
         have HB4 := Lib.hid (HB3.out.trans (HX4.out.mono HB3.out.size))
         obtain ⟨y0, y1', y2'⟩ := (KBox.new3 w4 f b u).row
         clear b4 hal)
      | (go_at_call 36; refine (HAB.out _ HB4.out).mono ?_; rintro e w5 ⟨rfl, b5⟩
         have HX5 := Lib.hid (HX4.out.trans (b5.mono HX4.out.size))
         have HB5 := Lib.hid (HB4.out.trans (b5.mono HB4.out.size))
         clear b5 y0 y1' y2')
      | (go_at_call 37; refine (HOF.out _ HB5.out).mono ?_; rintro e w6 ⟨v6, rfl, ow6, hsm6, b6⟩
         have HX6 := Lib.hid (HX5.out.trans (b6.mono HX5.out.size))
         have HB6 := Lib.hid (HB5.out.trans (b6.mono HB5.out.size))
         have HR6 := Lib.hid (HR3.out.below HX6.out HR3.out.lt)
         have HC6 := Lib.hid (HC3.out.below HX6.out HC3.out.lt)
         have HO6 := Lib.hid ow6
         have HSM6 := Lib.hid hsm6
         have HS6 := Lib.hid HX5.out.size
         have HS65 := Lib.hid b6.size
         clear b6 ow6 hsm6 HX4 HX5 HB4 HB5 HB3 HR3 HC3))
    have HF6 := Lib.hid ((HF3.out.below HX6.out))
    clear r0 r1 r2 r3 r4 r5 r6 r7 r8 zr HF3 HX6
    obtain ⟨E6, f6, g6, h6⟩ := own_frE HO6.out (by decide)
    have HFE := Lib.hid f6
    have HGE := Lib.hid g6
    obtain ⟨ln, hln⟩ : ∃ ln, (ofR ms).length = ln := ⟨_, rfl⟩
    have hl120 := HLN.out
    rw [hln] at hl120
    rcases sps_form HO6.out with ⟨rfl, hnil⟩ | ⟨gl, cl, rfl, hcl, hgl⟩
    · -- no span
      have HK6 : Hid (KpS E6 none 0 (ofR ms)) := fun W hW => by rw [hnil]; exact SpsAt.nil _ _ _
      have hn0 : need ms = 0 := by rw [HNE.out, hnil]; rfl
      have HNIL6 := Lib.hid hnil
      have HN0 := Lib.hid hn0
      clear h6 f6 g6 hnil hn0 hln hl120 HO6
      have e3 : min (0 : Int) 3 = 0 := by omega
      go_upto_region 11 with fail
      go_cut [14] from 50 to 83 (fun v wx => ∃ E7 A7 c7, v = .slice A7 (need ms) c7 ∧ Hid (Bxs.fit E7 wx) ∧ Hid (∀ x ∈ E7, w6.heap.size ≤ x.1 ∧ x.2.2 = 28) ∧ Hid (GrpsF (E7 ++ E6) (.slice A7 (need ms) c7) (need ms) ((ofR ms).drop 3)) ∧ Hid (Below w6.heap.size w6 wx))
      case first =>
        have HBA : Hid (Below w6.heap.size w6 ((w6.alloc (.cells #[.slice none 0 0] 28)).alloc (.cells #[.int .i64 20] 3))) := ((Below.refl w6.heap.size w6).alloc (Nat.le_refl _) _).alloc (by simp) _
        have hb1 : Boxed ((w6.alloc (.cells #[.slice none 0 0] 28)).alloc (.cells #[.int .i64 20] 3)) w6.heap.size 28 (.slice none 0 0) := (Boxed.new w6 28 _).alloc _
        have hb2 : Boxed ((w6.alloc (.cells #[.slice none 0 0] 28)).alloc (.cells #[.int .i64 20] 3)) (w6.heap.size + 1) 3 (.int .i64 20) := by
          have := Boxed.new (w6.alloc (.cells #[.slice none 0 0] 28)) 3 (.int .i64 20)
          rwa [show (w6.alloc (.cells #[.slice none 0 0] 28)).heap.size = w6.heap.size + 1 by simp] at this
        have HCL := Lib.hid (Cs.collect_zero w6.heap.size (w6.heap.size + 1) none 0 _ hb1 hb2)
        unfold Cs.RetVals at HCL
        clear hb1 hb2
        go_wp2_with (first
          | (go_at_call 39; refine (Cs.chunk_any _ _ _ _).mono ?_; rintro e w7 ⟨rfl, rfl⟩)
          | (go_at_call 38; refine HCL.out.mono ?_; rintro e w8 ⟨v8, rfl, o8, b8⟩))
        have hb8 := HBA.out.trans (b8.mono HBA.out.size)
        obtain ⟨E7, f7, g7, h7⟩ := own_frE o8 (by decide)
        obtain ⟨A7, c7, rfl, -⟩ := own_sliceE o8
        go_meet
        case rel =>
          rw [HN0.out]
          exact ⟨E7, A7, c7, rfl, f7, fun x hx => ⟨Nat.le_trans HBA.out.size (g7 x hx).1, (g7 x hx).2⟩, grps_nil _ _ _ _, hb8⟩

      case rest =>
        obtain ⟨E7, A7, c7, rfl, HF7, HG7, HGR, HX7⟩ := hcut
        have HB7 := Lib.hid (HB6.out.trans (HX7.out.mono HB6.out.size))
        have HR7 := Lib.hid (HR6.out.below HX7.out HR6.out.lt)
        have HC7 := Lib.hid (HC6.out.below HX7.out HC6.out.lt)
        have HF37 := Lib.hid (HF6.out.below HX7.out)
        have HF67 := Lib.hid (HFE.out.below HX7.out)
        have HCR7 := Lib.hid (HCN.out wc HB7.out A3 L.length c3 wc.heap.size (HI3.out wc HF37.out) (Nat.le_refl _) (by have := HLL.out; omega))
        simp only [HRM.out] at HCR7
        go_upto_region 15 with (go_at_call 40; refine HCR7.out.mono ?_; rintro e w8 ⟨rfl, b8⟩
                                have HB8 := Lib.hid (HB7.out.trans (b8.mono HB7.out.size))
                                have HR8 := Lib.hid (HR7.out.below b8 HR7.out.lt)
                                have HC8 := Lib.hid (HC7.out.below b8 HC7.out.lt)
                                have HF38 := Lib.hid (HF37.out.below b8)
                                have HF68 := Lib.hid (HF67.out.below b8)
                                have HF78 := Lib.hid (HF7.out.below b8)
                                clear b8)
        clear HCR7 HCN HCR HAB HOF HLS
        have hz1 := HS3.out
        have hz2 := HS6.out
        have hz3 := HS65.out
        obtain ⟨R, hRf, hRn, hM1, hM2, hM3⟩ : ∃ R : Bxs, Bxs.fit R w8 ∧ (∀ y ∈ R, y.1 ≠ w.heap.size) ∧ (w.heap.size + 1, cells9 zeroC none 0 0 none 0 0, (30 : TypeId)) ∈ R ∧ (∀ y ∈ E3, y ∈ R) ∧ ∀ y, y ∈ E7 ∨ y ∈ E6 ∨ y ∈ F → y ∈ R := by
          refine ⟨[(w.heap.size + 1, cells9 zeroC none 0 0 none 0 0, (30 : TypeId))] ++ (E3 ++ (E7 ++ (E6 ++ F))), (Bxs.one HR8.out (by decide)).app (HF38.out.app (HF78.out.app (HF68.out.app (HDK.out w8 HB8.out).fx))), fun y hy => ?_, by simp, fun y hy => by simp [hy], fun y hy => ?_⟩
          · simp only [List.mem_append, List.mem_singleton] at hy
            rcases hy with rfl | hy | hy | hy | hy
            · show w.heap.size + 1 ≠ _; omega
            · have := (HG3.out y hy).1; omega
            · have := (HG7.out y hy).1; omega
            · have := (HGE.out y hy).1; omega
            · have := HFX.out y hy; omega
          · simp only [List.mem_append]
            rcases hy with hy | hy | hy
            · exact .inr (.inr (.inl hy))
            · exact .inr (.inr (.inr (.inl hy)))
            · exact .inr (.inr (.inr (.inr hy)))
        have HRN := Lib.hid hRn
        have HM1 := Lib.hid hM1
        have HM2 := Lib.hid hM2
        have HM3 := Lib.hid hM3
        have HGE2 : Hid (∀ y ∈ E6, w.heap.size ≤ y.1 ∧ y.1 ≠ w.heap.size + 1 ∧ y.2.2 = 85) := fun y hy => ⟨by have := (HGE.out y hy).1; omega, by have := (HGE.out y hy).1; omega, (HGE.out y hy).2⟩
        have HD0 : Hid (Dk w0 w8 B d q p pd pm k c ((w.heap.size, cells9 x none 0 0 A kn kp, 30) :: R) N D (dpT V L 0)) := by
          show Dk _ _ _ _ _ _ _ _ _ _ _ _ _ _
          exact ((HDK.out w8 HB8.out).with hRf).add (show w8.heap[w.heap.size]? = _ from HC8.out) (by decide)
        have HLG : Hid (∀ W, Bxs.fit R W → IntsAt W W.heap.size A3 L.length L) := fun W hW => HI3.out W (hW.sub fun y hy => HM2.out y hy)
        have HI64 : Hid (∀ t, t < L.length → I64 (L.getD t 0)) := fun t ht => by
          have := HUS.out (L.getD t 0) (by rw [show L.getD t 0 = L[t] by simp [List.getD, List.getElem?_eq_getElem ht]]; exact List.getElem_mem _)
          unfold I64; omega
        have HDV : Hid (∀ t, dpV (dpT V L t) (L.getD t 0) = dpT V L (t + 1)) := fun t => rfl
        clear hRf hRn hM1 hM2 hM3 hz1 hz2 hz3 HF38 HF78 HF68 HC8 HR8 HC7 HR7 HF7 HF37 HF67 HI3 HG3 HG7 HGE HDK HX7 HB7 HB8
        go_wp2
        go_loopw [17, 66] (fun _ i wr => ∃ t : Nat, t ≤ L.length ∧ i = .int .i64 (t : Int) ∧ Hid (Dk w0 wr B d q p pd pm k c ((w.heap.size, cells9 x none 0 0 A kn kp, 30) :: R) N D (dpT V L t))) (fun _ i _ => L.length - (intOf i).toNat)
        case atStart => exact ⟨0, by omega, rfl, HD0.out⟩
        case round =>
          obtain ⟨t, ht, rfl, hd⟩ := hrel
          by_cases hlt : t < L.length
          · have hlt2 : (t : Int) < (L.length : Int) := by omega
            have hll := HLL.out
            obtain ⟨bb, o, rfl, hbB, h1⟩ := (HLG.out wr hd.out.drop.fx).at_ hlt
            have HDR := Lib.hid (drop_dk (L.getD t 0) hd.out (HI64.out t hlt))
            rw [HDV.out t] at HDR
            generalize L.getD t 0 = z at *
            generalize dpE (dpT V L t) z = zz at *
            clear hd
            go_wp2_with (go_at_call 41; refine HDR.out.mono ?_; rintro e w11 ⟨rfl, d11⟩; have HD11 := Lib.hid d11; clear d11)
            go_roundw
            case rel => exact ⟨t + 1, by omega, by go_num, HD11.out⟩
            case measure => simp [intOf]; omega
          · obtain rfl : t = L.length := by omega
            have hlt2 : ¬ (L.length : Int) < (L.length : Int) := by omega
            have HSTO := Lib.hid (fun W cs (hW : Dk w0 W B d q p pd pm k c ((w.heap.size, cs, 30) :: R) N D (dpT V L L.length)) => store_any hW (need ms) ((ofR ms).drop 3) (.slice A7 (need ms) c7) (by
              obtain ⟨A', c', e, hG⟩ := HGR.out
              refine ⟨A', c', e, fun W' hW' => hG W' (hW'.sub fun y hy => ?_)⟩
              rcases List.mem_append.1 hy with hy | hy
              · exact List.mem_cons_of_mem _ (HM3.out y (.inl hy))
              · exact List.mem_cons_of_mem _ (HM3.out y (.inr (.inl hy)))) (by have := HN6.out; omega) HTQ.out.1 HTQ.out.2)
            have HDA := Lib.hid (hd.out.setH HBB.out HRN.out 7 (.slice none 0 0))
            have HCW : Hid (CdRow wr w.heap.size x none 0 0 A kn kp) := hd.out.box
            have HSA := Lib.hid (HSTO.out _ _ HDA.out)
            have HVV : Hid ((tkT (dpT V L L.length) (need ms)).2.getD 0 0 = svO V L ms ∧ wtT (tkT (dpT V L L.length) (need ms)).1 (tkT (dpT V L L.length) (need ms)).2 ((ofR ms).drop 3) (need ms) = svV V L ms) := ⟨rfl, rfl⟩
            rw [HVV.out.1, HVV.out.2] at HSA
            obtain ⟨e0, e1, e2, e3, e4, e5, e6, e7, e8⟩ := HCW.out.cells
            have zc := HCW.out.fz
            have hn6 := HN6.out
            clear hd HSTO HLG HI64 HDV HD0 HCW HVV
            generalize need ms = nn at *
            go_wp2_with (go_at_call 42; refine HSA.out.mono ?_; rintro e w11 ⟨rfl, d11⟩
                         clear e0 e1 e2 e3 e4 e5 e6 e7 e8 zc
                         have HC11 : Hid (CdRow w11 w.heap.size { x with rs := (ofR ms).take 3 } none 0 0 none 0 0) := d11.box
                         have HDC := Lib.hid ((d11.setH HBB.out HRN.out 8 (.int .i64 (svO V L ms))).setH HBB.out HRN.out 4 (.slice none 0 0))
                         obtain ⟨e0, e1, e2, e3, e4, e5, e6, e7, e8⟩ := HC11.out.cells
                         have zc := HC11.out.fz
                         have HR9 : Hid (CdRow ((w11.setCell ⟨w.heap.size, 8, none⟩ (.int .i64 (svO V L ms))).setCell ⟨w.heap.size, 4, none⟩ (.slice none 0 0)) (w.heap.size + 1) zeroC none 0 0 none 0 0) := (HDC.out.drop.fx _ HM1.out).1
                         obtain ⟨r0, r1, r2, r3, r4, r5, r6, r7, r8⟩ := HR9.out.cells
                         have zr := HR9.out.fz
                         clear d11)
            clear e0 e1 e2 e3 e4 e5 e6 e7 e8 zc r0 r1 r2 r3 r4 r5 r6 r7 r8 zr
            have HR8 : Hid (CdRow (put9 ((w11.setCell ⟨w.heap.size, 8, none⟩ (.int .i64 (svO V L ms))).setCell ⟨w.heap.size, 4, none⟩ (.slice none 0 0)) (w.heap.size + 1) { x with rs := (ofR ms).take 3, ov := svO V L ms } none 0 0 none 0 0) (w.heap.size + 1) { x with rs := (ofR ms).take 3, ov := svO V L ms } none 0 0 none 0 0) := put9_row HR9.out
            have HTZ := Lib.hid (put9_turns ((w11.setCell ⟨w.heap.size, 8, none⟩ (.int .i64 (svO V L ms))).setCell ⟨w.heap.size, 4, none⟩ (.slice none 0 0)) (w.heap.size + 1) { x with rs := (ofR ms).take 3, ov := svO V L ms } none 0 0 none 0 0)
            have HDF : Hid (Dk w0 (put9 ((w11.setCell ⟨w.heap.size, 8, none⟩ (.int .i64 (svO V L ms))).setCell ⟨w.heap.size, 4, none⟩ (.slice none 0 0)) (w.heap.size + 1) { x with rs := (ofR ms).take 3, ov := svO V L ms } none 0 0 none 0 0) B d q p pd pm k c (E6 ++ F) N D (svV V L ms)) := by
              have h1 := HDC.out.with (E := E6 ++ F) (HDC.out.drop.fx.sub fun y hy => by
                rcases List.mem_append.1 hy with hy | hy
                · exact HM3.out y (.inr (.inl hy))
                · exact HM3.out y (.inr (.inr hy)))
              refine h1.turns HTZ.out fun j hj => ?_
              rw [List.mem_singleton] at hj
              subst hj
              refine ⟨Nat.le_trans HBB.out (Nat.le_succ _), ⟨_, 30, HR9.out, by decide, by decide⟩, fun y hy => ?_⟩
              rcases List.mem_append.1 hy with hy | hy
              · exact (HGE2.out y hy).2.1
              · have := HFX.out y hy; omega
            unfold put9 at HR8 HDF
            simp only at HR8 HDF
            generalize World.setCell _ ⟨w.heap.size + 1, 8, none⟩ _ = wz at *
            obtain ⟨r0, r1, r2, r3, r4, r5, r6, r7, r8⟩ := HR8.out.cells
            simp only at r0 r1 r2 r3 r4 r5 r6 r7 r8
            refine bodyPost_ret (v := .tuple #[cdv { x with rs := (ofR ms).take 3, ov := svO V L ms } none 0 0 none 0 0, .int .i64 0]) (by simp [results, Tryz.results13, go_sem, r0, r1, r2, r3, r4, r5, r6, r7, r8]) rfl ?_
            exact ⟨none, 0, 0, E6, rfl, HDF.out, (by rw [HNIL6.out]; exact fun W hW => SpsAt.nil _ _ _), fun y hy => ⟨(HGE2.out y hy).1, (HGE2.out y hy).2.2⟩, by omega⟩
    · have HK6 : Hid (KpS E6 (some ⟨gl, 0, none⟩) ln (ofR ms)) := fun W hW => by
        have := SpsAt.of_own (h6 W hW) rfl (fun s hs => small_fit (HSM6.out s hs))
        rwa [hln] at this
      rw [hln] at hcl ⊢
      have HLN2 := Lib.hid hln
      have HQ : Hid (need ms = (ln - 3 + 19) / 20) := by show _ = _; rw [HNE.out, hln]
      clear h6 f6 g6 hln hgl HO6
      obtain ⟨il, hil⟩ : ∃ il, min ln 3 = il := ⟨_, rfl⟩
      have e3 : min (ln : Int) 3 = (il : Int) := by omega
      have i1 : (0 : Int) ≤ (il : Int) := by omega
      have i2 : (il : Int) ≤ (ln : Int) := by omega
      have i3 : (ln : Int) ≤ (cl : Int) := by omega
      go_upto_region 11 with fail
      go_cut [14] from 50 to 83 (fun v wx => ∃ E7 A7 c7, v = .slice A7 (need ms) c7 ∧ Hid (Bxs.fit E7 wx) ∧ Hid (∀ x ∈ E7, w6.heap.size ≤ x.1 ∧ x.2.2 = 28) ∧ Hid (GrpsF (E7 ++ E6) (.slice A7 (need ms) c7) (need ms) ((ofR ms).drop 3)) ∧ Hid (Below w6.heap.size w6 wx))
      case first =>
        rcases Nat.lt_or_ge 3 ln with h3 | h3
        · obtain rfl : il = 3 := by omega
          have hci : ¬ cl = 3 := by omega
          have hm3 : ∀ k, k < need ms ↔ 20 * k < ln - 3 := fun k => by rw [HQ.out]; omega
          have HBA : Hid (Below w6.heap.size w6 ((w6.alloc (.cells #[.slice (some ⟨gl, 9, none⟩) (ln - 3) (cl - 3)] 28)).alloc (.cells #[.int .i64 20] 3))) := ((Below.refl w6.heap.size w6).alloc (Nat.le_refl _) _).alloc (by simp) _
          have hb1 : Boxed ((w6.alloc (.cells #[.slice (some ⟨gl, 9, none⟩) (ln - 3) (cl - 3)] 28)).alloc (.cells #[.int .i64 20] 3)) w6.heap.size 28 (.slice (some ⟨gl, 9, none⟩) (ln - 3) (cl - 3)) := (Boxed.new w6 28 _).alloc _
          have hb2 : Boxed ((w6.alloc (.cells #[.slice (some ⟨gl, 9, none⟩) (ln - 3) (cl - 3)] 28)).alloc (.cells #[.int .i64 20] 3)) (w6.heap.size + 1) 3 (.int .i64 20) := by
            have := Boxed.new (w6.alloc (.cells #[.slice (some ⟨gl, 9, none⟩) (ln - 3) (cl - 3)] 28)) 3 (.int .i64 20)
            rwa [show (w6.alloc (.cells #[.slice (some ⟨gl, 9, none⟩) (ln - 3) (cl - 3)] 28)).heap.size = w6.heap.size + 1 by simp] at this
          have HCL := Lib.hid (Cs.collect_any w6.heap.size (w6.heap.size + 1) gl 9 (need ms) (ln - 3) (cl - 3) (by omega) (by omega) hm3 _ hb1 hb2)
          unfold Cs.RetVals at HCL
          clear hb1 hb2
          go_wp2_with (first
            | (go_at_call 39; refine (Cs.chunk_any _ _ _ _).mono ?_; rintro e w7 ⟨rfl, rfl⟩)
            | (go_at_call 38; refine HCL.out.mono ?_; rintro e w8 ⟨v8, rfl, o8, b8⟩))
          have hb8 := HBA.out.trans (b8.mono HBA.out.size)
          obtain ⟨E7, f7, g7, h7⟩ := own_frE o8 (by decide)
          obtain ⟨A7, c7, rfl, -⟩ := own_sliceE o8
          go_meet
          case rel =>
            have hxl : ((List.finRange (need ms)).map (Cs.chunkVal gl 9 (ln - 3))).length = need ms := by simp
            rw [hxl] at h7
            exact ⟨E7, A7, c7, by simp, f7, fun x hx => ⟨Nat.le_trans HBA.out.size (g7 x hx).1, (g7 x hx).2⟩, grps_of HK6.out h7 HLN2.out rfl hm3, hb8⟩
        · have hm0 : ln - il = 0 := by omega
          have hn0 : need ms = 0 := by rw [HQ.out]; omega
          have HN0 := Lib.hid hn0
          by_cases hci : il = cl
          · subst hci
            have HBA : Hid (Below w6.heap.size w6 ((w6.alloc (.cells #[.slice (some ⟨gl, 0, none⟩) 0 0] 28)).alloc (.cells #[.int .i64 20] 3))) := ((Below.refl w6.heap.size w6).alloc (Nat.le_refl _) _).alloc (by simp) _
            have hb1 : Boxed ((w6.alloc (.cells #[.slice (some ⟨gl, 0, none⟩) 0 0] 28)).alloc (.cells #[.int .i64 20] 3)) w6.heap.size 28 (.slice (some ⟨gl, 0, none⟩) 0 0) := (Boxed.new w6 28 _).alloc _
            have hb2 : Boxed ((w6.alloc (.cells #[.slice (some ⟨gl, 0, none⟩) 0 0] 28)).alloc (.cells #[.int .i64 20] 3)) (w6.heap.size + 1) 3 (.int .i64 20) := by
              have := Boxed.new (w6.alloc (.cells #[.slice (some ⟨gl, 0, none⟩) 0 0] 28)) 3 (.int .i64 20)
              rwa [show (w6.alloc (.cells #[.slice (some ⟨gl, 0, none⟩) 0 0] 28)).heap.size = w6.heap.size + 1 by simp] at this
            have HCL := Lib.hid (Cs.collect_zero w6.heap.size (w6.heap.size + 1) (some ⟨gl, 0, none⟩) 0 _ hb1 hb2)
            unfold Cs.RetVals at HCL
            clear hb1 hb2
            go_wp2_with (first
              | (go_at_call 39; refine (Cs.chunk_any _ _ _ _).mono ?_; rintro e w7 ⟨rfl, rfl⟩)
              | (go_at_call 38; refine HCL.out.mono ?_; rintro e w8 ⟨v8, rfl, o8, b8⟩))
            have hb8 := HBA.out.trans (b8.mono HBA.out.size)
            obtain ⟨E7, f7, g7, h7⟩ := own_frE o8 (by decide)
            obtain ⟨A7, c7, rfl, -⟩ := own_sliceE o8
            go_meet
            case rel =>
              rw [HN0.out]
              exact ⟨E7, A7, c7, rfl, f7, fun x hx => ⟨Nat.le_trans HBA.out.size (g7 x hx).1, (g7 x hx).2⟩, grps_nil _ _ _ _, hb8⟩
          · have hci2 : ¬ cl = il := fun e => hci e.symm
            have HBA : Hid (Below w6.heap.size w6 ((w6.alloc (.cells #[.slice (some ⟨gl, il * 3, none⟩) 0 (cl - il)] 28)).alloc (.cells #[.int .i64 20] 3))) := ((Below.refl w6.heap.size w6).alloc (Nat.le_refl _) _).alloc (by simp) _
            have hb1 : Boxed ((w6.alloc (.cells #[.slice (some ⟨gl, il * 3, none⟩) 0 (cl - il)] 28)).alloc (.cells #[.int .i64 20] 3)) w6.heap.size 28 (.slice (some ⟨gl, il * 3, none⟩) 0 (cl - il)) := (Boxed.new w6 28 _).alloc _
            have hb2 : Boxed ((w6.alloc (.cells #[.slice (some ⟨gl, il * 3, none⟩) 0 (cl - il)] 28)).alloc (.cells #[.int .i64 20] 3)) (w6.heap.size + 1) 3 (.int .i64 20) := by
              have := Boxed.new (w6.alloc (.cells #[.slice (some ⟨gl, il * 3, none⟩) 0 (cl - il)] 28)) 3 (.int .i64 20)
              rwa [show (w6.alloc (.cells #[.slice (some ⟨gl, il * 3, none⟩) 0 (cl - il)] 28)).heap.size = w6.heap.size + 1 by simp] at this
            have HCL := Lib.hid (Cs.collect_zero w6.heap.size (w6.heap.size + 1) (some ⟨gl, il * 3, none⟩) (cl - il) _ hb1 hb2)
            unfold Cs.RetVals at HCL
            clear hb1 hb2
            go_wp2_with (first
              | (go_at_call 39; refine (Cs.chunk_any _ _ _ _).mono ?_; rintro e w7 ⟨rfl, rfl⟩)
              | (go_at_call 38; refine HCL.out.mono ?_; rintro e w8 ⟨v8, rfl, o8, b8⟩))
            have hb8 := HBA.out.trans (b8.mono HBA.out.size)
            obtain ⟨E7, f7, g7, h7⟩ := own_frE o8 (by decide)
            obtain ⟨A7, c7, rfl, -⟩ := own_sliceE o8
            go_meet
            case rel =>
              rw [HN0.out]
              exact ⟨E7, A7, c7, rfl, f7, fun x hx => ⟨Nat.le_trans HBA.out.size (g7 x hx).1, (g7 x hx).2⟩, grps_nil _ _ _ _, hb8⟩

      case rest =>
        obtain ⟨E7, A7, c7, rfl, HF7, HG7, HGR, HX7⟩ := hcut
        have HB7 := Lib.hid (HB6.out.trans (HX7.out.mono HB6.out.size))
        have HR7 := Lib.hid (HR6.out.below HX7.out HR6.out.lt)
        have HC7 := Lib.hid (HC6.out.below HX7.out HC6.out.lt)
        have HF37 := Lib.hid (HF6.out.below HX7.out)
        have HF67 := Lib.hid (HFE.out.below HX7.out)
        have HCR7 := Lib.hid (HCN.out wc HB7.out A3 L.length c3 wc.heap.size (HI3.out wc HF37.out) (Nat.le_refl _) (by have := HLL.out; omega))
        simp only [HRM.out] at HCR7
        go_upto_region 15 with (go_at_call 40; refine HCR7.out.mono ?_; rintro e w8 ⟨rfl, b8⟩
                                have HB8 := Lib.hid (HB7.out.trans (b8.mono HB7.out.size))
                                have HR8 := Lib.hid (HR7.out.below b8 HR7.out.lt)
                                have HC8 := Lib.hid (HC7.out.below b8 HC7.out.lt)
                                have HF38 := Lib.hid (HF37.out.below b8)
                                have HF68 := Lib.hid (HF67.out.below b8)
                                have HF78 := Lib.hid (HF7.out.below b8)
                                clear b8)
        clear HCR7 HCN HCR HAB HOF HLS
        have hz1 := HS3.out
        have hz2 := HS6.out
        have hz3 := HS65.out
        obtain ⟨R, hRf, hRn, hM1, hM2, hM3⟩ : ∃ R : Bxs, Bxs.fit R w8 ∧ (∀ y ∈ R, y.1 ≠ w.heap.size) ∧ (w.heap.size + 1, cells9 zeroC none 0 0 none 0 0, (30 : TypeId)) ∈ R ∧ (∀ y ∈ E3, y ∈ R) ∧ ∀ y, y ∈ E7 ∨ y ∈ E6 ∨ y ∈ F → y ∈ R := by
          refine ⟨[(w.heap.size + 1, cells9 zeroC none 0 0 none 0 0, (30 : TypeId))] ++ (E3 ++ (E7 ++ (E6 ++ F))), (Bxs.one HR8.out (by decide)).app (HF38.out.app (HF78.out.app (HF68.out.app (HDK.out w8 HB8.out).fx))), fun y hy => ?_, by simp, fun y hy => by simp [hy], fun y hy => ?_⟩
          · simp only [List.mem_append, List.mem_singleton] at hy
            rcases hy with rfl | hy | hy | hy | hy
            · show w.heap.size + 1 ≠ _; omega
            · have := (HG3.out y hy).1; omega
            · have := (HG7.out y hy).1; omega
            · have := (HGE.out y hy).1; omega
            · have := HFX.out y hy; omega
          · simp only [List.mem_append]
            rcases hy with hy | hy | hy
            · exact .inr (.inr (.inl hy))
            · exact .inr (.inr (.inr (.inl hy)))
            · exact .inr (.inr (.inr (.inr hy)))
        have HRN := Lib.hid hRn
        have HM1 := Lib.hid hM1
        have HM2 := Lib.hid hM2
        have HM3 := Lib.hid hM3
        have HGE2 : Hid (∀ y ∈ E6, w.heap.size ≤ y.1 ∧ y.1 ≠ w.heap.size + 1 ∧ y.2.2 = 85) := fun y hy => ⟨by have := (HGE.out y hy).1; omega, by have := (HGE.out y hy).1; omega, (HGE.out y hy).2⟩
        have HD0 : Hid (Dk w0 w8 B d q p pd pm k c ((w.heap.size, cells9 x none 0 0 A kn kp, 30) :: R) N D (dpT V L 0)) := by
          show Dk _ _ _ _ _ _ _ _ _ _ _ _ _ _
          exact ((HDK.out w8 HB8.out).with hRf).add (show w8.heap[w.heap.size]? = _ from HC8.out) (by decide)
        have HLG : Hid (∀ W, Bxs.fit R W → IntsAt W W.heap.size A3 L.length L) := fun W hW => HI3.out W (hW.sub fun y hy => HM2.out y hy)
        have HI64 : Hid (∀ t, t < L.length → I64 (L.getD t 0)) := fun t ht => by
          have := HUS.out (L.getD t 0) (by rw [show L.getD t 0 = L[t] by simp [List.getD, List.getElem?_eq_getElem ht]]; exact List.getElem_mem _)
          unfold I64; omega
        have HDV : Hid (∀ t, dpV (dpT V L t) (L.getD t 0) = dpT V L (t + 1)) := fun t => rfl
        clear hRf hRn hM1 hM2 hM3 hz1 hz2 hz3 HF38 HF78 HF68 HC8 HR8 HC7 HR7 HF7 HF37 HF67 HI3 HG3 HG7 HGE HDK HX7 HB7 HB8
        go_wp2
        go_loopw [17, 66] (fun _ i wr => ∃ t : Nat, t ≤ L.length ∧ i = .int .i64 (t : Int) ∧ Hid (Dk w0 wr B d q p pd pm k c ((w.heap.size, cells9 x none 0 0 A kn kp, 30) :: R) N D (dpT V L t))) (fun _ i _ => L.length - (intOf i).toNat)
        case atStart => exact ⟨0, by omega, rfl, HD0.out⟩
        case round =>
          obtain ⟨t, ht, rfl, hd⟩ := hrel
          by_cases hlt : t < L.length
          · have hlt2 : (t : Int) < (L.length : Int) := by omega
            have hll := HLL.out
            obtain ⟨bb, o, rfl, hbB, h1⟩ := (HLG.out wr hd.out.drop.fx).at_ hlt
            have HDR := Lib.hid (drop_dk (L.getD t 0) hd.out (HI64.out t hlt))
            rw [HDV.out t] at HDR
            generalize L.getD t 0 = z at *
            generalize dpE (dpT V L t) z = zz at *
            clear hd
            go_wp2_with (go_at_call 41; refine HDR.out.mono ?_; rintro e w11 ⟨rfl, d11⟩; have HD11 := Lib.hid d11; clear d11)
            go_roundw
            case rel => exact ⟨t + 1, by omega, by go_num, HD11.out⟩
            case measure => simp [intOf]; omega
          · obtain rfl : t = L.length := by omega
            have hlt2 : ¬ (L.length : Int) < (L.length : Int) := by omega
            have HSTO := Lib.hid (fun W cs (hW : Dk w0 W B d q p pd pm k c ((w.heap.size, cs, 30) :: R) N D (dpT V L L.length)) => store_any hW (need ms) ((ofR ms).drop 3) (.slice A7 (need ms) c7) (by
              obtain ⟨A', c', e, hG⟩ := HGR.out
              refine ⟨A', c', e, fun W' hW' => hG W' (hW'.sub fun y hy => ?_)⟩
              rcases List.mem_append.1 hy with hy | hy
              · exact List.mem_cons_of_mem _ (HM3.out y (.inl hy))
              · exact List.mem_cons_of_mem _ (HM3.out y (.inr (.inl hy)))) (by have := HN6.out; omega) HTQ.out.1 HTQ.out.2)
            have HDA := Lib.hid (hd.out.setH HBB.out HRN.out 7 (.slice (some ⟨gl, 0, none⟩) il cl))
            have HCW : Hid (CdRow wr w.heap.size x none 0 0 A kn kp) := hd.out.box
            have HSA := Lib.hid (HSTO.out _ _ HDA.out)
            have HVV : Hid ((tkT (dpT V L L.length) (need ms)).2.getD 0 0 = svO V L ms ∧ wtT (tkT (dpT V L L.length) (need ms)).1 (tkT (dpT V L L.length) (need ms)).2 ((ofR ms).drop 3) (need ms) = svV V L ms) := ⟨rfl, rfl⟩
            rw [HVV.out.1, HVV.out.2] at HSA
            obtain ⟨e0, e1, e2, e3, e4, e5, e6, e7, e8⟩ := HCW.out.cells
            have zc := HCW.out.fz
            have hn6 := HN6.out
            clear hd HSTO HLG HI64 HDV HD0 HCW HVV
            generalize need ms = nn at *
            go_wp2_with (go_at_call 42; refine HSA.out.mono ?_; rintro e w11 ⟨rfl, d11⟩
                         clear e0 e1 e2 e3 e4 e5 e6 e7 e8 zc
                         have HC11 : Hid (CdRow w11 w.heap.size { x with rs := (ofR ms).take 3 } none 0 0 (some ⟨gl, 0, none⟩) il cl) := d11.box
                         have HDC := Lib.hid ((d11.setH HBB.out HRN.out 8 (.int .i64 (svO V L ms))).setH HBB.out HRN.out 4 (.slice none 0 0))
                         obtain ⟨e0, e1, e2, e3, e4, e5, e6, e7, e8⟩ := HC11.out.cells
                         have zc := HC11.out.fz
                         have HR9 : Hid (CdRow ((w11.setCell ⟨w.heap.size, 8, none⟩ (.int .i64 (svO V L ms))).setCell ⟨w.heap.size, 4, none⟩ (.slice none 0 0)) (w.heap.size + 1) zeroC none 0 0 none 0 0) := (HDC.out.drop.fx _ HM1.out).1
                         obtain ⟨r0, r1, r2, r3, r4, r5, r6, r7, r8⟩ := HR9.out.cells
                         have zr := HR9.out.fz
                         clear d11)
            clear e0 e1 e2 e3 e4 e5 e6 e7 e8 zc r0 r1 r2 r3 r4 r5 r6 r7 r8 zr
            have HR8 : Hid (CdRow (put9 ((w11.setCell ⟨w.heap.size, 8, none⟩ (.int .i64 (svO V L ms))).setCell ⟨w.heap.size, 4, none⟩ (.slice none 0 0)) (w.heap.size + 1) { x with rs := (ofR ms).take 3, ov := svO V L ms } none 0 0 (some ⟨gl, 0, none⟩) il cl) (w.heap.size + 1) { x with rs := (ofR ms).take 3, ov := svO V L ms } none 0 0 (some ⟨gl, 0, none⟩) il cl) := put9_row HR9.out
            have HTZ := Lib.hid (put9_turns ((w11.setCell ⟨w.heap.size, 8, none⟩ (.int .i64 (svO V L ms))).setCell ⟨w.heap.size, 4, none⟩ (.slice none 0 0)) (w.heap.size + 1) { x with rs := (ofR ms).take 3, ov := svO V L ms } none 0 0 (some ⟨gl, 0, none⟩) il cl)
            have HDF : Hid (Dk w0 (put9 ((w11.setCell ⟨w.heap.size, 8, none⟩ (.int .i64 (svO V L ms))).setCell ⟨w.heap.size, 4, none⟩ (.slice none 0 0)) (w.heap.size + 1) { x with rs := (ofR ms).take 3, ov := svO V L ms } none 0 0 (some ⟨gl, 0, none⟩) il cl) B d q p pd pm k c (E6 ++ F) N D (svV V L ms)) := by
              have h1 := HDC.out.with (E := E6 ++ F) (HDC.out.drop.fx.sub fun y hy => by
                rcases List.mem_append.1 hy with hy | hy
                · exact HM3.out y (.inr (.inl hy))
                · exact HM3.out y (.inr (.inr hy)))
              refine h1.turns HTZ.out fun j hj => ?_
              rw [List.mem_singleton] at hj
              subst hj
              refine ⟨Nat.le_trans HBB.out (Nat.le_succ _), ⟨_, 30, HR9.out, by decide, by decide⟩, fun y hy => ?_⟩
              rcases List.mem_append.1 hy with hy | hy
              · exact (HGE2.out y hy).2.1
              · have := HFX.out y hy; omega
            unfold put9 at HR8 HDF
            simp only at HR8 HDF
            generalize World.setCell _ ⟨w.heap.size + 1, 8, none⟩ _ = wz at *
            obtain ⟨r0, r1, r2, r3, r4, r5, r6, r7, r8⟩ := HR8.out.cells
            simp only at r0 r1 r2 r3 r4 r5 r6 r7 r8
            refine bodyPost_ret (v := .tuple #[cdv { x with rs := (ofR ms).take 3, ov := svO V L ms } none 0 0 (some ⟨gl, 0, none⟩) il cl, .int .i64 0]) (by simp [results, Tryz.results13, go_sem, r0, r1, r2, r3, r4, r5, r6, r7, r8]) rfl ?_
            exact ⟨some ⟨gl, 0, none⟩, il, cl, E6, rfl, HDF.out, kps_take HK6.out HLN2.out hil, fun y hy => ⟨(HGE2.out y hy).1, (HGE2.out y hy).2.2⟩, by omega⟩
theorem save_space (h : Dk w0 w B d q p pd pm k c F N D V) (hc : Crd V b m) {Bc : Nat} {x : Cd} {A : Option Addr} {kn kp : Nat} {zs L : List Int} (hf : TwoAt w Bc V b m x A kn kp zs L) (A2 : Option Addr) (hA2 : A2 = none ∨ ∃ b o, A2 = some ⟨b, o, none⟩) (n cp B2 : Nat) (ms : List Int) (hm : IntsAt w B2 A2 n ms) (hB2 : B2 ≤ w.heap.size) (hn : n ≤ 1000) (hcp : n ≤ cp) (hs : smB ms = true) (hp : ptsOk b ms = true) (hr : fcn m b + L.length < need ms) :
    Calls Tryz.prog 13 #[.pointer (some ⟨d, 0, none⟩), cdv x none 0 0 A kn kp, .slice A2 n cp] w fun e w' => e = .returned (.tuple #[cdv zeroC none 0 0 none 0 0, .int .i64 10]) ∧ Below w.heap.size w w' := by
  have HB1 : Below w.heap.size w (w.alloc (.cells (cells9 x none 0 0 A kn kp) 30)) := (Below.refl _ _).alloc (Nat.le_refl _) _
  have HB2 := Lib.hid (HB1.alloc HB1.size (.cells (cells9 zeroC none 0 0 none 0 0) 30))
  have HC2 : Hid (CdRow ((w.alloc (.cells (cells9 x none 0 0 A kn kp) 30)).alloc (.cells (cells9 zeroC none 0 0 none 0 0) 30)) w.heap.size x none 0 0 A kn kp) := (CdRow.new w x none 0 0 A kn kp).below ((Below.refl (w.alloc (.cells (cells9 x none 0 0 A kn kp) 30)).heap.size _).alloc (Nat.le_refl _) _) (by simp)
  have HR2 : Hid (CdRow ((w.alloc (.cells (cells9 x none 0 0 A kn kp) 30)).alloc (.cells (cells9 zeroC none 0 0 none 0 0) 30)) (w.heap.size + 1) zeroC none 0 0 none 0 0) := by
    have h1 := CdRow.new (w.alloc (.cells (cells9 x none 0 0 A kn kp) 30)) zeroC none 0 0 none 0 0
    rwa [show (w.alloc (.cells (cells9 x none 0 0 A kn kp) 30)).heap.size = w.heap.size + 1 by simp] at h1
  have HLS := Lib.hid (fun W (hW : Below w.heap.size w W) => lists_of (h.below hW) hc (hf.below hW))
  have hk : rightK (crF V) (b : Int) (crC V) = true := by have := (cr_b hc.ok).1; rwa [hc.cb] at this
  have HCR := Lib.hid (fun W (hW : Below w.heap.size w W) => crown_dk (h.below hW) hc)
  have HAB := Lib.hid (fun W (hW : Below w.heap.size w W) => areblocks_any (crF V) b (crC V) A2 n cp B2 ms W hk (hm.below hW hB2) (Nat.le_trans hB2 hW.size) hn)
  rw [hp] at HAB
  have HOF := Lib.hid (fun W (hW : Below w.heap.size w W) => Go.Proofs.YtgdlfiejjnjcpaaGreat.of_any A2 n cp B2 ms W (hm.below hW hB2) (Nat.le_trans hB2 hW.size) hcp (by omega))
  unfold RetSpsO at HOF
  have hrt : rightS b (ofR ms) = true := of_right hf.b2 hp hs (by rw [hm.len]; omega)
  have HLN : Hid ((ofR ms).length ≤ 120) := rightS_len hrt
  have HN6 : Hid (need ms ≤ 6) := need_le hrt
  have HLL : Hid (L.length ≤ 6) := by show _ ≤ _; rw [hf.fl.ln]; exact need_le hf.right
  have HNE : Hid (need ms = ((ofR ms).length - 3 + 19) / 20) := rfl
  have HUS : Hid (∀ y ∈ L, 51 ≤ y ∧ y < 400) := fun y hy => by have := hf.fl.us y hy; have := hf.b2; omega
  have HCN := Lib.hid (fun W (hW : Below w.heap.size w W) A n cp Bl hA hBl hn => canrep_any (h.below hW) hc A n cp Bl L (need ms) hA hBl hn (by have := need_le hrt; omega) hf.fl.us)
  have HA2 := Lib.hid hA2
  have HNIL : Hid (A2 = none → n = 0) := fun e => by
    rcases Nat.eq_zero_or_pos n with h0 | h0
    · exact h0
    · subst e; obtain ⟨_, _, e, _⟩ := hm.at_ (k := 0) h0; cases e
  have HM : Hid (∀ W, Below w.heap.size w W → IntsAt W B2 A2 n ms) := fun W hW => hm.below hW hB2
  have HSM := Lib.hid hs
  have HRM : Hid ((if fcn m b + L.length < need ms then (10 : Int) else 0) = 10) := if_pos hr
  have HHR := Lib.hid hr
  have HDK := Lib.hid (fun W (hW : Below w.heap.size w W) => h.below hW)
  have HFX : Hid (∀ y ∈ F, y.1 < w.heap.size) := fun y hy => h.fx.lt hy
  have HBB : Hid (B ≤ w.heap.size) := h.hBs
  clear h hc hf hm hs hp HB1 hB2 hA2 hk hr
  unfold crv at HCR HAB
  generalize crF V = f at *
  generalize crC V = u at *
  unfold cells9 zeroC at HB2 HC2 HR2
  simp only at HB2 HC2 HR2
  go_enter Tryz.func13, Tryz.ntmps13
  go_upto_region 1 with fail
  generalize hW2 : (w.alloc _).alloc _ = W2 at *
  clear hW2
  obtain ⟨e0, e1, e2, e3, e4, e5, e6, e7, e8⟩ := HC2.out.cells
  go_upto_region 4 with (first
    | (go_at_call 17; refine (HLS.out W2 HB2.out).mono ?_; rintro e w3 ⟨v3, rfl, ow3, b3⟩
       have HB3 := Lib.hid (HB2.out.trans (b3.mono HB2.out.size))
       have HR3 := Lib.hid (HR2.out.below b3 HR2.out.lt)
       have HC3 := Lib.hid (HC2.out.below b3 HC2.out.lt)
       have HL3 := Lib.hid ow3
       have HS3 : Hid (w.heap.size + 2 ≤ W2.heap.size ∧ W2.heap.size ≤ w3.heap.size) := ⟨by have := HR2.out.lt; omega, b3.size⟩
       obtain ⟨A3, c3, rfl, -⟩ := Lg.own_slice ow3
       obtain ⟨r0, r1, r2, r3, r4, r5, r6, r7, r8⟩ := HR3.out.cells
       have zr := HR3.out.fz
       clear b3 ow3 e0 e1 e2 e3 e4 e5 e6 e7 e8))
  go_cut [33] from 28 to 83 (fun vc wx => vc = .bool false ∧ wx = w3)
  case first =>
    rcases HA2.out with rfl | ⟨bz, oz, rfl⟩
    · have hn0 := HNIL.out rfl
      subst hn0
      have HCS : Hid (∀ cc W, Calls Tryz.prog 33 #[.slice none 0 cc, .func (.func 34) #[] #[]] W fun e w' => e = .returned (.bool (!zeroB [])) ∧ W = w') := fun cc W => csome_any none 0 cc 0 [] W (Lg.IntsAt.nil _ _ _) (by omega)
      rw [show zeroB [] = true from by decide] at HCS
      go_wp2_with (go_at_call 33; refine (HCS.out _ w3).mono ?_; rintro e w4 ⟨rfl, rfl⟩)
      go_meet
      case rel => exact ⟨rfl, rfl⟩
    · have hd := min_drop (HM.out w3 HB3.out)
      obtain ⟨mn, hmn⟩ : ∃ mn, min n 120 = mn := ⟨_, rfl⟩
      rw [hmn] at hd
      have hmn2 : min (n : Int) 120 = (mn : Int) := by omega
      have hmn3 : mn ≤ n := by omega
      have q1 : (mn : Int) ≤ (n : Int) := by omega
      have q2 : (n : Int) ≤ (cp : Int) := by omega
      by_cases hcm : mn = cp
      · have hnm : n - mn = 0 := by omega
        have HCS := Lib.hid (csome_any (some ⟨bz, oz, none⟩) 0 0 0 [] w3 (Lg.IntsAt.nil _ _ _) (by omega))
        rw [show zeroB [] = true from by decide] at HCS
        clear hd hmn
        go_wp2_with (go_at_call 33; refine HCS.out.mono ?_; rintro e w4 ⟨rfl, rfl⟩)
        go_meet
        case rel => exact ⟨rfl, rfl⟩
      · have hcm2 : ¬ cp = mn := fun e => hcm e.symm
        have HCS := Lib.hid (csome_any (some ⟨bz, oz + mn, none⟩) (n - mn) (cp - mn) B2 (ms.drop 120) w3 hd (by omega))
        rw [show zeroB (ms.drop 120) = true from HSM.out] at HCS
        clear hd hmn
        go_wp2_with (go_at_call 33; refine HCS.out.mono ?_; rintro e w4 ⟨rfl, rfl⟩)
        go_meet
        case rel => exact ⟨rfl, rfl⟩
  case rest =>
    obtain ⟨rfl, rfl⟩ := hcut
    obtain ⟨E3, f3, g3, h3⟩ := own_frE HL3.out (by decide)
    have HI3 : Hid (∀ W, Bxs.fit E3 W → IntsAt W W.heap.size A3 L.length L) := fun W hW => IntsAt.of_own (h3 W hW) rfl (fun z hz => by have := HUS.out z hz; unfold Fit; omega)
    have HF3 := Lib.hid f3
    have HG3 := Lib.hid g3
    clear f3 g3 h3 HL3
    go_upto_region 10 with (first
      | (go_at_call 35; refine (HCR.out _ HB3.out).mono ?_; rintro e w4 ⟨rfl, b4⟩
         have hal := (Below.refl w4.heap.size w4).alloc (Nat.le_refl _) (.cells #[.int .i64 f, .int .i64 b, .int .i64 u] 62)
         have HX4 := Lib.hid (b4.trans (hal.mono b4.size))
         have HB4 := Lib.hid (HB3.out.trans (HX4.out.mono HB3.out.size))
         obtain ⟨y0, y1', y2'⟩ := (KBox.new3 w4 f b u).row
         clear b4 hal)
      | (go_at_call 36; refine (HAB.out _ HB4.out).mono ?_; rintro e w5 ⟨rfl, b5⟩
         have HX5 := Lib.hid (HX4.out.trans (b5.mono HX4.out.size))
         have HB5 := Lib.hid (HB4.out.trans (b5.mono HB4.out.size))
         clear b5 y0 y1' y2')
      | (go_at_call 37; refine (HOF.out _ HB5.out).mono ?_; rintro e w6 ⟨v6, rfl, ow6, hsm6, b6⟩
         have HX6 := Lib.hid (HX5.out.trans (b6.mono HX5.out.size))
         have HB6 := Lib.hid (HB5.out.trans (b6.mono HB5.out.size))
         have HR6 := Lib.hid (HR3.out.below HX6.out HR3.out.lt)
         have HC6 := Lib.hid (HC3.out.below HX6.out HC3.out.lt)
         have HO6 := Lib.hid ow6
         have HSM6 := Lib.hid hsm6
         have HS6 := Lib.hid HX5.out.size
         have HS65 := Lib.hid b6.size
         clear b6 ow6 hsm6 HX4 HX5 HB4 HB5 HB3 HR3 HC3))
    have HF6 := Lib.hid ((HF3.out.below HX6.out))
    clear r0 r1 r2 r3 r4 r5 r6 r7 r8 zr HF3 HX6
    obtain ⟨E6, f6, g6, h6⟩ := own_frE HO6.out (by decide)
    have HFE := Lib.hid f6
    have HGE := Lib.hid g6
    obtain ⟨ln, hln⟩ : ∃ ln, (ofR ms).length = ln := ⟨_, rfl⟩
    have hl120 := HLN.out
    rw [hln] at hl120
    rcases sps_form HO6.out with ⟨rfl, hnil⟩ | ⟨gl, cl, rfl, hcl, hgl⟩
    · -- no span
      have HK6 : Hid (KpS E6 none 0 (ofR ms)) := fun W hW => by rw [hnil]; exact SpsAt.nil _ _ _
      have hn0 : need ms = 0 := by rw [HNE.out, hnil]; rfl
      have HNIL6 := Lib.hid hnil
      have HN0 := Lib.hid hn0
      clear h6 f6 g6 hnil hn0 hln hl120 HO6
      exact absurd HHR.out (by rw [HN0.out]; omega)
    · have HK6 : Hid (KpS E6 (some ⟨gl, 0, none⟩) ln (ofR ms)) := fun W hW => by
        have := SpsAt.of_own (h6 W hW) rfl (fun s hs => small_fit (HSM6.out s hs))
        rwa [hln] at this
      rw [hln] at hcl ⊢
      have HLN2 := Lib.hid hln
      have HQ : Hid (need ms = (ln - 3 + 19) / 20) := by show _ = _; rw [HNE.out, hln]
      clear h6 f6 g6 hln hgl HO6
      obtain ⟨il, hil⟩ : ∃ il, min ln 3 = il := ⟨_, rfl⟩
      have e3 : min (ln : Int) 3 = (il : Int) := by omega
      have i1 : (0 : Int) ≤ (il : Int) := by omega
      have i2 : (il : Int) ≤ (ln : Int) := by omega
      have i3 : (ln : Int) ≤ (cl : Int) := by omega
      go_upto_region 11 with fail
      go_cut [14] from 50 to 83 (fun v wx => ∃ E7 A7 c7, v = .slice A7 (need ms) c7 ∧ Hid (Bxs.fit E7 wx) ∧ Hid (∀ x ∈ E7, w6.heap.size ≤ x.1 ∧ x.2.2 = 28) ∧ Hid (GrpsF (E7 ++ E6) (.slice A7 (need ms) c7) (need ms) ((ofR ms).drop 3)) ∧ Hid (Below w6.heap.size w6 wx))
      case first =>
        rcases Nat.lt_or_ge 3 ln with h3 | h3
        · obtain rfl : il = 3 := by omega
          have hci : ¬ cl = 3 := by omega
          have hm3 : ∀ k, k < need ms ↔ 20 * k < ln - 3 := fun k => by rw [HQ.out]; omega
          have HBA : Hid (Below w6.heap.size w6 ((w6.alloc (.cells #[.slice (some ⟨gl, 9, none⟩) (ln - 3) (cl - 3)] 28)).alloc (.cells #[.int .i64 20] 3))) := ((Below.refl w6.heap.size w6).alloc (Nat.le_refl _) _).alloc (by simp) _
          have hb1 : Boxed ((w6.alloc (.cells #[.slice (some ⟨gl, 9, none⟩) (ln - 3) (cl - 3)] 28)).alloc (.cells #[.int .i64 20] 3)) w6.heap.size 28 (.slice (some ⟨gl, 9, none⟩) (ln - 3) (cl - 3)) := (Boxed.new w6 28 _).alloc _
          have hb2 : Boxed ((w6.alloc (.cells #[.slice (some ⟨gl, 9, none⟩) (ln - 3) (cl - 3)] 28)).alloc (.cells #[.int .i64 20] 3)) (w6.heap.size + 1) 3 (.int .i64 20) := by
            have := Boxed.new (w6.alloc (.cells #[.slice (some ⟨gl, 9, none⟩) (ln - 3) (cl - 3)] 28)) 3 (.int .i64 20)
            rwa [show (w6.alloc (.cells #[.slice (some ⟨gl, 9, none⟩) (ln - 3) (cl - 3)] 28)).heap.size = w6.heap.size + 1 by simp] at this
          have HCL := Lib.hid (Cs.collect_any w6.heap.size (w6.heap.size + 1) gl 9 (need ms) (ln - 3) (cl - 3) (by omega) (by omega) hm3 _ hb1 hb2)
          unfold Cs.RetVals at HCL
          clear hb1 hb2
          go_wp2_with (first
            | (go_at_call 39; refine (Cs.chunk_any _ _ _ _).mono ?_; rintro e w7 ⟨rfl, rfl⟩)
            | (go_at_call 38; refine HCL.out.mono ?_; rintro e w8 ⟨v8, rfl, o8, b8⟩))
          have hb8 := HBA.out.trans (b8.mono HBA.out.size)
          obtain ⟨E7, f7, g7, h7⟩ := own_frE o8 (by decide)
          obtain ⟨A7, c7, rfl, -⟩ := own_sliceE o8
          go_meet
          case rel =>
            have hxl : ((List.finRange (need ms)).map (Cs.chunkVal gl 9 (ln - 3))).length = need ms := by simp
            rw [hxl] at h7
            exact ⟨E7, A7, c7, by simp, f7, fun x hx => ⟨Nat.le_trans HBA.out.size (g7 x hx).1, (g7 x hx).2⟩, grps_of HK6.out h7 HLN2.out rfl hm3, hb8⟩
        · have hm0 : ln - il = 0 := by omega
          have hn0 : need ms = 0 := by rw [HQ.out]; omega
          have HN0 := Lib.hid hn0
          by_cases hci : il = cl
          · subst hci
            have HBA : Hid (Below w6.heap.size w6 ((w6.alloc (.cells #[.slice (some ⟨gl, 0, none⟩) 0 0] 28)).alloc (.cells #[.int .i64 20] 3))) := ((Below.refl w6.heap.size w6).alloc (Nat.le_refl _) _).alloc (by simp) _
            have hb1 : Boxed ((w6.alloc (.cells #[.slice (some ⟨gl, 0, none⟩) 0 0] 28)).alloc (.cells #[.int .i64 20] 3)) w6.heap.size 28 (.slice (some ⟨gl, 0, none⟩) 0 0) := (Boxed.new w6 28 _).alloc _
            have hb2 : Boxed ((w6.alloc (.cells #[.slice (some ⟨gl, 0, none⟩) 0 0] 28)).alloc (.cells #[.int .i64 20] 3)) (w6.heap.size + 1) 3 (.int .i64 20) := by
              have := Boxed.new (w6.alloc (.cells #[.slice (some ⟨gl, 0, none⟩) 0 0] 28)) 3 (.int .i64 20)
              rwa [show (w6.alloc (.cells #[.slice (some ⟨gl, 0, none⟩) 0 0] 28)).heap.size = w6.heap.size + 1 by simp] at this
            have HCL := Lib.hid (Cs.collect_zero w6.heap.size (w6.heap.size + 1) (some ⟨gl, 0, none⟩) 0 _ hb1 hb2)
            unfold Cs.RetVals at HCL
            clear hb1 hb2
            go_wp2_with (first
              | (go_at_call 39; refine (Cs.chunk_any _ _ _ _).mono ?_; rintro e w7 ⟨rfl, rfl⟩)
              | (go_at_call 38; refine HCL.out.mono ?_; rintro e w8 ⟨v8, rfl, o8, b8⟩))
            have hb8 := HBA.out.trans (b8.mono HBA.out.size)
            obtain ⟨E7, f7, g7, h7⟩ := own_frE o8 (by decide)
            obtain ⟨A7, c7, rfl, -⟩ := own_sliceE o8
            go_meet
            case rel =>
              rw [HN0.out]
              exact ⟨E7, A7, c7, rfl, f7, fun x hx => ⟨Nat.le_trans HBA.out.size (g7 x hx).1, (g7 x hx).2⟩, grps_nil _ _ _ _, hb8⟩
          · have hci2 : ¬ cl = il := fun e => hci e.symm
            have HBA : Hid (Below w6.heap.size w6 ((w6.alloc (.cells #[.slice (some ⟨gl, il * 3, none⟩) 0 (cl - il)] 28)).alloc (.cells #[.int .i64 20] 3))) := ((Below.refl w6.heap.size w6).alloc (Nat.le_refl _) _).alloc (by simp) _
            have hb1 : Boxed ((w6.alloc (.cells #[.slice (some ⟨gl, il * 3, none⟩) 0 (cl - il)] 28)).alloc (.cells #[.int .i64 20] 3)) w6.heap.size 28 (.slice (some ⟨gl, il * 3, none⟩) 0 (cl - il)) := (Boxed.new w6 28 _).alloc _
            have hb2 : Boxed ((w6.alloc (.cells #[.slice (some ⟨gl, il * 3, none⟩) 0 (cl - il)] 28)).alloc (.cells #[.int .i64 20] 3)) (w6.heap.size + 1) 3 (.int .i64 20) := by
              have := Boxed.new (w6.alloc (.cells #[.slice (some ⟨gl, il * 3, none⟩) 0 (cl - il)] 28)) 3 (.int .i64 20)
              rwa [show (w6.alloc (.cells #[.slice (some ⟨gl, il * 3, none⟩) 0 (cl - il)] 28)).heap.size = w6.heap.size + 1 by simp] at this
            have HCL := Lib.hid (Cs.collect_zero w6.heap.size (w6.heap.size + 1) (some ⟨gl, il * 3, none⟩) (cl - il) _ hb1 hb2)
            unfold Cs.RetVals at HCL
            clear hb1 hb2
            go_wp2_with (first
              | (go_at_call 39; refine (Cs.chunk_any _ _ _ _).mono ?_; rintro e w7 ⟨rfl, rfl⟩)
              | (go_at_call 38; refine HCL.out.mono ?_; rintro e w8 ⟨v8, rfl, o8, b8⟩))
            have hb8 := HBA.out.trans (b8.mono HBA.out.size)
            obtain ⟨E7, f7, g7, h7⟩ := own_frE o8 (by decide)
            obtain ⟨A7, c7, rfl, -⟩ := own_sliceE o8
            go_meet
            case rel =>
              rw [HN0.out]
              exact ⟨E7, A7, c7, rfl, f7, fun x hx => ⟨Nat.le_trans HBA.out.size (g7 x hx).1, (g7 x hx).2⟩, grps_nil _ _ _ _, hb8⟩

      case rest =>
        obtain ⟨E7, A7, c7, rfl, HF7, HG7, HGR, HX7⟩ := hcut
        have HB7 := Lib.hid (HB6.out.trans (HX7.out.mono HB6.out.size))
        have HR7 := Lib.hid (HR6.out.below HX7.out HR6.out.lt)
        have HC7 := Lib.hid (HC6.out.below HX7.out HC6.out.lt)
        have HF37 := Lib.hid (HF6.out.below HX7.out)
        have HF67 := Lib.hid (HFE.out.below HX7.out)
        have HCR7 := Lib.hid (HCN.out wc HB7.out A3 L.length c3 wc.heap.size (HI3.out wc HF37.out) (Nat.le_refl _) (by have := HLL.out; omega))
        simp only [HRM.out] at HCR7
        go_wp2_with (go_at_call 40; refine HCR7.out.mono ?_; rintro e w8 ⟨rfl, b8⟩
                     have HBW := Lib.hid (HB7.out.trans (b8.mono HB7.out.size))
                     have HRW := Lib.hid (HR7.out.below b8 HR7.out.lt)
                     obtain ⟨r0, r1, r2, r3, r4, r5, r6, r7, r8⟩ := HRW.out.cells
                     have zr := HRW.out.fz
                     clear b8)
        clear r0 r1 r2 r3 r4 r5 r6 r7 r8 zr
        have HR8 : Hid (CdRow (put9 w8 (w.heap.size + 1) zeroC none 0 0 none 0 0) (w.heap.size + 1) zeroC none 0 0 none 0 0) := put9_row HRW.out
        have HB8 : Hid (Below w.heap.size w (put9 w8 (w.heap.size + 1) zeroC none 0 0 none 0 0)) := put9_below HBW.out (by omega)
        unfold put9 zeroC at HR8 HB8
        simp only at HR8 HB8
        generalize World.setCell _ ⟨w.heap.size + 1, 8, none⟩ _ = wz at *
        obtain ⟨r0, r1, r2, r3, r4, r5, r6, r7, r8⟩ := HR8.out.cells
        refine bodyPost_ret (v := .tuple #[cdv zeroC none 0 0 none 0 0, .int .i64 10]) (by simp [results, Tryz.results13, go_sem, r0, r1, r2, r3, r4, r5, r6, r7, r8, zeroC]) rfl ?_
        exact ⟨rfl, HB8.out⟩
end
end Go.Proofs.YtgdlfiejjnjcpaaGreat.Dl
