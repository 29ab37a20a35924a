/-
  WALKS: Drop of a file's card; the law's begin: a deal on a new disk with a crown and marks. Conditions: a file's card; 64 to 400 blocks.
-/
import Derived.Test.YtgdlfiejjnjcpaaGreatHJ
import Derived.Test.YtgdlfiejjnjcpaaGreatFB
import Derived.Test.YtgdlfiejjnjcpaaGreatBN
set_option linter.unusedVariables false
set_option linter.unusedSimpArgs false
set_option maxRecDepth 100000
set_option maxHeartbeats 8000000
namespace Go.Proofs.YtgdlfiejjnjcpaaGreat.Dl
open Go.RowKit
open Mk
open Sl (Turns SlabAt)
open Lg (FS LogAt Whole newD newD_len newD_whole newD_get)
open Kr (crv rightK blockK kf kb kc KBox cells3 I64 inB marksK bit_marks marks_size)
section
variable {w0 w : World} {B d q p pd pm k c : Nat} {F : Bxs} {N : Nat} {D V : List ByteArray} {b : Nat} {m : ByteArray}
theorem drop_any (h : Dk w0 w B d q p pd pm k c F N D V) (hc : Crd V b m) {Bc : Nat} {x : Cd} {A : Option Addr} {kn kp : Nat} {zs L : List Int} (hf : TwoAt w Bc V b m x A kn kp zs L) :
    Calls Tryz.prog 21 #[.pointer (some ⟨d, 0, none⟩), cdv x none 0 0 A kn kp] w fun e w' => ∃ AL il cl E6, e = .returned (.tuple #[cdv { x with rs := (ofR []).take 3, ov := svO V L [] } none 0 0 AL il cl, .int .i64 0]) ∧ Dk w0 w' B d q p pd pm k c (E6 ++ F) N D (svV V L []) ∧ KpS E6 AL il ((ofR []).take 3) ∧ (∀ y ∈ E6, w.heap.size ≤ y.1 ∧ y.2.2 = 85) ∧ il ≤ cl := by
  have HB1 : Below w.heap.size w (w.alloc (.cells (cells9 x none 0 0 A kn kp) 30)) := (Below.refl _ _).alloc (Nat.le_refl _) _
  have HB2 := Lib.hid (HB1.alloc HB1.size (.cells (cells9 zeroC none 0 0 none 0 0) 30))
  have HC2 : Hid (CdRow ((w.alloc (.cells (cells9 x none 0 0 A kn kp) 30)).alloc (.cells (cells9 zeroC none 0 0 none 0 0) 30)) w.heap.size x none 0 0 A kn kp) := (CdRow.new w x none 0 0 A kn kp).below ((Below.refl (w.alloc (.cells (cells9 x none 0 0 A kn kp) 30)).heap.size _).alloc (Nat.le_refl _) _) (by simp)
  have HR2 : Hid (CdRow ((w.alloc (.cells (cells9 x none 0 0 A kn kp) 30)).alloc (.cells (cells9 zeroC none 0 0 none 0 0) 30)) (w.heap.size + 1) zeroC none 0 0 none 0 0) := by
    have h1 := CdRow.new (w.alloc (.cells (cells9 x none 0 0 A kn kp) 30)) zeroC none 0 0 none 0 0
    rwa [show (w.alloc (.cells (cells9 x none 0 0 A kn kp) 30)).heap.size = w.heap.size + 1 by simp] at h1
  have HSV := Lib.hid (save_ok ((h.below HB2.out).add (show _ = _ from HR2.out) (by decide)) hc (hf.below HB2.out) none (.inl rfl) 0 0 0 [] (Lg.IntsAt.nil _ _ _) (Nat.zero_le _) (by omega) (Nat.le_refl _) (by decide) rfl (by rw [show need [] = 0 by decide]; exact Nat.zero_le _))
  have HFL : Hid (∀ y ∈ F, y.1 < w.heap.size) := fun y hy => h.fx.lt hy
  have HBS : Hid (B ≤ w.heap.size) := h.hBs
  clear h hc hf HB1
  unfold cells9 zeroC at HB2 HC2 HR2 HSV
  simp only at HB2 HC2 HR2 HSV
  go_enter Tryz.func21, Tryz.ntmps21
  go_upto_region 1 with fail
  generalize hW2 : (w.alloc _).alloc _ = W2 at *
  clear hW2
  have HSZ := Lib.hid HR2.out.lt
  obtain ⟨e0, e1, e2, e3, e4, e5, e6, e7, e8⟩ := HC2.out.cells
  go_wp2_with (go_at_call 13; refine HSV.out.mono ?_; rintro e w3 ⟨AL, il, cl, E6, rfl, d3, k3, g3, l3⟩
               have HD3 := Lib.hid d3
               have HR3 : Hid (CdRow w3 (w.heap.size + 1) zeroC none 0 0 none 0 0) := (d3.fx _ (List.mem_append_right _ (List.mem_cons_self ..))).1
               have HK3 := Lib.hid k3
               have HG3 := Lib.hid g3
               obtain ⟨r0, r1, r2, r3, r4, r5, r6, r7, r8⟩ := HR3.out.cells
               have zr := HR3.out.fz
               clear d3 k3 g3 e0 e1 e2 e3 e4 e5 e6 e7 e8)
  clear r0 r1 r2 r3 r4 r5 r6 r7 r8 zr
  have HR8 : Hid (CdRow (put9 w3 (w.heap.size + 1) { x with rs := (ofR []).take 3, ov := svO V L [] } none 0 0 AL il cl) (w.heap.size + 1) { x with rs := (ofR []).take 3, ov := svO V L [] } none 0 0 AL il cl) := put9_row HR3.out
  have HTZ := Lib.hid (put9_turns w3 (w.heap.size + 1) { x with rs := (ofR []).take 3, ov := svO V L [] } none 0 0 AL il cl)
  have HDF : Hid (Dk w0 (put9 w3 (w.heap.size + 1) { x with rs := (ofR []).take 3, ov := svO V L [] } none 0 0 AL il cl) B d q p pd pm k c (E6 ++ F) N D (svV V L [])) := by
    have h1 := HD3.out.with (E := E6 ++ F) (HD3.out.fx.sub fun y hy => by
      rcases List.mem_append.1 hy with hy | hy
      · exact List.mem_append_left _ hy
      · exact List.mem_append_right _ (List.mem_cons_of_mem _ hy))
    refine h1.turns HTZ.out fun j hj => ?_
    rw [List.mem_singleton] at hj
    subst hj
    refine ⟨Nat.le_trans HBS.out (Nat.le_succ _), ⟨_, 30, HR3.out, by decide, by decide⟩, fun y hy => ?_⟩
    rcases List.mem_append.1 hy with hy | hy
    · have := (HG3.out y hy).1; have := HSZ.out; omega
    · have := HFL.out y hy; omega
  have HGF : Hid (∀ y ∈ E6, w.heap.size ≤ y.1 ∧ y.2.2 = 85) := fun y hy => ⟨by have := (HG3.out y hy).1; have := HSZ.out; omega, (HG3.out y hy).2⟩
  unfold put9 at HR8 HDF
  simp only at HR8 HDF
  generalize World.setCell _ ⟨w.heap.size + 1, 8, none⟩ _ = wz at *
  obtain ⟨r0, r1, r2, r3, r4, r5, r6, r7, r8⟩ := HR8.out.cells
  simp only at r0 r1 r2 r3 r4 r5 r6 r7 r8
  refine bodyPost_ret (v := .tuple #[cdv { x with rs := (ofR []).take 3, ov := svO V L [] } none 0 0 AL il cl, .int .i64 0]) (by simp [results, Tryz.results21, go_sem, r0, r1, r2, r3, r4, r5, r6, r7, r8]) rfl ?_
  exact ⟨AL, il, cl, E6, rfl, HDF.out, HK3.out, HGF.out, l3⟩
end

/-! ### what is there at first -/
def V0 (n : Nat) : List ByteArray := wrV (scV (newD n) 2 (n : Int) 0) 42 (marksK n)
theorem sc_new {n : Nat} (h1 : 64 ≤ n) (h2 : n ≤ 400) : scOk (newD n) 2 (n : Int) 0 = true := by
  unfold scOk Kr.rightK Kr.inB
  rw [newD_len]
  simp; omega
theorem wr_new {n : Nat} (h1 : 64 ≤ n) : wrOk (scV (newD n) 2 (n : Int) 0) 42 (marksK n) = true := by
  have hl : (scV (newD n) 2 (n : Int) 0).length = n := by unfold scV; split <;> simp [newD_len]
  unfold wrOk
  rw [hl, hasB_t.2 (by omega), marks_size]
  rfl
theorem V0_is {n : Nat} (h1 : 64 ≤ n) (h2 : n ≤ 400) : V0 n = ((newD n).set 0 (blockK 2 n 0)).set 42 (marksK n) := by
  have e1 : scV (newD n) 2 (n : Int) 0 = (newD n).set 0 (blockK 2 n 0) := by unfold scV; rw [if_pos (sc_new h1 h2)]
  unfold V0 wrV
  rw [if_pos (wr_new h1), e1, Lg.padS_full (marks_size _)]
  rfl
theorem V0_crd {n : Nat} (h1 : 64 ≤ n) (h2 : n ≤ 400) : Crd (V0 n) n (marksK n) := by
  have hl : (V0 n).length = n := by rw [V0_is h1 h2, List.length_set, List.length_set, newD_len]
  have e0 : (V0 n).getD 0 ⟨#[]⟩ = blockK 2 n 0 := by
    rw [V0_is h1 h2, getD_set2, if_neg (by omega), getD_set2, newD_len, if_pos ⟨rfl, by omega⟩]
  have hr : rightK 2 (n : Int) 0 = true := by have := sc_new h1 h2; unfold scOk at this; simp only [Bool.and_eq_true] at this; exact this.1
  obtain ⟨k1, k2, k3⟩ := Kr.back_k hr
  have ho : okCr (V0 n) = true := by
    unfold okCr Kr.okK
    rw [e0, k1, k2, k3, hr, hl]
    simp
  refine ⟨ho, ?_, ?_, marks_size _, by omega, h1, h2⟩
  · unfold crB
    rw [if_pos ho, e0, k2]
  · unfold mkB
    rw [V0_is h1 h2, getD_set2, List.length_set, newD_len, if_pos ⟨rfl, by omega⟩]
theorem fcn_new (n : Nat) (h3 : n ≤ 1024) : ∀ t, 51 + t ≤ n → fcn (marksK n) (51 + t) = t
  | 0, _ => fcn_low _ 51 (Nat.le_refl _)
  | t + 1, h => by
    have hb := bit_marks (n : Int) (51 + t) (by omega)
    rw [← Nat.add_assoc, fcn_yes (by omega) ?_, fcn_new n h3 t (by omega)]
    rw [hb, decide_eq_false_iff_not]
    omega
theorem dk_setcrown {w0 w : World} {B d q p pd pm k c : Nat} {F : Bxs} {N : Nat} {D V : List ByteArray} (h : Dk w0 w B d q p pd pm k c F N D V) (f b u : Int) :
    Calls Tryz.prog 26 #[.pointer (some ⟨d, 0, none⟩), crv f b u] w fun e w' => e = .returned (.int .i64 (scE V f b u)) ∧ Dk w0 w' B d q p pd pm k c F N D (scV V f b u) := by
  obtain ⟨v, dv⟩ := h.ex
  exact (setcrown_dv B d q p pd pm k c D V v f b u w dv).mono fun e w' hx => ⟨hx.1, h.did dv hx.2⟩
/-- what begin leaves. -/
def RetBg (w : World) (n : Nat) (e : Ending) (w' : World) : Prop := ∃ B d q p pd pm, e = .returned (.pointer (some ⟨d, 0, none⟩)) ∧ Dk w w' B d q p pd pm 0 0 [] n (newD n) (V0 n)
theorem begin15_any (n : Nat) (w : World) (hn : 64 ≤ n) (hn2 : n ≤ 400) : Calls Tryz.prog 8 #[.int .i64 (n : Int)] w (RetBg w n) := by
  have HNEW := Lib.hid (Lg.new_calm n (by omega))
  have HOP := Lib.hid (fun p pd pm W hS => open_new n p pd pm hn W hS)
  have HBG := Lib.hid (fun q W => begin_any q W)
  have HMK := Lib.hid (fun W => Kr.rmarks_any (n : Int) W (by unfold I64; omega))
  have HN := Lib.hid (⟨hn, hn2⟩ : 64 ≤ n ∧ n ≤ 400)
  have HSS : Hid (scE (newD n) 2 (n : Int) 0 = 0) := by show _ = _; unfold scE; rw [if_pos (sc_new hn hn2)]
  have HWW : Hid (wrE (scV (newD n) 2 (n : Int) 0) 42 (marksK n) = 0) := by show _ = _; unfold wrE; rw [if_pos (wr_new hn)]
  have HV : Hid (V0 n = wrV (scV (newD n) 2 (n : Int) 0) 42 (marksK n)) := rfl
  have HNW := Lib.hid (newD_whole n)
  have HNL := Lib.hid (newD_len n)
  have HMZ := Lib.hid (marks_size (n : Int))
  unfold RetBg
  generalize V0 n = VV at *
  generalize marksK n = mm at *
  clear hn hn2
  unfold crv at *
  go_enter Tryz.func8, Tryz.ntmps8
  go_wp2_with (first
    | (go_at_call 24; refine (HNEW.out _).mono ?_; rintro e w1 ⟨p, pd, pm, rfl, h1, hp, hpd, hpm, b1⟩
       have HB1 := Lib.hid b1
       have HLp := Lib.hid (⟨h1.lt_p, h1.lt_d, h1.lt_m⟩ : p < w1.heap.size ∧ pd < w1.heap.size ∧ pm < w1.heap.size)
       have HP1 : Hid (w.heap.size ≤ p ∧ w.heap.size ≤ pd ∧ w.heap.size ≤ pm) := ⟨hp, hpd, hpm⟩
       have OP := Lib.hid (HOP.out p pd pm w1 h1)
       clear h1 b1 hp hpd hpm)
    | (go_at_call 23; refine OP.out.mono ?_; rintro e w2 ⟨q, rfl, hq, Q2, S2, t2⟩
       have HQ2 := Lib.hid Q2
       have HS2 := Lib.hid S2
       have HB2 := Lib.hid (HB1.out.trans (t2.below HB1.out.size (by have := HP1.out; simp; omega)))
       have hsz : w1.heap.size ≤ w2.heap.size := t2.size
       clear t2 Q2 S2)
    | (go_at_call 25; refine (HBG.out q w2).mono ?_; rintro e w3 ⟨rfl, D3, hz3, b3⟩
       have hq3 := HQ2.out.lt
       have hpp := HLp.out
       have HD3 : Hid (Dk w w3 w3.heap.size w2.heap.size q p pd pm 0 0 [] n (newD n) (newD n)) := ⟨⟨_, DV.fresh D3 (HQ2.out.below b3 HQ2.out.lt) (HS2.out.keptB (Turns.of_below [] b3)) (by omega) (by simp; omega) (by simp; omega) HNW.out (by rw [HNL.out]; exact HN.out.1)⟩, HNL.out, by simp [Bxs.fit], HB2.out.trans (b3.mono HB2.out.size), HB2.out.size, (HB2.out.trans (b3.mono HB2.out.size)).size⟩
       have HSC := Lib.hid (dk_setcrown HD3.out 2 (n : Int) 0)
       rw [HSS.out] at HSC
       unfold crv at HSC
       clear D3 b3 hz3 hq3 hpp)
    | (go_at_call 26; refine HSC.out.mono ?_; rintro e w4 ⟨rfl, d4⟩; have HD4 := Lib.hid d4; clear d4)
    | (go_at_call 27; refine (HMK.out _).mono ?_; rintro e w5 ⟨rfl, b5⟩
       have HWR := Lib.hid (dk_write (HD4.out.below b5) 42 mm (by rw [HMZ.out]; decide))
       rw [HWW.out] at HWR
       clear b5)
    | (go_at_call 22; refine HWR.out.mono ?_; rintro e w6 ⟨rfl, d6⟩; have HD6 := Lib.hid d6; clear d6))
  go_ret
  exact ⟨_, _, _, _, _, _, rfl, by rw [HV.out]; exact HD6.out⟩
end Go.Proofs.YtgdlfiejjnjcpaaGreat.Dl
