/-
  WALK: Read returns the crown whose block a text is, or that it is none's. Condition: a string of at most 140737488355328 bytes.
-/
import Derived.Test.YtbjmbnodckhikaaKModel
import Derived.Test.YtbjmbnodckhikaaRefRead
namespace Go.Proofs.Ytbjmbnodckhikaa
open Go.RowKit

/-- A crown's box known whole. -/
def KBox (W : World) (g : Nat) (f b c : Int) : Prop := W.heap[g]? = some (.cells (cells3 f b c) 23 (0, 0))
theorem KBox.lt {W : World} {g : Nat} {f b c : Int} (h : KBox W g f b c) : g < W.heap.size := (Array.getElem?_eq_some_iff.1 h).1
theorem KBox.row {W : World} {g : Nat} {f b c : Int} (h : KBox W g f b c) : KRow W g f b c := by
  refine ⟨?_, ?_, ?_⟩ <;> (rw [cell_of_row W _ _ _ 23 _ h]; rfl)
theorem KBox.fz {W : World} {g : Nat} {f b c : Int} (h : KBox W g f b c) (k : Nat) : W.frozen? ⟨g, k, none⟩ = false := by unfold World.frozen?; rw [h]; simp
theorem KBox.below {W w' : World} {g C : Nat} {f b c : Int} (h : KBox W g f b c) (hb : Below C W w') (hg : g < C) : KBox w' g f b c := (hb.block g hg).trans h
theorem KBox.new (w : World) (f b c : Int) : KBox (w.alloc (.cells (cells3 f b c) 23)) w.heap.size f b c := heap_alloc_new w _
/-- Three stores into a box. -/
def put3 (w : World) (r : Nat) (f b c : Int) : World := ((w.setCell ⟨r, 0, none⟩ (.int .i64 f)).setCell ⟨r, 1, none⟩ (.int .i64 b)).setCell ⟨r, 2, none⟩ (.int .i64 c)
theorem row_set {w : World} {g j : Nat} {cs cs' : Array Value} {t : TypeId} {v : Value} (h : w.heap[g]? = some (.cells cs t (0, 0))) (e : cs.setIfInBounds j v = cs') : (w.setCell ⟨g, j, none⟩ v).heap[g]? = some (.cells cs' t (0, 0)) := by
  rw [setCell_eq_setRow w g j cs t (0, 0) v h, e]
  exact setRow_heap w g cs cs' t (0, 0) h
theorem put3_box {w : World} {r : Nat} {f0 b0 c0 f b c : Int} (h : KBox w r f0 b0 c0) : KBox (put3 w r f b c) r f b c := by
  unfold KBox cells3 at h
  unfold put3 KBox cells3
  have h : (w.setCell ⟨r, 0, none⟩ (.int .i64 f)).heap[r]? = some (.cells #[.int .i64 f, .int .i64 b0, .int .i64 c0] 23 (0, 0)) := row_set h rfl
  generalize (w.setCell ⟨r, 0, none⟩ (.int .i64 f)) = w at *
  have h : (w.setCell ⟨r, 1, none⟩ (.int .i64 b)).heap[r]? = some (.cells #[.int .i64 f, .int .i64 b, .int .i64 c0] 23 (0, 0)) := row_set h rfl
  generalize (w.setCell ⟨r, 1, none⟩ (.int .i64 b)) = w at *
  exact row_set h rfl
theorem put3_below {B : Nat} {w0 w : World} {r : Nat} {f b c : Int} (h : Below B w0 w) (hr : B ≤ r) : Below B w0 (put3 w r f b c) :=
  ((h.setCell (p := ⟨r, 0, none⟩) hr _).setCell (p := ⟨r, 1, none⟩) hr _).setCell (p := ⟨r, 2, none⟩) hr _

/-- The answer of Read. -/
def RetK (w : World) (s : ByteArray) (e : Ending) (w' : World) : Prop := e = .returned (.tuple #[crv (fK s) (bK s) (cK s), .int .i64 (eK s)]) ∧ Below w.heap.size w w'

theorem three {w : World} {B : Nat} {A : Option Addr} {x y z : Int} (h : IntsAt w B A 3 [x, y, z]) : ∃ g o, A = some ⟨g, o, none⟩ ∧ g < B ∧ w.cell? ⟨g, o, none⟩ = some (.int .i64 x) ∧ w.cell? ⟨g, o + 1, none⟩ = some (.int .i64 y) ∧ w.cell? ⟨g, o + 2, none⟩ = some (.int .i64 z) := by
  obtain ⟨g, o, e, hb, h0⟩ := h.at_ (k := 0) (by omega)
  obtain ⟨g1, o1, e1, _, h1⟩ := h.at_ (k := 1) (by omega)
  obtain ⟨g2, o2, e2, _, h2⟩ := h.at_ (k := 2) (by omega)
  rw [e] at e1 e2
  injection e1 with e1; injection e1 with a1 a2; injection e2 with e2; injection e2 with a3 a4
  subst a1 a2 a3 a4
  exact ⟨g, o, e, hb, h0, h1, h2⟩

set_option maxHeartbeats 4000000 in
theorem read10_any (s : ByteArray) (w : World) (hsz : s.size ≤ 140737488355328) : Calls Try.prog 15 #[.string s] w (RetK w s) := by
  have HCT := Lib.hid (fun v => cut_any s v hsz)
  have HX0 : Hid (KBox (w.alloc (.cells (cells3 0 0 0) 23)) w.heap.size 0 0 0) := KBox.new _ _ _ _
  have HB0 : Hid (Below w.heap.size w (w.alloc (.cells (cells3 0 0 0) 23))) := (Below.refl _ _).alloc (Nat.le_refl _) _
  have HRF : Hid (okK s = false → ∀ w', Below w.heap.size w w' → RetK w s (.returned (.tuple #[crv 0 0 0, .int .i64 15])) w') := fun h w' hb => by
    unfold RetK fK bK cK eK; rw [h]; exact ⟨rfl, hb⟩
  have HRT : Hid (okK s = true → ∀ w', Below w.heap.size w w' → RetK w s (.returned (.tuple #[crv (kf s) (kb s) (kc s), .int .i64 0])) w') := fun h w' hb => by
    unfold RetK fK bK cK eK; rw [h]; exact ⟨rfl, hb⟩
  cases hw : wdB s with
  | false =>
    have HF := Lib.hid (HRF.out (okK_word hw))
    rw [hw] at HCT
    clear hw HRF HRT
    generalize cutK s = ck at *
    go_enter Try.func15, Try.ntmps15
    go_wp2_with fail
    refine (HCT.out _).mono ?_
    rintro e w2 ⟨rfl, h2⟩
    unfold cells3 at HX0 HB0
    rw [h2] at HX0 HB0
    clear h2
    obtain ⟨c0, c1, c2⟩ := HX0.out.row
    have zr := HX0.out.fz
    go_wp2
    clear c0 c1 c2 zr
    have HX9 : Hid (KBox (put3 w2 w.heap.size 0 0 0) w.heap.size 0 0 0) := put3_box HX0.out
    have HB9 : Hid (Below w.heap.size w (put3 w2 w.heap.size 0 0 0)) := put3_below HB0.out (Nat.le_refl _)
    unfold put3 at HX9 HB9
    generalize World.setCell _ ⟨w.heap.size, 2, none⟩ _ = w9 at *
    obtain ⟨r0, r1, r2⟩ := HX9.out.row
    refine bodyPost_ret (v := .tuple #[crv 0 0 0, .int .i64 15]) (by simp [results, go_sem, r0, r1, r2, crv]) rfl ?_
    exact HF.out _ HB9.out
  | true =>
    have h10 := (wdB_t hw).1
    have HCK : Hid (cutK s = s.extract 10 s.size) := by show _ = _; unfold cutK; rw [if_pos hw]
    have hck : (cutK s).size ≤ 1000000000000000 := by rw [HCK.out, ByteArray.size_extract]; omega
    have HCS := Lib.hid hck
    rw [hw] at HCT
    clear hw hck
    by_cases h14 : s.size < 14
    · have HF := Lib.hid (HRF.out (okK_size (by omega)))
      obtain ⟨z, hz, hz0⟩ := read_short h14
      rw [← HCK.out] at hz
      have HRR := Lib.hid hz
      have hz1 : (z != 0) = true := by simpa using hz0
      clear hz HCK HRF HRT h14 h10
      generalize cutK s = ck at *
      go_enter Try.func15, Try.ntmps15
      go_wp2_with fail
      refine (HCT.out _).mono ?_
      rintro e w2 ⟨rfl, h2⟩
      unfold cells3 at HX0 HB0
      rw [h2] at HX0 HB0
      clear h2
      go_wp2_with fail
      refine (widths_any _).mono ?_
      rintro e w3 ⟨A3, c3, rfl, i3, b3⟩
      have HB3 := Lib.hid (HB0.out.trans (b3.mono HB0.out.size))
      have HX3 := Lib.hid (HX0.out.below b3 HX0.out.lt)
      have I3 := Lib.hid i3
      clear b3 i3 HX0 HB0
      go_wp2_with fail
      refine (read_any A3 3 c3 _ [1, 2, 1] ck w3 I3.out (Nat.le_refl _) (by omega) HCS.out).mono ?_
      rintro e w4 ⟨A4, n4, c4, rfl, _, _, b4⟩
      rw [HRR.out]
      have HB4 := Lib.hid (HB3.out.trans (b4.mono HB3.out.size))
      have HX4 := Lib.hid (HX3.out.below b4 HX3.out.lt)
      clear b4 I3 HB3 HX3
      obtain ⟨c0, c1, c2⟩ := HX4.out.row
      have zr := HX4.out.fz
      go_wp2
      clear c0 c1 c2 zr
      have HX9 : Hid (KBox (put3 w4 w.heap.size 0 0 0) w.heap.size 0 0 0) := put3_box HX4.out
      have HB9 : Hid (Below w.heap.size w (put3 w4 w.heap.size 0 0 0)) := put3_below HB4.out (Nat.le_refl _)
      unfold put3 at HX9 HB9
      generalize World.setCell _ ⟨w.heap.size, 2, none⟩ _ = w9 at *
      obtain ⟨r0, r1, r2⟩ := HX9.out.row
      refine bodyPost_ret (v := .tuple #[crv 0 0 0, .int .i64 15]) (by simp [results, go_sem, r0, r1, r2, crv]) rfl ?_
      exact HF.out _ HB9.out
    · have hz := read_rest (s := s) (by omega)
      rw [← HCK.out] at hz
      have HRR := Lib.hid hz
      have HOK : Hid (okK s = (rightK (kf s) (kb s) (kc s) && decide (blockK (kf s) (kb s) (kc s) = s))) := by show _ = _; rfl
      have HWT : Hid (∀ v, Calls Try.prog 9 #[crv (kf s) (kb s) (kc s)] v fun e w' => e = .returned (.tuple #[.string (writeK (kf s) (kb s) (kc s)).1, .int .i64 (writeK (kf s) (kb s) (kc s)).2]) ∧ Below v.heap.size v w') := fun v => write10_any _ _ _ v
      clear hz HCK h10
      generalize cutK s = ck at *
      generalize kf s = f at *
      generalize kb s = b at *
      generalize kc s = c at *
      go_enter Try.func15, Try.ntmps15
      go_wp2_with fail
      refine (HCT.out _).mono ?_
      rintro e w2 ⟨rfl, h2⟩
      unfold cells3 at HX0 HB0
      rw [h2] at HX0 HB0
      clear h2
      go_wp2_with fail
      refine (widths_any _).mono ?_
      rintro e w3 ⟨A3, c3, rfl, i3, b3⟩
      have HB3 := Lib.hid (HB0.out.trans (b3.mono HB0.out.size))
      have HX3 := Lib.hid (HX0.out.below b3 HX0.out.lt)
      have I3 := Lib.hid i3
      clear b3 i3 HX0 HB0
      go_wp2_with fail
      refine (read_any A3 3 c3 _ [1, 2, 1] ck w3 I3.out (Nat.le_refl _) (by omega) HCS.out).mono ?_
      rintro e w4 ⟨A4, n4, c4, rfl, hn4, i4, b4⟩
      rw [HRR.out] at i4 ⊢
      have hn : n4 = 3 := i4.len.symm
      subst hn
      have HB4 := Lib.hid (HB3.out.trans (b4.mono HB3.out.size))
      have HX4 := Lib.hid (HX3.out.below b4 HX3.out.lt)
      obtain ⟨g, o, rfl, hg, q0, q1, q2⟩ := three i4
      clear b4 I3 HB3 HX3 i4
      go_upto_region 7 with fail
      go_region
      clear q0 q1 q2
      have HG5 : Hid (KBox (w4.alloc (.cells #[.int .i64 f, .int .i64 b, .int .i64 c] 23)).drew w4.heap.size f b c) := KBox.new w4 f b c
      have b5 : Below w4.heap.size w4 (w4.alloc (.cells #[.int .i64 f, .int .i64 b, .int .i64 c] 23)).drew := Below.dr ((Below.refl _ _).alloc (Nat.le_refl _) _)
      have HX5 := Lib.hid (HX4.out.below b5 HX4.out.lt)
      have HB5 := Lib.hid (HB4.out.trans (b5.mono HB4.out.size))
      clear b5 HB4 HX4
      generalize (w4.alloc (.cells #[.int .i64 f, .int .i64 b, .int .i64 c] 23)).drew = w5 at *
      obtain ⟨e0, e1, e2⟩ := HG5.out.row
      go_wp2_with fail
      refine (HWT.out _).mono ?_
      rintro e w6 ⟨rfl, b6⟩
      have HB6 := Lib.hid (HB5.out.trans (b6.mono HB5.out.size))
      have HX6 := Lib.hid (HX5.out.below b6 HX5.out.lt)
      have HG6 := Lib.hid (HG5.out.below b6 HG5.out.lt)
      clear e0 e1 e2 b6 HB5 HX5 HG5 HWT
      generalize w4.heap.size = gg at *
      obtain ⟨e0, e1, e2⟩ := HG6.out.row
      obtain ⟨c0, c1, c2⟩ := HX6.out.row
      have zr := HX6.out.fz
      cases hr : rightK f b c with
      | false =>
        have HF := Lib.hid (HRF.out (by rw [HOK.out, hr]; rfl))
        rw [writeK_no hr]
        clear HRT HRF HOK hr
        go_wp2
        clear c0 c1 c2 zr e0 e1 e2
        have HX9 : Hid (KBox (put3 w6 w.heap.size 0 0 0) w.heap.size 0 0 0) := put3_box HX6.out
        have HB9 : Hid (Below w.heap.size w (put3 w6 w.heap.size 0 0 0)) := put3_below HB6.out (Nat.le_refl _)
        unfold put3 at HX9 HB9
        generalize World.setCell _ ⟨w.heap.size, 2, none⟩ _ = w9 at *
        obtain ⟨r0, r1, r2⟩ := HX9.out.row
        refine bodyPost_ret (v := .tuple #[crv 0 0 0, .int .i64 15]) (by simp [results, go_sem, r0, r1, r2, crv]) rfl ?_
        exact HF.out _ HB9.out
      | true =>
        rw [writeK_ok hr]
        by_cases hs : blockK f b c = s
        · have HF := Lib.hid (HRT.out (by rw [HOK.out, hr]; simpa using hs))
          clear HRT HRF HOK hr
          generalize blockK f b c = bk at *
          subst hs
          go_wp2
          clear c0 c1 c2 zr e0 e1 e2
          have HX9 : Hid (KBox (put3 w6 w.heap.size f b c) w.heap.size f b c) := put3_box HX6.out
          have HB9 : Hid (Below w.heap.size w (put3 w6 w.heap.size f b c)) := put3_below HB6.out (Nat.le_refl _)
          unfold put3 at HX9 HB9
          generalize World.setCell _ ⟨w.heap.size, 2, none⟩ _ = w9 at *
          obtain ⟨r0, r1, r2⟩ := HX9.out.row
          refine bodyPost_ret (v := .tuple #[crv f b c, .int .i64 0]) (by simp [results, go_sem, r0, r1, r2, crv]) rfl ?_
          exact HF.out _ HB9.out
        · have HF := Lib.hid (HRF.out (by rw [HOK.out, hr]; simpa using hs))
          have q1 : ((blockK f b c).toList == s.toList) = false := by rw [lists_eq, decide_eq_false hs]
          have q2 : ((blockK f b c).toList != s.toList) = true := by rw [bne, q1]; rfl
          clear HRT HRF HOK hr hs
          generalize blockK f b c = bk at *
          go_wp2
          clear c0 c1 c2 zr e0 e1 e2
          have HX9 : Hid (KBox (put3 w6 w.heap.size 0 0 0) w.heap.size 0 0 0) := put3_box HX6.out
          have HB9 : Hid (Below w.heap.size w (put3 w6 w.heap.size 0 0 0)) := put3_below HB6.out (Nat.le_refl _)
          unfold put3 at HX9 HB9
          generalize World.setCell _ ⟨w.heap.size, 2, none⟩ _ = w9 at *
          obtain ⟨r0, r1, r2⟩ := HX9.out.row
          refine bodyPost_ret (v := .tuple #[crv 0 0 0, .int .i64 15]) (by simp [results, go_sem, r0, r1, r2, crv]) rfl ?_
          exact HF.out _ HB9.out
end Go.Proofs.Ytbjmbnodckhikaa
