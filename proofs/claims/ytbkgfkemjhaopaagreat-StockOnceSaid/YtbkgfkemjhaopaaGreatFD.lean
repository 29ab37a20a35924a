/-
  WALKS of stock: Take, Drop, Free, Used, over a deal's view; all of them without a crown, and without a deal. Condition: a deal on a calm slab.
-/
import Derived.Test.YtbkgfkemjhaopaaGreatFC
set_option linter.unusedVariables false
set_option linter.unusedSimpArgs false
set_option maxRecDepth 100000
set_option maxHeartbeats 4000000
namespace Go.Proofs.YtbkgfkemjhaopaaGreat.Dl
open Go.RowKit
open Mk
open Sl (Turns SlabAt)
open Lg (Ch chCells chsCells FS LogAt Whole setL setL_len ownB bcell z128)
open Kr (crv rightK blockK okK kf kb kc KBox cells3 put3 put3_box put3_below marksK bit_marks marks_size I64 inB)

def ownV (V : List ByteArray) (i : Int) : Bool := okCr V && inB i 51 (crB V - 1)
def dpE (V : List ByteArray) (i : Int) : Int := if ownV V i = true then (if isB (mkB V) i = true then 0 else 15) else 15
def dpV (V : List ByteArray) (i : Int) : List ByteArray := if dpE V i = 0 then V.set 42 (setR (mkB V) i false) else V
def frN (V : List ByteArray) : Int := if okCr V = true then (fcn (mkB V) (crB V).toNat : Nat) else 0
def usB (V : List ByteArray) (i : Int) : Bool := ownV V i && isB (mkB V) i
def usE (V : List ByteArray) (i : Int) : Int := if okCr V = true then (if ownV V i = true then 0 else 1) else 15
theorem own_is {V : List ByteArray} (h : okCr V = true) (i : Int) : Kr.ownK (crF V) (crB V) (crC V) i = ownV V i := by
  unfold Kr.ownK ownV
  rw [(cr_b h).1, h]

section
variable {w0 w : World} {B d q p pd pm R r : Nat} {g : Fram} {N : Nat} {D V base now : List ByteArray}
theorem take_st (h : St w0 w B d q p pd pm R r g N D V base now) :
    Calls Tryz.prog 14 #[.pointer (some ⟨d, 0, none⟩)] w fun e w' => e = .returned (.tuple #[.int .i64 (rnA V 1), .int .i64 (rnE V 1)]) ∧ St w0 w' B d q p pd pm R r g N D (rnV V 1) base now := by
  have HR := Lib.hid (run_st 1 h (by unfold I64; omega))
  generalize rnA V 1 = a at *
  generalize rnL V 1 = l at *
  generalize rnE V 1 = z at *
  generalize rnV V 1 = V' at *
  clear h
  go_enter Tryz.func14, Tryz.ntmps14
  go_wp2_with (go_at_call 15; refine HR.out.mono ?_; rintro e w1 ⟨rfl, s1⟩)
  go_ret2
  exact ⟨rfl, s1⟩
theorem drop_no (B d q p pd pm k c : Nat) (D V : List ByteArray) (v : Value) (n : Int) (w : World) (h : DV w B d q p pd pm k c D V v) (ho : okCr V = false) :
    Calls Tryz.prog 16 #[.pointer (some ⟨d, 0, none⟩), .int .i64 n] w fun e w' => e = .returned (.int .i64 15) ∧ Below w.heap.size w w' := by
  have HLD := Lib.hid (load_dv B d q p pd pm k c D V v w h)
  have e2 := (cr_no ho).2
  have e3 : ldB V = ⟨#[]⟩ := by unfold ldB; rw [ho]; rfl
  rw [e2, e3] at HLD
  clear h ho e2 e3
  generalize crF V = f at *
  generalize crB V = b at *
  generalize crC V = u at *
  unfold crv at *
  go_enter Tryz.func16, Tryz.ntmps16
  go_wp2_with (go_at_call 38; refine HLD.out.mono ?_; rintro e w1 ⟨rfl, b1⟩)
  go_ret
  exact ⟨rfl, b1.alloc b1.size _⟩
theorem free_no (B d q p pd pm k c : Nat) (D V : List ByteArray) (v : Value) (w : World) (h : DV w B d q p pd pm k c D V v) (ho : okCr V = false) :
    Calls Tryz.prog 17 #[.pointer (some ⟨d, 0, none⟩)] w fun e w' => e = .returned (.tuple #[.int .i64 0, .int .i64 15]) ∧ Below w.heap.size w w' := by
  have HLD := Lib.hid (load_dv B d q p pd pm k c D V v w h)
  have e2 := (cr_no ho).2
  have e3 : ldB V = ⟨#[]⟩ := by unfold ldB; rw [ho]; rfl
  rw [e2, e3] at HLD
  clear h ho e2 e3
  generalize crF V = f at *
  generalize crB V = b at *
  generalize crC V = u at *
  unfold crv at *
  go_enter Tryz.func17, Tryz.ntmps17
  go_wp2_with (go_at_call 38; refine HLD.out.mono ?_; rintro e w1 ⟨rfl, b1⟩)
  go_ret2
  exact ⟨rfl, b1.alloc b1.size _⟩
theorem used_no (B d q p pd pm k c : Nat) (D V : List ByteArray) (v : Value) (n : Int) (w : World) (h : DV w B d q p pd pm k c D V v) (ho : okCr V = false) :
    Calls Tryz.prog 18 #[.pointer (some ⟨d, 0, none⟩), .int .i64 n] w fun e w' => e = .returned (.tuple #[.bool false, .int .i64 15]) ∧ Below w.heap.size w w' := by
  have HLD := Lib.hid (load_dv B d q p pd pm k c D V v w h)
  have e2 := (cr_no ho).2
  have e3 : ldB V = ⟨#[]⟩ := by unfold ldB; rw [ho]; rfl
  rw [e2, e3] at HLD
  clear h ho e2 e3
  generalize crF V = f at *
  generalize crB V = b at *
  generalize crC V = u at *
  unfold crv at *
  go_enter Tryz.func18, Tryz.ntmps18
  go_wp2_with (go_at_call 38; refine HLD.out.mono ?_; rintro e w1 ⟨rfl, b1⟩)
  go_ret2
  exact ⟨rfl, b1.alloc b1.size _⟩
theorem take_no (B d q p pd pm k c : Nat) (D V : List ByteArray) (v : Value) (w : World) (h : DV w B d q p pd pm k c D V v) (ho : okCr V = false) :
    Calls Tryz.prog 14 #[.pointer (some ⟨d, 0, none⟩)] w fun e w' => e = .returned (.tuple #[.int .i64 0, .int .i64 15]) ∧ Below w.heap.size w w' := by
  have HR := Lib.hid (run_no B d q p pd pm k c D V v 1 w h ho)
  clear h
  go_enter Tryz.func14, Tryz.ntmps14
  go_wp2_with (go_at_call 15; refine HR.out.mono ?_; rintro e w1 ⟨rfl, s1⟩)
  go_ret2
  exact ⟨rfl, s1⟩
theorem load_nil (w : World) : Calls Tryz.prog 38 #[.pointer none] w fun e w' => e = .returned (.tuple #[crv 0 0 0, .string ⟨#[]⟩, .int .i64 1]) ∧ Below w.heap.size w w' := by
  have HCR := Lib.hid (fun W => crown_nil W)
  have HNB : Hid (∀ (W : World) (o : Obj), Below W.heap.size W (W.alloc o)) := fun W o => (Below.refl _ _).alloc (Nat.le_refl _) _
  have HX0 : Hid (KBox (w.alloc (.cells #[.int .i64 0, .int .i64 0, .int .i64 0] 62)) w.heap.size 0 0 0) := KBox.new3 _ _ _ _
  have HB0 : Hid (Below w.heap.size w (w.alloc (.cells #[.int .i64 0, .int .i64 0, .int .i64 0] 62))) := (Below.refl _ _).alloc (Nat.le_refl _) _
  unfold crv at *
  go_enter Tryz.func38, Tryz.ntmps38
  go_wp2_with (go_at_call 66; refine (HCR.out _).mono ?_; rintro e w1 ⟨rfl, b1⟩
               have HB1 := Lib.hid ((HB0.out.trans (b1.mono HB0.out.size)).alloc (Nat.le_trans HB0.out.size b1.size) (.cells #[.int .i64 0, .int .i64 0, .int .i64 0] 62))
               have HX1 := Lib.hid ((HX0.out.below b1 HX0.out.lt).below (HNB.out w1 (.cells #[.int .i64 0, .int .i64 0, .int .i64 0] 62)) (Nat.lt_of_lt_of_le HX0.out.lt b1.size))
               obtain ⟨r0, r1, r2⟩ := HX1.out.row
               have zr := HX1.out.fz
               clear b1 HX0 HB0)
  generalize w1.alloc (.cells #[.int .i64 0, .int .i64 0, .int .i64 0] 62) = w2 at *
  clear r0 r1 r2 zr
  have HX9 : Hid (KBox (put3 w2 w.heap.size 0 0 0) w.heap.size 0 0 0) := put3_box HX1.out
  have HB9 : Hid (Below w.heap.size w (put3 w2 w.heap.size 0 0 0)) := put3_below HB1.out (Nat.le_refl _)
  unfold put3 at HX9 HB9
  generalize World.setCell _ ⟨w.heap.size, 2, none⟩ _ = w9 at *
  obtain ⟨r0, r1, r2⟩ := HX9.out.row
  refine bodyPost_ret (v := .tuple #[crv 0 0 0, .string ⟨#[]⟩, .int .i64 1]) (by simp [results, go_sem, r0, r1, r2, crv]) rfl ?_
  exact ⟨rfl, HB9.out⟩
theorem take_nil (w : World) : Calls Tryz.prog 14 #[.pointer none] w fun e w' => e = .returned (.tuple #[.int .i64 0, .int .i64 1]) ∧ Below w.heap.size w w' := by
  have HR : Hid (Calls Tryz.prog 15 #[.pointer none, .int .i64 1] w fun e w' => e = .returned (.tuple #[.int .i64 0, .int .i64 0, .int .i64 1]) ∧ Below w.heap.size w w') := by
    have HLD := Lib.hid (load_nil w)
    unfold crv at *
    go_enter Tryz.func15, Tryz.ntmps15
    go_wp2_with (go_at_call 38; refine HLD.out.mono ?_; rintro e w1 ⟨rfl, b1⟩)
    go_ret3
    exact ⟨rfl, b1.alloc b1.size _⟩
  go_enter Tryz.func14, Tryz.ntmps14
  go_wp2_with (go_at_call 15; refine HR.out.mono ?_; rintro e w1 ⟨rfl, s1⟩)
  go_ret2
  exact ⟨rfl, s1⟩

/-! ### with one -/
theorem drop_st (i : Int) (h : St w0 w B d q p pd pm R r g N D V base now) (hi : I64 i) :
    Calls Tryz.prog 16 #[.pointer (some ⟨d, 0, none⟩), .int .i64 i] w fun e w' => e = .returned (.int .i64 (dpE V i)) ∧ St w0 w' B d q p pd pm R r g N D (dpV V i) base now := by
  unfold dpV dpE
  cases ho : okCr V with
  | false =>
    have e1 : ownV V i = false := by unfold ownV; rw [ho]; rfl
    rw [e1]
    simp only [if_neg (by decide : ¬ false = true), if_neg (by decide : ¬ (15 : Int) = 0)]
    obtain ⟨v, gb, cb, gn, cn, dv, rd⟩ := h.ex
    exact (drop_no B d q p pd pm 0 0 D V v i w dv ho).mono fun e w' hx => ⟨hx.1, h.below hx.2⟩
  | true =>
    have HLD := Lib.hid (st_load h)
    have e3 : ldB V = mkB V := by unfold ldB; rw [ho]; rfl
    rw [cr_ok ho, e3] at HLD
    have hz := h.mk_size
    have HOW := Lib.hid (fun W => Kr.owned_any (crF V) (crB V) (crC V) i W)
    rw [own_is ho] at HOW
    have HIS := Lib.hid (fun W => is_any (mkB V) i W (by rw [hz]; omega) hi)
    have HSET := Lib.hid (fun W => set_any (mkB V) i false W (by rw [hz]; omega) hi)
    have HS := Lib.hid (fun W (hW : Below w.heap.size w W) => h.below hW)
    have hsz : (setR (mkB V) i false).size = 128 := (setR_size _ _ _).trans hz
    obtain ⟨em1, em2⟩ := wr_marks (V := V) (s := setR (mkB V) i false) (by rw [h.lenV]; have := h.least; omega) hsz
    have HWR := Lib.hid (fun W (hW : Below w.heap.size w W) => st_write (h.below hW) 42 (setR (mkB V) i false) (by rw [hsz]; omega))
    rw [em1, em2] at HWR
    clear h ho e3 hz hi em1 em2 hsz
    generalize V.set 42 (setR (mkB V) i false) = V2 at *
    generalize setR (mkB V) i false = s at *
    generalize crF V = f at *
    generalize crB V = b at *
    generalize crC V = u at *
    generalize isB (mkB V) i = z at *
    generalize mkB V = m at *
    generalize ownV V i = o at *
    unfold crv at *
    cases o with
    | false =>
      simp only [if_neg (by decide : ¬ false = true), if_neg (by decide : ¬ (15 : Int) = 0)]
      go_enter Tryz.func16, Tryz.ntmps16
      go_wp2_with (first
        | (go_at_call 38; refine HLD.out.mono ?_; rintro e w1 ⟨rfl, b1⟩
           have HB1 := Lib.hid (b1.alloc b1.size (.cells #[.int .i64 f, .int .i64 b, .int .i64 u] 62))
           obtain ⟨y0, y1, y2⟩ := (KBox.new3 w1 f b u).row
           clear b1)
        | (go_at_call 41; refine (HOW.out _).mono ?_; rintro e w2 ⟨rfl, b2⟩))
      go_ret
      exact ⟨rfl, HS.out _ (HB1.out.trans (b2.mono HB1.out.size))⟩
    | true =>
      cases z with
      | false =>
        simp only [if_pos, if_neg (by decide : ¬ false = true), if_neg (by decide : ¬ (15 : Int) = 0)]
        go_enter Tryz.func16, Tryz.ntmps16
        go_wp2_with (first
          | (go_at_call 38; refine HLD.out.mono ?_; rintro e w1 ⟨rfl, b1⟩
             have HB1 := Lib.hid (b1.alloc b1.size (.cells #[.int .i64 f, .int .i64 b, .int .i64 u] 62))
             obtain ⟨y0, y1, y2⟩ := (KBox.new3 w1 f b u).row
             clear b1)
          | (go_at_call 41; refine (HOW.out _).mono ?_; rintro e w2 ⟨rfl, b2⟩
             have HB2 := Lib.hid (HB1.out.trans (b2.mono HB1.out.size))
             clear b2)
          | (go_at_call 42; refine (HIS.out _).mono ?_; rintro e w3 ⟨rfl, n3, rfl⟩))
        go_ret
        exact ⟨rfl, HS.out _ (Lg.Below.drews HB2.out ⟨_, rfl⟩)⟩
      | true =>
        simp only [if_pos]
        go_enter Tryz.func16, Tryz.ntmps16
        go_wp2_with (first
          | (go_at_call 38; refine HLD.out.mono ?_; rintro e w1 ⟨rfl, b1⟩
             have HB1 := Lib.hid (b1.alloc b1.size (.cells #[.int .i64 f, .int .i64 b, .int .i64 u] 62))
             obtain ⟨y0, y1, y2⟩ := (KBox.new3 w1 f b u).row
             clear b1)
          | (go_at_call 41; refine (HOW.out _).mono ?_; rintro e w2 ⟨rfl, b2⟩
             have HB2 := Lib.hid (HB1.out.trans (b2.mono HB1.out.size))
             clear b2)
          | (go_at_call 42; refine (HIS.out _).mono ?_; rintro e w3 ⟨rfl, d3⟩
             have hb3 : Below w.heap.size w w3 := Lg.Below.drews HB2.out d3)
          | (go_at_call 40; refine (HSET.out _).mono ?_; rintro e w4 ⟨rfl, b4⟩
             have hb4 := hb3.trans (b4.mono hb3.size))
          | (go_at_call 27; refine (HWR.out _ hb4).mono ?_; rintro e w5 ⟨rfl, s5⟩))
        go_ret
        exact ⟨rfl, s5⟩
theorem used_st (i : Int) (h : St w0 w B d q p pd pm R r g N D V base now) (hi : I64 i) :
    Calls Tryz.prog 18 #[.pointer (some ⟨d, 0, none⟩), .int .i64 i] w fun e w' => e = .returned (.tuple #[.bool (usB V i), .int .i64 (usE V i)]) ∧ Below w.heap.size w w' := by
  unfold usB usE
  cases ho : okCr V with
  | false =>
    have e1 : ownV V i = false := by unfold ownV; rw [ho]; rfl
    rw [e1]
    simp only [if_neg (by decide : ¬ false = true), Bool.false_and]
    obtain ⟨v, gb, cb, gn, cn, dv, rd⟩ := h.ex
    exact used_no B d q p pd pm 0 0 D V v i w dv ho
  | true =>
    have HLD := Lib.hid (st_load h)
    have e3 : ldB V = mkB V := by unfold ldB; rw [ho]; rfl
    rw [cr_ok ho, e3] at HLD
    have hz := h.mk_size
    have HOW := Lib.hid (fun W => Kr.owned_any (crF V) (crB V) (crC V) i W)
    rw [own_is ho] at HOW
    have HIS := Lib.hid (fun W => is_any (mkB V) i W (by rw [hz]; omega) hi)
    simp only [if_pos]
    clear h ho e3 hz hi
    generalize crF V = f at *
    generalize crB V = b at *
    generalize crC V = u at *
    generalize isB (mkB V) i = z at *
    generalize mkB V = m at *
    generalize ownV V i = o at *
    unfold crv at *
    cases o with
    | false =>
      simp only [if_neg (by decide : ¬ false = true), Bool.false_and]
      go_enter Tryz.func18, Tryz.ntmps18
      go_wp2_with (first
        | (go_at_call 38; refine HLD.out.mono ?_; rintro e w1 ⟨rfl, b1⟩
           have HB1 := Lib.hid (b1.alloc b1.size (.cells #[.int .i64 f, .int .i64 b, .int .i64 u] 62))
           obtain ⟨y0, y1, y2⟩ := (KBox.new3 w1 f b u).row
           clear b1)
        | (go_at_call 41; refine (HOW.out _).mono ?_; rintro e w2 ⟨rfl, b2⟩))
      go_ret2
      exact ⟨rfl, HB1.out.trans (b2.mono HB1.out.size)⟩
    | true =>
      simp only [if_pos, Bool.true_and]
      go_enter Tryz.func18, Tryz.ntmps18
      go_wp2_with (first
        | (go_at_call 38; refine HLD.out.mono ?_; rintro e w1 ⟨rfl, b1⟩
           have HB1 := Lib.hid (b1.alloc b1.size (.cells #[.int .i64 f, .int .i64 b, .int .i64 u] 62))
           obtain ⟨y0, y1, y2⟩ := (KBox.new3 w1 f b u).row
           clear b1)
        | (go_at_call 41; refine (HOW.out _).mono ?_; rintro e w2 ⟨rfl, b2⟩
           have HB2 := Lib.hid (HB1.out.trans (b2.mono HB1.out.size))
           clear b2)
        | (go_at_call 42; refine (HIS.out _).mono ?_; rintro e w3 ⟨rfl, n3, rfl⟩))
      go_ret2
      exact ⟨rfl, Lg.Below.drews HB2.out ⟨_, rfl⟩⟩
theorem free_st (h : St w0 w B d q p pd pm R r g N D V base now) :
    Calls Tryz.prog 17 #[.pointer (some ⟨d, 0, none⟩)] w fun e w' => e = .returned (.tuple #[.int .i64 (frN V), .int .i64 (crE V)]) ∧ Below w.heap.size w w' := by
  unfold frN
  cases ho : okCr V with
  | false =>
    rw [(cr_no ho).2]
    simp only [if_neg (by decide : ¬ false = true)]
    obtain ⟨v, gb, cb, gn, cn, dv, rd⟩ := h.ex
    exact free_no B d q p pd pm 0 0 D V v w dv ho
  | true =>
    have HLD := Lib.hid (st_load h)
    have e3 : ldB V = mkB V := by unfold ldB; rw [ho]; rfl
    rw [cr_ok ho, e3] at HLD
    rw [cr_ok ho]
    obtain ⟨k1, k2, k3, k4⟩ := cr_b ho
    have hz := h.mk_size
    have HNF := Lib.hid (fun W => notFree_any (crF V) (crB V) (crC V) (mkB V) W hz (by unfold I64; omega))
    have HCN := Lib.hid (fun W => count_any (usedB (crB V) (mkB V)) (crB V) W (by rw [used_size]; omega) (by omega))
    have hfr := free_is (mkB V) (crB V).toNat hz (by omega)
    rw [show (((crB V).toNat : Nat) : Int) = crB V by omega] at hfr
    simp only [if_pos]
    rw [← hfr]
    have hbd : 0 ≤ cntR (usedB (crB V) (mkB V)) (crB V) ∧ cntR (usedB (crB V) (mkB V)) (crB V) ≤ 100000 := by
      unfold cntR
      have := cnt_le (usedB (crB V) (mkB V)) (min (crB V) 100000).toNat
      omega
    clear h ho e3 hz hfr k1 k4
    generalize cntR (usedB (crB V) (mkB V)) (crB V) = cn at *
    generalize usedB (crB V) (mkB V) = us at *
    generalize crF V = f at *
    generalize crB V = b at *
    generalize crC V = u at *
    generalize mkB V = m at *
    unfold crv at *
    go_enter Tryz.func17, Tryz.ntmps17
    go_wp2_with (first
      | (go_at_call 38; refine HLD.out.mono ?_; rintro e w1 ⟨rfl, b1⟩
         have HB1 := Lib.hid (b1.alloc b1.size (.cells #[.int .i64 f, .int .i64 b, .int .i64 u] 62))
         have HX1 := Lib.hid (KBox.new3 w1 f b u)
         obtain ⟨y0, y1, y2⟩ := HX1.out.row
         clear b1))
    generalize w1.heap.size = gx at *
    generalize w1.alloc (.cells #[.int .i64 f, .int .i64 b, .int .i64 u] 62) = W1 at *
    have HW1 : Hid (w.heap.size ≤ W1.heap.size) := HB1.out.size
    clear y0 y1 y2
    go_region_held3 (fun v' => v'.cell? ⟨gx, 0, none⟩ = some (.int .i64 f) ∧ v'.cell? ⟨gx, 1, none⟩ = some (.int .i64 b) ∧ v'.cell? ⟨gx, 2, none⟩ = some (.int .i64 u))
      (first | exact HX1.out.row | exact HX2.out.row | exact HX3.out.row)
      (first
        | (go_at_call 43; go_must (go_fit (HCN.out _)); rintro e w3 ⟨rfl, d3⟩
           have HB3 : Hid (Below w.heap.size w w3) := Lg.Below.drews HB2.out d3
           have HX3 : Hid (KBox w3 gx f b u) := by obtain ⟨n3, rfl⟩ := d3; exact HX2.out
           clear d3)
        | (go_at_call 44; go_must (go_fit (HNF.out _)); rintro e w2 ⟨rfl, b2⟩
           have HB2 : Hid (Below w.heap.size w w2) := HB1.out.drew.trans (b2.mono HB1.out.size)
           have HX2 : Hid (KBox w2 gx f b u) := (show KBox W1.drew gx f b u from HX1.out).below b2 HX1.out.lt
           clear b2))
    all_goals
      rw [show IntKind.i64.wrap (b - cn) = b - cn from IntWalk.i64_in _ (by omega)]
      go_wp2
      go_ret2
      exact ⟨rfl, HB3.out⟩
end
end Go.Proofs.YtbkgfkemjhaopaaGreat.Dl
