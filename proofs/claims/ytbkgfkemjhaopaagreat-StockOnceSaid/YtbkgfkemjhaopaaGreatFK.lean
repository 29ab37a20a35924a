/-
  WALKS: the kind of a step; a size; the head of a script; a step; both have the same blocks. Condition: a deal on a calm slab, beside the reference's.
-/
import Derived.Test.YtbkgfkemjhaopaaGreatFJ
set_option linter.unusedVariables false
set_option linter.unusedSimpArgs false
set_option maxRecDepth 100000
set_option maxHeartbeats 4000000
namespace Go.Proofs.YtbkgfkemjhaopaaGreat.Dl
open Go.RowKit
open Mk
open Sl (Turns SlabAt)
open Lg (Ch chCells chsCells FS LogAt Whole setL setL_len ownB bcell z128 newD newD_len newD_whole newD_get SsAt)
open Kr (crv rightK blockK okK kf kb kc KBox cells3 put3 put3_box put3_below marksK bit_marks marks_size I64 inB)

/-- a step: its kind and its number. -/
structure OpS where
  k : Int
  n : Int
abbrev opv (o : OpS) : Value := .agg #[.int .i64 o.k, .int .i64 o.n]
abbrev ocells (o : OpS) : Array Value := #[.int .i64 o.k, .int .i64 o.n]
def OpS.fit (o : OpS) : Prop := I64 o.k ∧ I64 o.n
def kdO (o : OpS) : Int := o.k % 18446744073709551616 % 4
theorem kdO_b (o : OpS) : 0 ≤ kdO o ∧ kdO o ≤ 3 := by unfold kdO; omega
/-- the step o, in block g, known whole. -/
def ORow (W : World) (g : Nat) (o : OpS) : Prop := W.heap[g]? = some (.cells (ocells o) 30 (0, 0))
section
variable {W W' : World} {g : Nat} {o : OpS}
theorem ORow.lt (h : ORow W g o) : g < W.heap.size := (Array.getElem?_eq_some_iff.1 h).1
theorem ORow.new (w : World) (o : OpS) : ORow (w.alloc (.cells (ocells o) 30)) w.heap.size o := heap_alloc_new w _
theorem ORow.turns {L : List Nat} (h : ORow W g o) (ht : Turns L W W') (hg : g ∉ L) : ORow W' g o := (ht.block g h.lt hg).trans h
theorem ORow.below (h : ORow W g o) (hb : Below W.heap.size W W') : ORow W' g o := h.turns (Turns.of_below [] hb) (by simp)
theorem ORow.cells (h : ORow W g o) : W.cell? ⟨g, 0, none⟩ = some (.int .i64 o.k) ∧ W.cell? ⟨g, 1, none⟩ = some (.int .i64 o.n) := by
  refine ⟨?_, ?_⟩ <;> (rw [cell_of_row W _ _ _ 30 _ h]; rfl)
end
theorem kind13_any (o : OpS) (w : World) : Calls Tryz.prog 13 #[opv o] w fun e w' => e = .returned (.int .i64 (kdO o)) ∧ Below w.heap.size w w' := by
  have HB0 : Hid (Below w.heap.size w (w.alloc (.cells (ocells o) 30))) := (Below.refl _ _).alloc (Nat.le_refl _) _
  have HK := Lib.hid (kdO_b o)
  have c0 := (ORow.new w o).cells.1
  unfold ocells at HB0 c0
  go_enter Tryz.func13, Tryz.ntmps13
  go_wp2
  go_ret
  exact ⟨by show Ending.returned (.int .i64 (wrap64 ((IntKind.u64.wrap o.k).tmod 4))) = _; rw [mod_num _ _ (by decide)]; rfl, HB0.out⟩
def sizeN (n : Int) : Nat := 64 + (n % 18446744073709551616 % 337).toNat
theorem sizeN_b (n : Int) : 64 ≤ sizeN n ∧ sizeN n ≤ 400 := by unfold sizeN; omega
theorem size13_any (n : Int) (w : World) : Calls Tryz.prog 9 #[.int .i64 n] w fun e w' => e = .returned (.int .i64 (sizeN n : Int)) ∧ w = w' := by
  have HE : Hid (wrap64 (64 + wrap64 ((IntKind.u64.wrap n).tmod 337)) = (sizeN n : Int)) := by
    show _ = _
    rw [mod_num _ _ (by decide)]
    unfold sizeN wrap64
    omega
  go_enter Tryz.func9, Tryz.ntmps9
  go_wp2
  go_ret
  exact ⟨by show Ending.returned (.int .i64 (wrap64 (64 + wrap64 ((IntKind.u64.wrap n).tmod 337)))) = _; rw [HE.out], rfl⟩
theorem early13_any (A : Option Addr) (n c : Nat) (w : World) (hnc : n ≤ c) :
    Calls Tryz.prog 10 #[.slice A n c] w fun e w' => e = .returned (.slice A (min n 60) c) ∧ w = w' := by
  by_cases h : n ≤ 60
  · have hm : min n 60 = n := Nat.min_eq_left h
    have hmi : min (n : Int) 60 = (n : Int) := by omega
    have HM := Lib.hid hm
    generalize min n 60 = r at *
    clear hm
    go_enter Tryz.func10, Tryz.ntmps10
    go_wp2
    go_ret
    exact ⟨by rw [HM.out]; rfl, rfl⟩
  · have hm : min n 60 = 60 := Nat.min_eq_right (by omega)
    have hmi : min (n : Int) 60 = 60 := by omega
    have HM := Lib.hid hm
    have hc25 : ¬ (c : Int) < 60 := by omega
    generalize min n 60 = r at *
    clear hm
    go_enter Tryz.func10, Tryz.ntmps10
    go_wp2
    go_ret
    exact ⟨by rw [HM.out]; rfl, rfl⟩

/-! ### a step -/
def stV (V : List ByteArray) (o : OpS) : List ByteArray := if kdO o = 0 then rnV V 1 else if kdO o = 1 then rnV V o.n else if kdO o = 2 then dpV V o.n else V
section
variable {w0 w : World} {B d q p pd pm R r : Nat} {g : Fram} {N : Nat} {D V base now : List ByteArray}
theorem whole_rn {now : List ByteArray} (h : Whole now) (n : Int) (h1 : 64 ≤ now.length) : Whole (rnV now n) := by
  unfold rnV
  split
  · have hz : ∀ a k, Whole (zTo now a k) := fun a k => by
      induction k with
      | zero => exact h
      | succ k ih => exact ih.set _ (by rfl)
    exact (hz _ _).set _ (by rw [take_size]; exact h.get (k := 42) (by omega))
  · exact h
theorem whole_dp {now : List ByteArray} (h : Whole now) (n : Int) (h1 : 64 ≤ now.length) : Whole (dpV now n) := by
  unfold dpV
  split
  · exact h.set _ (by rw [setR_size]; exact h.get (k := 42) (by omega))
  · exact h
theorem st_rtake (h : St w0 w B d q p pd pm R r g N D V base now) :
    Calls Tryz.prog 30 #[.pointer (some ⟨r, 0, none⟩)] w fun e w' => e = .returned (.tuple #[.int .i64 (rnA now 1), .int .i64 (rnE now 1)]) ∧ St w0 w' B d q p pd pm R r g N D V base (rnV now 1) := by
  obtain ⟨v, gb, cb, gn, cn, dv, rd⟩ := h.ex
  exact (rtake_any R r gb cb gn cn N base now w rd h.least h.most h.wn).mono fun e w' hx => ⟨hx.1, h.refd dv rd hx.2.1 hx.2.2 (whole_rn h.wn 1 (by rw [h.lenN]; exact h.least))⟩
theorem st_rrun (n : Int) (h : St w0 w B d q p pd pm R r g N D V base now) (hn : I64 n) :
    Calls Tryz.prog 31 #[.pointer (some ⟨r, 0, none⟩), .int .i64 n] w fun e w' => e = .returned (.tuple #[.int .i64 (rnA now n), .int .i64 (rnL now n), .int .i64 (rnE now n)]) ∧ St w0 w' B d q p pd pm R r g N D V base (rnV now n) := by
  obtain ⟨v, gb, cb, gn, cn, dv, rd⟩ := h.ex
  exact (rrun_any R r gb cb gn cn N base now n w rd h.least h.most h.wn hn).mono fun e w' hx => ⟨hx.1, h.refd dv rd hx.2.1 hx.2.2 (whole_rn h.wn n (by rw [h.lenN]; exact h.least))⟩
theorem st_rdrop (i : Int) (h : St w0 w B d q p pd pm R r g N D V base now) (hi : I64 i) :
    Calls Tryz.prog 32 #[.pointer (some ⟨r, 0, none⟩), .int .i64 i] w fun e w' => e = .returned (.int .i64 (dpE now i)) ∧ St w0 w' B d q p pd pm R r g N D V base (dpV now i) := by
  obtain ⟨v, gb, cb, gn, cn, dv, rd⟩ := h.ex
  exact (rdrop_any R r gb cb gn cn N base now i w rd h.least h.most h.wn hi).mono fun e w' hx => ⟨hx.1, h.refd dv rd hx.2.1 hx.2.2 (whole_dp h.wn i (by rw [h.lenN]; exact h.least))⟩
theorem st_rused (i : Int) (h : St w0 w B d q p pd pm R r g N D V base now) (hi : I64 i) :
    Calls Tryz.prog 33 #[.pointer (some ⟨r, 0, none⟩), .int .i64 i] w fun e w' => e = .returned (.tuple #[.bool (usB now i), .int .i64 (usE now i)]) ∧ Below w.heap.size w w' := by
  obtain ⟨v, gb, cb, gn, cn, dv, rd⟩ := h.ex
  exact rused_any R r gb cb gn cn N base now i w rd h.least h.most h.wn hi
theorem st_rfree (h : St w0 w B d q p pd pm R r g N D V base now) :
    Calls Tryz.prog 34 #[.pointer (some ⟨r, 0, none⟩)] w fun e w' => e = .returned (.tuple #[.int .i64 (frN now), .int .i64 (crE now)]) ∧ Below w.heap.size w w' := by
  obtain ⟨v, gb, cb, gn, cn, dv, rd⟩ := h.ex
  exact rfree_any R r gb cb gn cn N base now w rd h.least h.most h.wn

theorem st_cells {j : Nat} {o : OpS} (h : St w0 w B d q p pd pm R r (g.add j (ocells o) 30) N D V base now) : w.cell? ⟨g.at_, 0, none⟩ = some (.pointer (some ⟨d, 0, none⟩)) ∧ w.cell? ⟨g.at_, 1, none⟩ = some (.pointer (some ⟨r, 0, none⟩)) ∧ w.cell? ⟨j, 0, none⟩ = some (.int .i64 o.k) ∧ w.cell? ⟨j, 1, none⟩ = some (.int .i64 o.n) :=
  ⟨h.c0, h.c1, (show ORow w j o from h.box).cells⟩
theorem step13_any (o : OpS) (h : St w0 w B d q p pd pm R r g N D V base now) (ha : Agree N V D now base) (ho : o.fit) :
    Calls Tryz.prog 11 #[.pointer (some ⟨g.at_, 0, none⟩), opv o] w fun e w' => e = .returned (.bool true) ∧ ∃ now', St w0 w' B d q p pd pm R r g N D (stV V o) base now' ∧ Agree N (stV V o) D now' base := by
  have HX0 : Hid (ORow (w.alloc (.cells (ocells o) 30)) w.heap.size o) := ORow.new w o
  have HB0 : Hid (Below w.heap.size w (w.alloc (.cells (ocells o) 30))) := (Below.refl _ _).alloc (Nat.le_refl _) _
  have HK := Lib.hid (fun W => kind13_any o W)
  have HS := Lib.hid (fun W (hW : Below w.heap.size w W) => h.below hW)
  have hl := h.lenV
  have hl2 := h.lenN
  have hz := h.mk_size
  have hN := h.least
  have HR1 := Lib.hid (ha.run hl hl2 hN hz 1)
  have HRN := Lib.hid (ha.run hl hl2 hN hz o.n)
  have HDP := Lib.hid (ha.drop hl hl2 hN o.n)
  have HTL := Lib.hid (ha.tell hl hl2 hN o.n)
  have HA := Lib.hid ha
  have HF := Lib.hid ho
  have hkb := kdO_b o
  unfold stV
  unfold ocells at *
  unfold opv at *
  clear hl hl2 hz hN ha ho h
  rcases (by omega : kdO o = 0 ∨ kdO o = 1 ∨ kdO o = 2 ∨ kdO o = 3) with e | e | e | e
  · rw [e] at HK ⊢
    simp only [if_pos]
    clear e hkb HRN HDP HTL
    go_enter Tryz.func11, Tryz.ntmps11
    obtain ⟨x0, x1⟩ := HX0.out.cells
    go_wp2_with (first
      | (go_at_call 13; refine (HK.out _).mono ?_; rintro e w1 ⟨rfl, b1⟩
         have HB1 := Lib.hid (HB0.out.trans (b1.mono HB0.out.size))
         have s1 := (HS.out _ HB1.out).add (HX0.out.below b1) (by decide)
         obtain ⟨c0, c1, x0, x1⟩ := st_cells s1
         clear b1)
      | (go_at_call 14; refine (take_st s1).mono ?_; rintro e w2 ⟨rfl, s2⟩
         obtain ⟨c0, c1, x0, x1⟩ := st_cells s2
         have h3 := st_rtake s2
         rw [HR1.out.1, HR1.out.2.2.1] at h3)
      | (go_at_call 30; refine h3.mono ?_; rintro e w3 ⟨rfl, s3⟩))
    go_ret
    exact ⟨rfl, _, s3.drop, HR1.out.2.2.2⟩
  · rw [e] at HK ⊢
    simp only [if_neg (by decide : ¬ (1 : Int) = 0), if_pos]
    clear e hkb HR1 HDP HTL
    go_enter Tryz.func11, Tryz.ntmps11
    obtain ⟨x0, x1⟩ := HX0.out.cells
    go_wp2_with (first
      | (go_at_call 13; refine (HK.out _).mono ?_; rintro e w1 ⟨rfl, b1⟩
         have HB1 := Lib.hid (HB0.out.trans (b1.mono HB0.out.size))
         have S1 := Lib.hid ((HS.out _ HB1.out).add (HX0.out.below b1) (by decide))
         obtain ⟨c0, c1, x0, x1⟩ := st_cells S1.out
         clear b1))
    go_region_held3 (fun v' => v'.cell? ⟨g.at_, 0, none⟩ = some (.pointer (some ⟨d, 0, none⟩)) ∧ v'.cell? ⟨g.at_, 1, none⟩ = some (.pointer (some ⟨r, 0, none⟩)) ∧ v'.cell? ⟨w.heap.size, 0, none⟩ = some (.int .i64 o.k) ∧ v'.cell? ⟨w.heap.size, 1, none⟩ = some (.int .i64 o.n))
      (first | exact st_cells (S1.out.below (Below.refl _ _).drew) | exact st_cells S2.out)
      (first
        | (go_at_call 15; go_must (go_fit (run_st o.n (S1.out.below (Below.refl _ _).drew) HF.out.2)); rintro e w2 ⟨rfl, s2⟩
           have S2 := Lib.hid s2
           clear s2))
    obtain ⟨c0, c1, x0, x1⟩ := st_cells S2.out
    go_wp2_with fail
    go_region_held3 (fun v' => v'.cell? ⟨g.at_, 0, none⟩ = some (.pointer (some ⟨d, 0, none⟩)) ∧ v'.cell? ⟨g.at_, 1, none⟩ = some (.pointer (some ⟨r, 0, none⟩)) ∧ v'.cell? ⟨w.heap.size, 0, none⟩ = some (.int .i64 o.k) ∧ v'.cell? ⟨w.heap.size, 1, none⟩ = some (.int .i64 o.n))
      (first | exact st_cells (S2.out.below (Below.refl _ _).drew) | exact st_cells S3.out)
      (first
        | (go_at_call 31
           have h3 := st_rrun o.n (S2.out.below (Below.refl _ _).drew) HF.out.2
           rw [HRN.out.1, HRN.out.2.1, HRN.out.2.2.1] at h3
           go_must (go_fit h3); rintro e w3 ⟨rfl, s3⟩
           have S3 := Lib.hid s3
           clear s3))
    go_wp2
    go_ret
    exact ⟨rfl, _, S3.out.drop, HRN.out.2.2.2⟩
  · rw [e] at HK ⊢
    simp only [if_neg (by decide : ¬ (2 : Int) = 0), if_neg (by decide : ¬ (2 : Int) = 1), if_pos]
    clear e hkb HR1 HRN HTL
    go_enter Tryz.func11, Tryz.ntmps11
    obtain ⟨x0, x1⟩ := HX0.out.cells
    go_wp2_with (first
      | (go_at_call 13; refine (HK.out _).mono ?_; rintro e w1 ⟨rfl, b1⟩
         have HB1 := Lib.hid (HB0.out.trans (b1.mono HB0.out.size))
         have S1 := Lib.hid ((HS.out _ HB1.out).add (HX0.out.below b1) (by decide))
         obtain ⟨c0, c1, x0, x1⟩ := st_cells S1.out
         clear b1))
    go_region_held3 (fun v' => v'.cell? ⟨g.at_, 0, none⟩ = some (.pointer (some ⟨d, 0, none⟩)) ∧ v'.cell? ⟨g.at_, 1, none⟩ = some (.pointer (some ⟨r, 0, none⟩)) ∧ v'.cell? ⟨w.heap.size, 0, none⟩ = some (.int .i64 o.k) ∧ v'.cell? ⟨w.heap.size, 1, none⟩ = some (.int .i64 o.n))
      (first | exact st_cells (S1.out.below (Below.refl _ _).drew) | exact st_cells S2.out | exact st_cells S3.out)
      (first
        | (go_at_call 32; go_must (go_fit H3.out); rintro e w3 ⟨rfl, s3⟩
           have S3 := Lib.hid s3
           clear s3)
        | (go_at_call 16; go_must (go_fit (drop_st o.n (S1.out.below (Below.refl _ _).drew) HF.out.2)); rintro e w2 ⟨rfl, s2⟩
           have S2 := Lib.hid s2
           have h3 := st_rdrop o.n s2 HF.out.2
           rw [HDP.out.1] at h3
           have H3 := Lib.hid h3
           clear s2 h3))
    all_goals
      go_wp2
      go_ret
      exact ⟨rfl, _, S3.out.drop, HDP.out.2⟩
  · rw [e] at HK ⊢
    simp only [if_neg (by decide : ¬ (3 : Int) = 0), if_neg (by decide : ¬ (3 : Int) = 1), if_neg (by decide : ¬ (3 : Int) = 2)]
    clear e hkb HR1 HRN HDP
    go_enter Tryz.func11, Tryz.ntmps11
    obtain ⟨x0, x1⟩ := HX0.out.cells
    go_wp2_with (first
      | (go_at_call 13; refine (HK.out _).mono ?_; rintro e w1 ⟨rfl, b1⟩
         have HB1 := Lib.hid (HB0.out.trans (b1.mono HB0.out.size))
         have S1 := Lib.hid ((HS.out _ HB1.out).add (HX0.out.below b1) (by decide))
         obtain ⟨c0, c1, x0, x1⟩ := st_cells S1.out
         clear b1))
    go_region_held3 (fun v' => v'.cell? ⟨g.at_, 0, none⟩ = some (.pointer (some ⟨d, 0, none⟩)) ∧ v'.cell? ⟨g.at_, 1, none⟩ = some (.pointer (some ⟨r, 0, none⟩)) ∧ v'.cell? ⟨w.heap.size, 0, none⟩ = some (.int .i64 o.k) ∧ v'.cell? ⟨w.heap.size, 1, none⟩ = some (.int .i64 o.n))
      (first | exact st_cells (S1.out.below (Below.refl _ _).drew) | exact st_cells S2.out)
      (first
        | (go_at_call 18; go_must (go_fit (used_st o.n (S1.out.below (Below.refl _ _).drew) HF.out.2)); rintro e w2 ⟨rfl, b2⟩
           have S2 := Lib.hid ((S1.out.below (Below.refl _ _).drew).below b2)
           clear b2))
    obtain ⟨c0, c1, x0, x1⟩ := st_cells S2.out
    go_wp2_with fail
    go_region_held3 (fun v' => v'.cell? ⟨g.at_, 0, none⟩ = some (.pointer (some ⟨d, 0, none⟩)) ∧ v'.cell? ⟨g.at_, 1, none⟩ = some (.pointer (some ⟨r, 0, none⟩)) ∧ v'.cell? ⟨w.heap.size, 0, none⟩ = some (.int .i64 o.k) ∧ v'.cell? ⟨w.heap.size, 1, none⟩ = some (.int .i64 o.n))
      (first | exact st_cells (S2.out.below (Below.refl _ _).drew) | exact st_cells S3.out)
      (first
        | (go_at_call 33
           have h3 := st_rused o.n (S2.out.below (Below.refl _ _).drew) HF.out.2
           rw [HTL.out.1, HTL.out.2.1] at h3
           go_must (go_fit h3); rintro e w3 ⟨rfl, b3⟩
           have S3 := Lib.hid ((S2.out.below (Below.refl _ _).drew).below b3)
           clear b3))
    clear c0 c1 x0 x1
    obtain ⟨c0, c1, x0, x1⟩ := st_cells S3.out
    go_wp2_with (first
      | (go_at_call 17; refine (free_st S3.out).mono ?_; rintro e w4 ⟨rfl, b4⟩
         have s4 := S3.out.below b4
         obtain ⟨c0, c1, x0, x1⟩ := st_cells s4
         have h5 := st_rfree s4
         rw [HTL.out.2.2.1, HTL.out.2.2.2] at h5)
      | (go_at_call 34; refine h5.mono ?_; rintro e w5 ⟨rfl, b5⟩
         have s5 := s4.below b5))
    go_ret
    exact ⟨rfl, _, s5.drop, HA.out⟩
end
end Go.Proofs.YtbkgfkemjhaopaaGreat.Dl
