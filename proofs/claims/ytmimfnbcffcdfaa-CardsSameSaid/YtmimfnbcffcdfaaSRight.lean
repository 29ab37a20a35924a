/-
  WALKS: At, Right. Conditions: at most 1000000000 spans; At: fields far from the ends of an int64.
-/
import Derived.Test.YtmimfnbcffcdfaaSSame
import Derived.Deep.RegionHeld3
import Derived.Deep.DeepFit
import Derived.Deep.CutRange
import Derived.IntWalk
namespace Go.Proofs.Ytmimfnbcffcdfaa
open Go.RowKit

theorem small_fit {s : Sp} (h : s.small) : s.fit := by
  obtain ⟨h1, h2, h3⟩ := h
  unfold Sp.fit Fit
  omega
theorem bcell {B : Nat} {W w1 : World} (hb : Below B W w1) {a : Addr} {v : Value} (h : W.cell? a = some v) (ha : a.block < B) : w1.cell? a = some v := (hb.cell ha).trans h

theorem cell_new (w : World) (cs : Array Value) (t : TypeId) (k : Nat) {v : Value} (h : cs[k]? = some v) : (w.alloc (.cells cs t)).cell? ⟨w.heap.size, k, none⟩ = some v := by
  unfold World.cell?
  rw [heap_alloc_new]
  simpa using h

/-- a span in a block of its own, behind a call. -/
theorem span_kept {w w2 : World} {a p l : Int} (h : Below (w.alloc (.cells #[.int .i64 a, .int .i64 p, .int .i64 l] 48)).heap.size (w.alloc (.cells #[.int .i64 a, .int .i64 p, .int .i64 l] 48)) w2) :
    w2.cell? ⟨w.heap.size, 0, none⟩ = some (.int .i64 a) ∧ w2.cell? ⟨w.heap.size, 1, none⟩ = some (.int .i64 p) ∧ w2.cell? ⟨w.heap.size, 2, none⟩ = some (.int .i64 l) ∧ Below w.heap.size w w2 := by
  refine ⟨bcell h (cell_new w _ 48 0 rfl) (by simp), bcell h (cell_new w _ 48 1 rfl) (by simp), bcell h (cell_new w _ 48 2 rfl) (by simp), ?_⟩
  exact ((Below.refl _ _).alloc (Nat.le_refl _) _).trans (h.mono (by simp))

/-- the span before number k. -/
def prevS (l : List Sp) : Nat → Option Sp
  | 0 => none
  | j + 1 => some (l.getD j Sp.z)
theorem right_drop {l : List Sp} {k : Nat} (hk : k < l.length) (p : Option Sp) : rightL p (l.drop k) = (fitsB p (l.getD k Sp.z) && rightL (some (l.getD k Sp.z)) (l.drop (k + 1))) := by
  rw [List.drop_eq_getElem_cons hk]
  have e : l.getD k Sp.z = l[k] := by simp [List.getD, List.getElem?_eq_getElem hk]
  rw [e]; rfl
theorem in_small {s : Sp} (h : inB s = true) : s.small := by
  have := inB_iff.1 h
  unfold Sp.small
  omega

set_option maxHeartbeats 2000000 in
theorem right_any (A : Option Addr) (n c B : Nat) (l : List Sp) (w : World) (hA : SpsAt w B A n l) (hB : B ≤ w.heap.size) (hn : n ≤ 1000000000) :
    Calls Try.prog 48 #[.slice A n c] w fun e w' => e = .returned (.bool (rightL none l)) ∧ Below w.heap.size w w' := by
  have HL := Lib.hid hA.len
  have HA := Lib.hid hA
  obtain ⟨R, hR⟩ : ∃ R, R = rightL none l := ⟨_, rfl⟩
  rw [← hR]
  have HR : Hid (R = rightL (prevS l 0) (l.drop 0)) := by show _ = _; rw [hR]; rfl
  clear hA hR
  go_enter Try.func48, Try.ntmps48
  go_wp2
  go_loopw [3, 4, 7] (fun _ _ j wr => ∃ k : Nat, k ≤ n ∧ j = .int .i64 (k : Int) ∧ Hid (R = rightL (prevS l k) (l.drop k)) ∧ Hid (∀ j, k = j + 1 → inB (l.getD j Sp.z) = true) ∧ Below w.heap.size w wr) (fun _ _ j _ => n - (intOf j).toNat)
  case atStart => exact ⟨0, by omega, rfl, HR, (by show ∀ j, 0 = j + 1 → _; intro j hj; omega), Below.refl _ _⟩
  case round =>
    obtain ⟨k, hk, rfl, HG, HP, hb⟩ := hrel
    by_cases hlt : k < n
    · obtain ⟨b, o, rfl, hbB, h1, h2, h3⟩ := HA.out.at_ hlt
      have hbl : b < w.heap.size := by omega
      have c1 := bcell hb h1 hbl
      have c2 := bcell hb h2 hbl
      have c3 := bcell hb h3 hbl
      have hkl : k < l.length := by rw [HL.out]; exact hlt
      have HB := Lib.hid hb
      have hws := hb.size
      have HD := HG.out
      rw [right_drop hkl] at HD
      cases hi : inB (l.getD k Sp.z) with
      | false =>
        have HE : Hid (R = false) := by
          show _ = _
          rw [HD]
          cases hf : fitsB (prevS l k) (l.getD k Sp.z) with
          | false => rfl
          | true => have := fitsB_in hf; rw [hi] at this; cases this
        generalize l.getD k Sp.z = s at *
        have HC := Lib.hid (inBounds_any s)
        rw [hi] at HC
        obtain ⟨sa, sp, sl⟩ := s
        simp only at c1 c2 c3
        clear h1 h2 h3 hi hb hkl HG HD
        go_wp2_with fail
        refine (HC.out _).mono ?_
        rintro e w2 ⟨rfl, b2⟩
        obtain ⟨k1, k2, k3, b2'⟩ := span_kept b2
        have HB2 := Lib.hid (HB.out.trans (b2'.mono hws))
        clear b2 b2' c1 c2 c3
        go_wp2
        go_ret
        exact ⟨ret_bool HE.out.symm, HB2.out⟩
      | true =>
        have HI : Hid (∀ j, k + 1 = j + 1 → inB (l.getD j Sp.z) = true) := by
          show ∀ j, k + 1 = j + 1 → inB (l.getD j Sp.z) = true
          intro j hj
          obtain rfl : k = j := by omega
          exact hi
        have HPS : Hid (prevS l (k + 1) = some (l.getD k Sp.z)) := by show _ = _; rfl
        rcases Nat.eq_zero_or_pos k with h0 | h0
        · have HE : Hid (R = rightL (prevS l (k + 1)) (l.drop (k + 1))) := by
            show _ = _
            rw [HD, HPS.out]
            have : prevS l k = none := by rw [h0]; rfl
            rw [this, fitsB_none, hi, Bool.true_and]
          have d0 : decide (0 < k) = false := by simp [h0]
          have d0' : decide ((0 : Int) < (k : Int)) = false := by simp [h0]
          generalize l.getD k Sp.z = s at *
          have HC := Lib.hid (inBounds_any s)
          rw [hi] at HC
          obtain ⟨sa, sp, sl⟩ := s
          simp only at c1 c2 c3
          clear h1 h2 h3 hi hb hkl HG HD HP h0
          go_wp2_with fail
          refine (HC.out _).mono ?_
          rintro e w2 ⟨rfl, b2⟩
          obtain ⟨k1, k2, k3, b2'⟩ := span_kept b2
          have HB2 := Lib.hid (HB.out.trans (b2'.mono hws))
          clear b2 b2' c1 c2 c3
          go_wp2
          go_quiet (fail)
          go_wp2
          go_roundw
          case rel => exact ⟨k + 1, by omega, by go_num, HE, HI, Below.drews HB2.out ⟨_, rfl⟩⟩
          case measure => simp [intOf]; omega
        · obtain ⟨j, rfl⟩ : ∃ j, k = j + 1 := ⟨k - 1, by omega⟩
          have hpi := HP.out j rfl
          obtain ⟨b', o', e0, _, g1, g2, g3⟩ := HA.out.at_ (show j < n by omega)
          cases e0
          have hps : prevS l (j + 1) = some (l.getD j Sp.z) := rfl
          rw [hps] at HD
          generalize l.getD (j + 1) Sp.z = s at *
          generalize l.getD j Sp.z = a at *
          have asm := in_small hpi
          have HC := Lib.hid (inBounds_any s)
          rw [hi] at HC
          have p1 := bcell hb g1 hbl
          have p2 := bcell hb g2 hbl
          have p3 := bcell hb g3 hbl
          have abd := inB_iff.1 hpi
          have d0 : decide (0 < j + 1) = true := by simp
          have d0' : decide ((0 : Int) < (j : Int) + 1) = true := by simp
          by_cases q1 : s.at_ < a.at_ + a.len
          · have HE : Hid (R = false) := by
              show _ = _
              rw [HD]
              cases hf : fitsB (some a) s with
              | false => rfl
              | true => have := (fitsB_some.1 hf).2.1; omega
            obtain ⟨sa, sp, sl⟩ := s
            obtain ⟨aa, ap, al⟩ := a
            simp only at c1 c2 c3 p1 p2 p3 q1 abd
            have d1 : decide (sa < aa + al) = true := by simpa using q1
            clear h1 h2 h3 g1 g2 g3 hi hb hkl HG HD HP h0 hps hpi asm q1 HI HPS
            go_wp2_with fail
            refine (HC.out _).mono ?_
            rintro e w2 ⟨rfl, b2⟩
            obtain ⟨k1, k2, k3, b2'⟩ := span_kept b2
            have HB2 := Lib.hid (HB.out.trans (b2'.mono hws))
            have r1 := bcell b2' p1 (by show b < _; omega)
            have r3 := bcell b2' p3 (by show b < _; omega)
            clear b2 b2' c1 c2 c3 p1 p2 p3
            go_wp2
            go_quiet (fail)
            go_wp2
            go_ret
            exact ⟨ret_bool HE.out.symm, Below.drews HB2.out ⟨_, rfl⟩⟩
          · cases hj : joinsB a s with
            | true =>
              have HE : Hid (R = false) := by
                show _ = _
                rw [HD]
                cases hf : fitsB (some a) s with
                | false => rfl
                | true => have := (fitsB_some.1 hf).2.2; rw [hj] at this; cases this
              have HJ := Lib.hid (fun w => joins_is true a s w asm hj)
              obtain ⟨sa, sp, sl⟩ := s
              obtain ⟨aa, ap, al⟩ := a
              simp only at c1 c2 c3 p1 p2 p3 q1 abd
              have d1 : decide (sa < aa + al) = false := by simpa using q1
              clear h1 h2 h3 g1 g2 g3 hi hb hkl HG HD HP h0 hps hpi asm q1 HI HPS hj
              go_wp2_with fail
              refine (HC.out _).mono ?_
              rintro e w2 ⟨rfl, b2⟩
              obtain ⟨k1, k2, k3, b2'⟩ := span_kept b2
              have HB2 := Lib.hid (HB.out.trans (b2'.mono hws))
              have hw2 : wr.heap.size < w2.heap.size := by have := b2.size; simp at this; omega
              have r1 := bcell b2' p1 (by show b < _; omega)
              have r2 := bcell b2' p2 (by show b < _; omega)
              have r3 := bcell b2' p3 (by show b < _; omega)
              clear b2 b2' c1 c2 c3 p1 p2 p3
              go_wp2_with fail
              have x1 : (0 : Int) ≤ (j : Int) := by omega
              have x2 : (j : Int) < (n : Int) := by omega
              have x3 : IntKind.i64.wrap (j : Int) = (j : Int) := IntWalk.i64_in _ (by omega)
              have x4 : IntKind.i64.wrap (aa + al) = aa + al := IntWalk.i64_in _ (by omega)
              go_region_held3 (fun w' => w'.cell? ⟨wr.heap.size, 0, none⟩ = some (.int .i64 sa) ∧ w'.cell? ⟨wr.heap.size, 1, none⟩ = some (.int .i64 sp) ∧ w'.cell? ⟨wr.heap.size, 2, none⟩ = some (.int .i64 sl) ∧ w'.cell? ⟨b, o + j * 3, none⟩ = some (.int .i64 aa) ∧ w'.cell? ⟨b, o + j * 3 + 1, none⟩ = some (.int .i64 ap) ∧ w'.cell? ⟨b, o + j * 3 + 2, none⟩ = some (.int .i64 al))
                (first | exact ⟨k1, k2, k3, r1, r2, r3⟩ | exact ⟨k1', k2', k3', r1', r2', r3'⟩)
                (first
                  | (go_at_call 57
                     go_fit (HJ.out w2.drew)
                     rintro e w3 ⟨rfl, b3⟩
                     have k1' := bcell b3 (a := ⟨wr.heap.size, 0, none⟩) k1 hw2
                     have k2' := bcell b3 (a := ⟨wr.heap.size, 1, none⟩) k2 hw2
                     have k3' := bcell b3 (a := ⟨wr.heap.size, 2, none⟩) k3 hw2
                     have r1' := bcell b3 (a := ⟨b, o + j * 3, none⟩) r1 (by show b < w2.heap.size; omega)
                     have r2' := bcell b3 (a := ⟨b, o + j * 3 + 1, none⟩) r2 (by show b < w2.heap.size; omega)
                     have r3' := bcell b3 (a := ⟨b, o + j * 3 + 2, none⟩) r3 (by show b < w2.heap.size; omega)
                     have HB3 : Hid (Below w.heap.size w w3) := HB2.out.trans (⟨b3.os, b3.tape, b3.output, b3.size, fun x hx => b3.block x (Nat.lt_of_lt_of_le hx HB2.out.size)⟩)
                     clear b3))
              go_wp2
              go_ret
              exact ⟨ret_bool HE.out.symm, HB3.out⟩
            | false =>
              have HE : Hid (R = rightL (prevS l (j + 1 + 1)) (l.drop (j + 1 + 1))) := by
                show _ = _
                rw [HD, HPS.out]
                have : fitsB (some a) s = true := fitsB_some.2 ⟨hi, by omega, hj⟩
                rw [this, Bool.true_and]
              have HJ := Lib.hid (fun w => joins_is false a s w asm hj)
              obtain ⟨sa, sp, sl⟩ := s
              obtain ⟨aa, ap, al⟩ := a
              simp only at c1 c2 c3 p1 p2 p3 q1 abd
              have d1 : decide (sa < aa + al) = false := by simpa using q1
              clear h1 h2 h3 g1 g2 g3 hi hb hkl HG HD HP h0 hps hpi asm q1 HPS hj
              go_wp2_with fail
              refine (HC.out _).mono ?_
              rintro e w2 ⟨rfl, b2⟩
              obtain ⟨k1, k2, k3, b2'⟩ := span_kept b2
              have HB2 := Lib.hid (HB.out.trans (b2'.mono hws))
              have hw2 : wr.heap.size < w2.heap.size := by have := b2.size; simp at this; omega
              have r1 := bcell b2' p1 (by show b < _; omega)
              have r2 := bcell b2' p2 (by show b < _; omega)
              have r3 := bcell b2' p3 (by show b < _; omega)
              clear b2 b2' c1 c2 c3 p1 p2 p3
              go_wp2_with fail
              have x1 : (0 : Int) ≤ (j : Int) := by omega
              have x2 : (j : Int) < (n : Int) := by omega
              have x3 : IntKind.i64.wrap (j : Int) = (j : Int) := IntWalk.i64_in _ (by omega)
              have x4 : IntKind.i64.wrap (aa + al) = aa + al := IntWalk.i64_in _ (by omega)
              go_region_held3 (fun w' => w'.cell? ⟨wr.heap.size, 0, none⟩ = some (.int .i64 sa) ∧ w'.cell? ⟨wr.heap.size, 1, none⟩ = some (.int .i64 sp) ∧ w'.cell? ⟨wr.heap.size, 2, none⟩ = some (.int .i64 sl) ∧ w'.cell? ⟨b, o + j * 3, none⟩ = some (.int .i64 aa) ∧ w'.cell? ⟨b, o + j * 3 + 1, none⟩ = some (.int .i64 ap) ∧ w'.cell? ⟨b, o + j * 3 + 2, none⟩ = some (.int .i64 al))
                (first | exact ⟨k1, k2, k3, r1, r2, r3⟩ | exact ⟨k1', k2', k3', r1', r2', r3'⟩)
                (first
                  | (go_at_call 57
                     go_fit (HJ.out w2.drew)
                     rintro e w3 ⟨rfl, b3⟩
                     have k1' := bcell b3 (a := ⟨wr.heap.size, 0, none⟩) k1 hw2
                     have k2' := bcell b3 (a := ⟨wr.heap.size, 1, none⟩) k2 hw2
                     have k3' := bcell b3 (a := ⟨wr.heap.size, 2, none⟩) k3 hw2
                     have r1' := bcell b3 (a := ⟨b, o + j * 3, none⟩) r1 (by show b < w2.heap.size; omega)
                     have r2' := bcell b3 (a := ⟨b, o + j * 3 + 1, none⟩) r2 (by show b < w2.heap.size; omega)
                     have r3' := bcell b3 (a := ⟨b, o + j * 3 + 2, none⟩) r3 (by show b < w2.heap.size; omega)
                     have HB3 : Hid (Below w.heap.size w w3) := HB2.out.trans (⟨b3.os, b3.tape, b3.output, b3.size, fun x hx => b3.block x (Nat.lt_of_lt_of_le hx HB2.out.size)⟩)
                     clear b3))
              clear x1 x2 x3 x4
              go_wp2
              go_roundw
              case rel => exact ⟨j + 1 + 1, by omega, by go_num, HE, HI, HB3.out⟩
              case measure => simp [intOf]; omega
    · have HN : Hid (R = true) := by show _ = _; rw [HG.out, List.drop_of_length_le (by rw [HL.out]; omega)]; unfold rightL; rfl
      go_wp2
      go_ret
      exact ⟨ret_bool HN.out.symm, hb⟩
end Go.Proofs.Ytmimfnbcffcdfaa
