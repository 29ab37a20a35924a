/-
  WALKS of stock over a deal alone (Dk): Run, Take, Drop, Free, Used; without a crown; without a deal. Condition: a deal on a calm slab.
-/
import Derived.Test.YtgdlfiejjnjcpaaGreatGA
import Derived.Deep.RegionHeld3
import Derived.Deep.DeepMust
import Derived.Deep.DeepFit
set_option linter.unusedVariables false
set_option linter.unusedSimpArgs false
set_option maxRecDepth 100000
set_option maxHeartbeats 4000000
namespace Go.Proofs.YtgdlfiejjnjcpaaGreat.Dl
open Go.RowKit
open Mk
open Sl (Turns SlabAt)
open Lg (Ch chCells chsCells FS LogAt Whole setL setL_len ownB bcell z128)
open Kr (crv rightK blockK okK kf kb kc KBox cells3 put3 put3_box put3_below marksK bit_marks marks_size I64 inB)

/-! ### a deal alone -/
/-- blocks that a deal doesn't touch, and what they hold. -/
abbrev Bxs := List (Nat × Array Value × TypeId)
def Bxs.fit (F : Bxs) (w : World) : Prop := ∀ x ∈ F, w.heap[x.1]? = some (.cells x.2.1 x.2.2 (0, 0)) ∧ x.2.2 ≠ 102 ∧ x.2.2 ≠ 68
theorem Bxs.fit.turns {F : Bxs} {w w' : World} {L : List Nat} (h : Bxs.fit F w) (t : Turns L w w') (hL : ∀ x ∈ F, x.1 ∉ L) : Bxs.fit F w' := fun x hx => by
  obtain ⟨h1, h2⟩ := h x hx
  exact ⟨(t.block x.1 (Array.getElem?_eq_some_iff.1 h1).1 (hL x hx)).trans h1, h2⟩
/-- the deal in d shows V; the blocks of F are as they are; all of the world w0 is as it was. -/
structure Dk (w0 w : World) (B d q p pd pm k c : Nat) (F : Bxs) (N : Nat) (D V : List ByteArray) : Prop where
  ex : ∃ v, DV w B d q p pd pm k c D V v
  hN : D.length = N
  fx : Bxs.fit F w
  hb : Below w0.heap.size w0 w
  hd : w0.heap.size ≤ d
  hB : w0.heap.size ≤ B
section
variable {w0 w w' w1 : World} {B d q p pd pm k c : Nat} {F : Bxs} {N : Nat} {D V V' : List ByteArray}
theorem Dk.below (h : Dk w0 w B d q p pd pm k c F N D V) (hW : Below w.heap.size w w') : Dk w0 w' B d q p pd pm k c F N D V := by
  obtain ⟨v, dv⟩ := h.ex
  exact ⟨⟨v, dv.below hW⟩, h.hN, h.fx.turns (Turns.of_below [] hW) (by simp), h.hb.trans (hW.mono h.hb.size), h.hd, h.hB⟩
theorem Dk.lenV (h : Dk w0 w B d q p pd pm k c F N D V) : V.length = N := by
  obtain ⟨v, dv⟩ := h.ex
  exact dv.len.trans h.hN
theorem Dk.least (h : Dk w0 w B d q p pd pm k c F N D V) : 64 ≤ N := by
  obtain ⟨v, dv⟩ := h.ex
  rw [← h.hN]; exact dv.least
theorem Dk.most (h : Dk w0 w B d q p pd pm k c F N D V) : N ≤ 1000 := by
  obtain ⟨v, dv⟩ := h.ex
  rw [← h.hN]; exact dv.most
theorem Dk.hBs (h : Dk w0 w B d q p pd pm k c F N D V) : B ≤ w.heap.size := by
  obtain ⟨v, dv⟩ := h.ex
  exact dv.hB
theorem Dk.mk_size (h : Dk w0 w B d q p pd pm k c F N D V) : (mkB V).size = 128 := by
  obtain ⟨v, dv⟩ := h.ex
  exact Dl.mk_size dv
theorem Dk.add {j : Nat} {cs : Array Value} {ty : TypeId} (h : Dk w0 w B d q p pd pm k c F N D V) (hx : w.heap[j]? = some (.cells cs ty (0, 0))) (ht : ty ≠ 102 ∧ ty ≠ 68) : Dk w0 w B d q p pd pm k c ((j, cs, ty) :: F) N D V :=
  ⟨h.ex, h.hN, fun x hm => by
    rcases List.mem_cons.1 hm with e | e
    · subst e; exact ⟨hx, ht⟩
    · exact h.fx x e, h.hb, h.hd, h.hB⟩
theorem Dk.drop {x : Nat × Array Value × TypeId} (h : Dk w0 w B d q p pd pm k c (x :: F) N D V) : Dk w0 w B d q p pd pm k c F N D V := ⟨h.ex, h.hN, fun y hm => h.fx y (List.mem_cons_of_mem _ hm), h.hb, h.hd, h.hB⟩
theorem Dk.box {j : Nat} {cs : Array Value} {ty : TypeId} (h : Dk w0 w B d q p pd pm k c ((j, cs, ty) :: F) N D V) : w.heap[j]? = some (.cells cs ty (0, 0)) := (h.fx (j, cs, ty) (List.mem_cons_self ..)).1
theorem Dk.from (h : Dk w1 w B d q p pd pm k c F N D V) (hb : Below w0.heap.size w0 w1) : Dk w0 w B d q p pd pm k c F N D V :=
  ⟨h.ex, h.hN, h.fx, hb.trans (h.hb.mono hb.size), Nat.le_trans hb.size h.hd, Nat.le_trans hb.size h.hB⟩
/-- the deal did something. -/
theorem Dk.did {v : Value} (h : Dk w0 w B d q p pd pm k c F N D V) (dv : DV w B d q p pd pm k c D V v) (hw : WroteV w B d q p pd pm k c D V' v w') : Dk w0 w' B d q p pd pm k c F N D V' := by
  obtain ⟨v', dv', t⟩ := hw
  refine ⟨⟨v', dv'⟩, h.hN, h.fx.turns t ?_, h.hb.trans (t.below h.hb.size ?_), h.hd, h.hB⟩
  · intro x hx hm
    obtain ⟨h1, h2, h3⟩ := h.fx x hx
    rcases List.mem_cons.1 hm with e | e
    · exact tag_ne h1 (show w.heap[d]? = some (.cells _ 102 (0, 0)) from dv.dl) h2 e
    · obtain ⟨cs, ht⟩ := dv.own_tag (ownL_mem.1 e)
      exact tag_ne h1 ht h3 rfl
  · intro j hj
    rcases dv.own_ge j hj with e | e
    · rw [e]; exact h.hd
    · exact Nat.le_trans h.hB e
end
theorem dk_write {w0 w : World} {B d q p pd pm k c : Nat} {F : Bxs} {N : Nat} {D V : List ByteArray} (h : Dk w0 w B d q p pd pm k c F N D V) (i : Int) (s : ByteArray) (hs : s.size ≤ 9223372036854775807) :
    Calls Tryz.prog 22 #[.pointer (some ⟨d, 0, none⟩), .int .i64 i, .string s] w fun e w' => e = .returned (.int .i64 (wrE V i s)) ∧ Dk w0 w' B d q p pd pm k c F N D (wrV V i s) := by
  obtain ⟨v, dv⟩ := h.ex
  exact (write_dv B d q p pd pm k c D V v i s w dv hs).mono fun e w' hx => ⟨hx.1, h.did dv hx.2⟩
theorem dk_read {w0 w : World} {B d q p pd pm k c : Nat} {F : Bxs} {N : Nat} {D V : List ByteArray} (h : Dk w0 w B d q p pd pm k c F N D V) (i : Int) :
    Calls Tryz.prog 62 #[.pointer (some ⟨d, 0, none⟩), .int .i64 i] w fun e w' => e = .returned (.tuple #[.string (rdB V i), .int .i64 (rdE V i)]) ∧ Below w.heap.size w w' := by
  obtain ⟨v, dv⟩ := h.ex
  exact read_dv B d q p pd pm k c D V v i w dv
theorem dk_load {w0 w : World} {B d q p pd pm k c : Nat} {F : Bxs} {N : Nat} {D V : List ByteArray} (h : Dk w0 w B d q p pd pm k c F N D V) :
    Calls Tryz.prog 30 #[.pointer (some ⟨d, 0, none⟩)] w fun e w' => e = .returned (.tuple #[crv (crF V) (crB V) (crC V), .string (ldB V), .int .i64 (crE V)]) ∧ Below w.heap.size w w' := by
  obtain ⟨v, dv⟩ := h.ex
  exact load_dv B d q p pd pm k c D V v w dv

/-! ### without a crown -/
theorem run_no (B d q p pd pm k c : Nat) (D V : List ByteArray) (v : Value) (n : Int) (w : World) (h : DV w B d q p pd pm k c D V v) (ho : okCr V = false) :
    Calls Tryz.prog 99 #[.pointer (some ⟨d, 0, none⟩), .int .i64 n] w fun e w' => e = .returned (.tuple #[.int .i64 0, .int .i64 0, .int .i64 15]) ∧ Below w.heap.size w w' := by
  have HLD := Lib.hid (load_dv B d q p pd pm k c D V v w h)
  have e2 := (cr_no ho).2
  have e3 : ldB V = ⟨#[]⟩ := by unfold ldB; rw [ho]; rfl
  rw [e2, e3] at HLD
  clear h ho e2 e3
  generalize crF V = f at *
  generalize crB V = b at *
  generalize crC V = u at *
  unfold crv at *
  go_enter Tryz.func99, Tryz.ntmps99
  go_wp2_with (go_at_call 30; refine HLD.out.mono ?_; rintro e w1 ⟨rfl, b1⟩)
  go_ret3
  exact ⟨rfl, b1.alloc b1.size _⟩

theorem run_dk {w0 w : World} {B d q p pd pm k c : Nat} {F : Bxs} {N : Nat} {D V : List ByteArray} (n : Int) (h : Dk w0 w B d q p pd pm k c F N D V) (hn : I64 n) :
    Calls Tryz.prog 99 #[.pointer (some ⟨d, 0, none⟩), .int .i64 n] w fun e w' => e = .returned (.tuple #[.int .i64 (rnA V n), .int .i64 (rnL V n), .int .i64 (rnE V n)]) ∧ Dk w0 w' B d q p pd pm k c F N D (rnV V n) := by
  have HS := Lib.hid h
  unfold rnV rnA rnL
  cases ho : okCr V with
  | false =>
    have e1 : rnE V n = 15 := by unfold rnE; rw [ho]; rfl
    rw [e1]
    simp only [if_neg (by decide : ¬ (15 : Int) = 0)]
    obtain ⟨v, dv⟩ := h.ex
    exact (run_no B d q p pd pm k c D V v n w dv ho).mono fun e w' hx => ⟨hx.1, h.below hx.2⟩
  | true =>
    have HLD := Lib.hid (dk_load h)
    have e3 : ldB V = mkB V := by unfold ldB; rw [ho]; rfl
    rw [cr_ok ho, e3] at HLD
    obtain ⟨k1, k2, k3, k4⟩ := cr_b ho
    have hz := h.mk_size
    by_cases h1 : n < 1
    · have e1 : rnE V n = 1 := by unfold rnE; rw [if_pos ho, if_pos h1]
      rw [e1]
      simp only [if_neg (by decide : ¬ (1 : Int) = 0)]
      clear h ho e1 e3 hz k1 k2 k3 k4
      generalize crF V = f at *
      generalize crB V = b at *
      generalize crC V = u at *
      generalize mkB V = m at *
      unfold crv at *
      go_enter Tryz.func99, Tryz.ntmps99
      go_wp2_with (go_at_call 30; refine HLD.out.mono ?_; rintro e w1 ⟨rfl, b1⟩)
      go_ret3
      exact ⟨rfl, HS.out.below (b1.alloc b1.size _)⟩
    · have HFD := Lib.hid (fun W => sfind_any (crF V) (crB V) (crC V) (mkB V) n W hz (by unfold I64; omega) hn (by omega))
      have HN := Lib.hid (KBox.new3)
      by_cases h2 : (fnV V n).2 = 0
      · have e1 : rnE V n = 10 := by unfold rnE; rw [if_pos ho, if_neg h1, if_pos h2]
        rw [e1]
        simp only [if_neg (by decide : ¬ (10 : Int) = 0)]
        unfold fnV at h2
        rw [h2] at HFD
        generalize (fndP (mkB V) (crB V) n).1 = a at *
        clear h ho e1 e3 hz k1 k2 k3 k4 h2
        generalize crF V = f at *
        generalize crB V = b at *
        generalize crC V = u at *
        generalize mkB V = m at *
        unfold crv at *
        go_enter Tryz.func99, Tryz.ntmps99
        go_wp2_with (first
          | (go_at_call 30; refine HLD.out.mono ?_; rintro e w1 ⟨rfl, b1⟩
             have HB1 := Lib.hid (b1.alloc b1.size (.cells #[.int .i64 f, .int .i64 b, .int .i64 u] 62))
             obtain ⟨y0, y1, y2⟩ := (HN.out w1 f b u).row
             clear b1)
          | (go_at_call 132; refine (HFD.out _).mono ?_; rintro e w2 ⟨rfl, b2⟩))
        go_ret3
        exact ⟨rfl, HS.out.below (HB1.out.trans (b2.mono HB1.out.size))⟩
      · have e1 : rnE V n = 0 := by unfold rnE; rw [if_pos ho, if_neg h1, if_neg h2]
        rw [e1]
        simp only [if_pos]
        have hfi := fnd_is (mkB V) (crB V).toNat n.toNat hz (by omega) (by omega)
        rw [show (((crB V).toNat : Nat) : Int) = crB V by omega, show ((n.toNat : Nat) : Int) = n by omega] at hfi
        unfold fnV at h2 ⊢
        generalize hra : (fndP (mkB V) (crB V) n).1 = a at *
        generalize hrl : (fndP (mkB V) (crB V) n).2 = l at *
        have hal : 51 ≤ a ∧ a + l ≤ N ∧ a + l ≤ 400 ∧ 1 ≤ l := by
          have hv := h.lenV
          rcases hfi with ⟨e, _⟩ | ⟨e1, e2, e3, _⟩
          · exact absurd e h2
          · have := e3.1; have := e3.2.1; omega
        have HAL := Lib.hid hal
        have HZ := Lib.hid hz
        have HLL := Lib.hid h.lenV
        have HWZ : Hid (∀ k, k < l → wrE (zTo V a k) ((a : Int) + (k : Int)) ⟨#[]⟩ = 0 ∧ wrV (zTo V a k) ((a : Int) + (k : Int)) ⟨#[]⟩ = zTo V a (k + 1)) := fun k hk => by
          rw [show (a : Int) + (k : Int) = ((a + k : Nat) : Int) by omega]
          have := wr_zero (V := zTo V a k) (i := a + k) (by have := HAL.out; omega) (by rw [zTo_len, HLL.out]; have := HAL.out; omega)
          exact ⟨this.1, this.2.trans rfl⟩
        have HWM : Hid (wrE (zTo V a l) 42 (takeN (mkB V) a l) = 0 ∧ wrV (zTo V a l) 42 (takeN (mkB V) a l) = (zTo V a l).set 42 (takeN (mkB V) a l)) := wr_marks (by rw [zTo_len, HLL.out]; have := HAL.out; omega) (by rw [take_size]; exact HZ.out)
        have HST0 := Lib.hid (fun W (hW : Below w.heap.size w W) => h.below hW)
        have HTK : Hid (∀ k, takeN (mkB V) a (k + 1) = setR (takeN (mkB V) a k) ((a : Int) + (k : Int)) true) := fun k => by rw [show (a : Int) + (k : Int) = ((a + k : Nat) : Int) by omega]; exact (setR_take _ _ _).symm
        have HTZ : Hid (∀ k, (takeN (mkB V) a k).size = 128) := fun k => (take_size _ _ _).trans HZ.out
        have HT0 : Hid (mkB V = takeN (mkB V) a 0) := rfl
        clear h ho e1 e3 hz k1 k2 k3 k4 h2 hfi hra hrl hal HS
        generalize crF V = f at *
        generalize crB V = b at *
        generalize crC V = u at *
        generalize mkB V = m at *
        unfold crv at *
        have hl0 : ((l : Int) == 0) = false := by have := HAL.out; rw [beq_eq_false_iff_ne]; omega
        go_enter Tryz.func99, Tryz.ntmps99
        go_wp2_with (first
          | (go_at_call 30; refine HLD.out.mono ?_; rintro e w1 ⟨rfl, b1⟩
             have HB1 := Lib.hid (b1.alloc b1.size (.cells #[.int .i64 f, .int .i64 b, .int .i64 u] 62))
             obtain ⟨y0, y1, y2⟩ := (HN.out w1 f b u).row
             clear b1)
          | (go_at_call 132; refine (HFD.out _).mono ?_; rintro e w2 ⟨rfl, b2⟩
             have HS2 := Lib.hid (HST0.out _ (HB1.out.trans (b2.mono HB1.out.size)))
             have hlpos : ¬ l = 0 := by have := HAL.out; omega
             clear b2 y0 y1 y2))
        have hl9 : (l : Int) ≤ 400 := by have := HAL.out; omega
        clear h1 hlpos HLD HFD HN HB1
        go_loopw [8, 12, 34] (fun s _ i wr => ∃ t : Nat, t ≤ l ∧ i = .int .i64 t ∧ s = .string (takeN m a t) ∧ Dk w0 wr B d q p pd pm k c F N D (zTo V a t)) (fun _ _ i _ => l - (intOf i).toNat)
        case atStart => exact ⟨0, by omega, rfl, by rw [← HT0.out], HS2.out⟩
        case round =>
          obtain ⟨k, hk, rfl, rfl, hs⟩ := hrel
          by_cases hlt : k < l
          · have hlt2 : (k : Int) < (l : Int) := by omega
            have hak : (a : Int) + (k : Int) ≤ 400 := by have := HAL.out; omega
            have HSET := Lib.hid (fun W => set_any (takeN m a k) ((a : Int) + (k : Int)) true W (by rw [HTZ.out]; omega) (by omega))
            rw [← HTK.out k] at HSET
            have HWR := Lib.hid (fun W (hW : Below wr.heap.size wr W) => dk_write (hs.below hW) ((a : Int) + (k : Int)) ⟨#[]⟩ (by decide))
            rw [(HWZ.out k hlt).1, (HWZ.out k hlt).2] at HWR
            clear hs
            go_wp2_with (first
              | (go_at_call 69; refine (HSET.out _).mono ?_; rintro e w3 ⟨rfl, b3⟩)
              | (go_at_call 22; refine (HWR.out _ b3).mono ?_; rintro e w4 ⟨rfl, s4⟩))
            go_roundw
            case rel => exact ⟨k + 1, by omega, by go_num, rfl, s4⟩
            case measure => simp [intOf]; omega
          · have hke : k = l := by omega
            subst hke
            have hlt2 : ¬ (k : Int) < (k : Int) := by omega
            have HWR := Lib.hid (dk_write hs 42 (takeN m a k) (by rw [HTZ.out]; omega))
            rw [HWM.out.1, HWM.out.2] at HWR
            clear hs
            go_wp2_with (go_at_call 22; refine HWR.out.mono ?_; rintro e w4 ⟨rfl, s4⟩)
            go_ret3
            exact ⟨rfl, s4⟩
section
variable {w0 w : World} {B d q p pd pm k c : Nat} {F : Bxs} {N : Nat} {D V : List ByteArray}
theorem take_dk (h : Dk w0 w B d q p pd pm k c F N D V) :
    Calls Tryz.prog 70 #[.pointer (some ⟨d, 0, none⟩)] w fun e w' => e = .returned (.tuple #[.int .i64 (rnA V 1), .int .i64 (rnE V 1)]) ∧ Dk w0 w' B d q p pd pm k c F N D (rnV V 1) := by
  have HR := Lib.hid (run_dk 1 h (by unfold I64; omega))
  generalize rnA V 1 = a at *
  generalize rnL V 1 = l at *
  generalize rnE V 1 = z at *
  generalize rnV V 1 = V' at *
  clear h
  go_enter Tryz.func70, Tryz.ntmps70
  go_wp2_with (go_at_call 99; refine HR.out.mono ?_; rintro e w1 ⟨rfl, s1⟩)
  go_ret2
  exact ⟨rfl, s1⟩
theorem drop_no (B d q p pd pm k c : Nat) (D V : List ByteArray) (v : Value) (n : Int) (w : World) (h : DV w B d q p pd pm k c D V v) (ho : okCr V = false) :
    Calls Tryz.prog 41 #[.pointer (some ⟨d, 0, none⟩), .int .i64 n] w fun e w' => e = .returned (.int .i64 15) ∧ Below w.heap.size w w' := by
  have HLD := Lib.hid (load_dv B d q p pd pm k c D V v w h)
  have e2 := (cr_no ho).2
  have e3 : ldB V = ⟨#[]⟩ := by unfold ldB; rw [ho]; rfl
  rw [e2, e3] at HLD
  clear h ho e2 e3
  generalize crF V = f at *
  generalize crB V = b at *
  generalize crC V = u at *
  unfold crv at *
  go_enter Tryz.func41, Tryz.ntmps41
  go_wp2_with (go_at_call 30; refine HLD.out.mono ?_; rintro e w1 ⟨rfl, b1⟩)
  go_ret
  exact ⟨rfl, b1.alloc b1.size _⟩
theorem free_no (B d q p pd pm k c : Nat) (D V : List ByteArray) (v : Value) (w : World) (h : DV w B d q p pd pm k c D V v) (ho : okCr V = false) :
    Calls Tryz.prog 12 #[.pointer (some ⟨d, 0, none⟩)] w fun e w' => e = .returned (.tuple #[.int .i64 0, .int .i64 15]) ∧ Below w.heap.size w w' := by
  have HLD := Lib.hid (load_dv B d q p pd pm k c D V v w h)
  have e2 := (cr_no ho).2
  have e3 : ldB V = ⟨#[]⟩ := by unfold ldB; rw [ho]; rfl
  rw [e2, e3] at HLD
  clear h ho e2 e3
  generalize crF V = f at *
  generalize crB V = b at *
  generalize crC V = u at *
  unfold crv at *
  go_enter Tryz.func12, Tryz.ntmps12
  go_wp2_with (go_at_call 30; refine HLD.out.mono ?_; rintro e w1 ⟨rfl, b1⟩)
  go_ret2
  exact ⟨rfl, b1.alloc b1.size _⟩
theorem used_no (B d q p pd pm k c : Nat) (D V : List ByteArray) (v : Value) (n : Int) (w : World) (h : DV w B d q p pd pm k c D V v) (ho : okCr V = false) :
    Calls Tryz.prog 19 #[.pointer (some ⟨d, 0, none⟩), .int .i64 n] w fun e w' => e = .returned (.tuple #[.bool false, .int .i64 15]) ∧ Below w.heap.size w w' := by
  have HLD := Lib.hid (load_dv B d q p pd pm k c D V v w h)
  have e2 := (cr_no ho).2
  have e3 : ldB V = ⟨#[]⟩ := by unfold ldB; rw [ho]; rfl
  rw [e2, e3] at HLD
  clear h ho e2 e3
  generalize crF V = f at *
  generalize crB V = b at *
  generalize crC V = u at *
  unfold crv at *
  go_enter Tryz.func19, Tryz.ntmps19
  go_wp2_with (go_at_call 30; refine HLD.out.mono ?_; rintro e w1 ⟨rfl, b1⟩)
  go_ret2
  exact ⟨rfl, b1.alloc b1.size _⟩
theorem take_no (B d q p pd pm k c : Nat) (D V : List ByteArray) (v : Value) (w : World) (h : DV w B d q p pd pm k c D V v) (ho : okCr V = false) :
    Calls Tryz.prog 70 #[.pointer (some ⟨d, 0, none⟩)] w fun e w' => e = .returned (.tuple #[.int .i64 0, .int .i64 15]) ∧ Below w.heap.size w w' := by
  have HR := Lib.hid (run_no B d q p pd pm k c D V v 1 w h ho)
  clear h
  go_enter Tryz.func70, Tryz.ntmps70
  go_wp2_with (go_at_call 99; refine HR.out.mono ?_; rintro e w1 ⟨rfl, s1⟩)
  go_ret2
  exact ⟨rfl, s1⟩
theorem load_nil (w : World) : Calls Tryz.prog 30 #[.pointer none] w fun e w' => e = .returned (.tuple #[crv 0 0 0, .string ⟨#[]⟩, .int .i64 1]) ∧ Below w.heap.size w w' := by
  have HCR := Lib.hid (fun W => crown_nil W)
  have HNB : Hid (∀ (W : World) (o : Obj), Below W.heap.size W (W.alloc o)) := fun W o => (Below.refl _ _).alloc (Nat.le_refl _) _
  have HX0 : Hid (KBox (w.alloc (.cells #[.int .i64 0, .int .i64 0, .int .i64 0] 62)) w.heap.size 0 0 0) := KBox.new3 _ _ _ _
  have HB0 : Hid (Below w.heap.size w (w.alloc (.cells #[.int .i64 0, .int .i64 0, .int .i64 0] 62))) := (Below.refl _ _).alloc (Nat.le_refl _) _
  unfold crv at *
  go_enter Tryz.func30, Tryz.ntmps30
  go_wp2_with (go_at_call 35; refine (HCR.out _).mono ?_; rintro e w1 ⟨rfl, b1⟩
               have HB1 := Lib.hid ((HB0.out.trans (b1.mono HB0.out.size)).alloc (Nat.le_trans HB0.out.size b1.size) (.cells #[.int .i64 0, .int .i64 0, .int .i64 0] 62))
               have HX1 := Lib.hid ((HX0.out.below b1 HX0.out.lt).below (HNB.out w1 (.cells #[.int .i64 0, .int .i64 0, .int .i64 0] 62)) (Nat.lt_of_lt_of_le HX0.out.lt b1.size))
               obtain ⟨r0, r1, r2⟩ := HX1.out.row
               have zr := HX1.out.fz
               clear b1 HX0 HB0)
  generalize w1.alloc (.cells #[.int .i64 0, .int .i64 0, .int .i64 0] 62) = w2 at *
  clear r0 r1 r2 zr
  have HX9 : Hid (KBox (put3 w2 w.heap.size 0 0 0) w.heap.size 0 0 0) := put3_box HX1.out
  have HB9 : Hid (Below w.heap.size w (put3 w2 w.heap.size 0 0 0)) := put3_below HB1.out (Nat.le_refl _)
  unfold put3 at HX9 HB9
  generalize World.setCell _ ⟨w.heap.size, 2, none⟩ _ = w9 at *
  obtain ⟨r0, r1, r2⟩ := HX9.out.row
  refine bodyPost_ret (v := .tuple #[crv 0 0 0, .string ⟨#[]⟩, .int .i64 1]) (by simp [results, go_sem, r0, r1, r2, crv]) rfl ?_
  exact ⟨rfl, HB9.out⟩
theorem take_nil (w : World) : Calls Tryz.prog 70 #[.pointer none] w fun e w' => e = .returned (.tuple #[.int .i64 0, .int .i64 1]) ∧ Below w.heap.size w w' := by
  have HR : Hid (Calls Tryz.prog 99 #[.pointer none, .int .i64 1] w fun e w' => e = .returned (.tuple #[.int .i64 0, .int .i64 0, .int .i64 1]) ∧ Below w.heap.size w w') := by
    have HLD := Lib.hid (load_nil w)
    unfold crv at *
    go_enter Tryz.func99, Tryz.ntmps99
    go_wp2_with (go_at_call 30; refine HLD.out.mono ?_; rintro e w1 ⟨rfl, b1⟩)
    go_ret3
    exact ⟨rfl, b1.alloc b1.size _⟩
  go_enter Tryz.func70, Tryz.ntmps70
  go_wp2_with (go_at_call 99; refine HR.out.mono ?_; rintro e w1 ⟨rfl, s1⟩)
  go_ret2
  exact ⟨rfl, s1⟩

/-! ### with one -/
theorem drop_dk (i : Int) (h : Dk w0 w B d q p pd pm k c F N D V) (hi : I64 i) :
    Calls Tryz.prog 41 #[.pointer (some ⟨d, 0, none⟩), .int .i64 i] w fun e w' => e = .returned (.int .i64 (dpE V i)) ∧ Dk w0 w' B d q p pd pm k c F N D (dpV V i) := by
  unfold dpV dpE
  cases ho : okCr V with
  | false =>
    have e1 : ownV V i = false := by unfold ownV; rw [ho]; rfl
    rw [e1]
    simp only [if_neg (by decide : ¬ false = true), if_neg (by decide : ¬ (15 : Int) = 0)]
    obtain ⟨v, dv⟩ := h.ex
    exact (drop_no B d q p pd pm k c D V v i w dv ho).mono fun e w' hx => ⟨hx.1, h.below hx.2⟩
  | true =>
    have HLD := Lib.hid (dk_load h)
    have e3 : ldB V = mkB V := by unfold ldB; rw [ho]; rfl
    rw [cr_ok ho, e3] at HLD
    have hz := h.mk_size
    have HOW := Lib.hid (fun W => Kr.owned_any (crF V) (crB V) (crC V) i W)
    rw [own_is ho] at HOW
    have HIS := Lib.hid (fun W => is_any (mkB V) i W (by rw [hz]; omega) hi)
    have HSET := Lib.hid (fun W => set_any (mkB V) i false W (by rw [hz]; omega) hi)
    have HS := Lib.hid (fun W (hW : Below w.heap.size w W) => h.below hW)
    have hsz : (setR (mkB V) i false).size = 128 := (setR_size _ _ _).trans hz
    obtain ⟨em1, em2⟩ := wr_marks (V := V) (s := setR (mkB V) i false) (by rw [h.lenV]; have := h.least; omega) hsz
    have HWR := Lib.hid (fun W (hW : Below w.heap.size w W) => dk_write (h.below hW) 42 (setR (mkB V) i false) (by rw [hsz]; omega))
    rw [em1, em2] at HWR
    clear h ho e3 hz hi em1 em2 hsz
    generalize V.set 42 (setR (mkB V) i false) = V2 at *
    generalize setR (mkB V) i false = s at *
    generalize crF V = f at *
    generalize crB V = b at *
    generalize crC V = u at *
    generalize isB (mkB V) i = z at *
    generalize mkB V = m at *
    generalize ownV V i = o at *
    unfold crv at *
    cases o with
    | false =>
      simp only [if_neg (by decide : ¬ false = true), if_neg (by decide : ¬ (15 : Int) = 0)]
      go_enter Tryz.func41, Tryz.ntmps41
      go_wp2_with (first
        | (go_at_call 30; refine HLD.out.mono ?_; rintro e w1 ⟨rfl, b1⟩
           have HB1 := Lib.hid (b1.alloc b1.size (.cells #[.int .i64 f, .int .i64 b, .int .i64 u] 62))
           obtain ⟨y0, y1, y2⟩ := (KBox.new3 w1 f b u).row
           clear b1)
        | (go_at_call 46; refine (HOW.out _).mono ?_; rintro e w2 ⟨rfl, b2⟩))
      go_ret
      exact ⟨rfl, HS.out _ (HB1.out.trans (b2.mono HB1.out.size))⟩
    | true =>
      cases z with
      | false =>
        simp only [if_pos, if_neg (by decide : ¬ false = true), if_neg (by decide : ¬ (15 : Int) = 0)]
        go_enter Tryz.func41, Tryz.ntmps41
        go_wp2_with (first
          | (go_at_call 30; refine HLD.out.mono ?_; rintro e w1 ⟨rfl, b1⟩
             have HB1 := Lib.hid (b1.alloc b1.size (.cells #[.int .i64 f, .int .i64 b, .int .i64 u] 62))
             obtain ⟨y0, y1, y2⟩ := (KBox.new3 w1 f b u).row
             clear b1)
          | (go_at_call 46; refine (HOW.out _).mono ?_; rintro e w2 ⟨rfl, b2⟩
             have HB2 := Lib.hid (HB1.out.trans (b2.mono HB1.out.size))
             clear b2)
          | (go_at_call 47; refine (HIS.out _).mono ?_; rintro e w3 ⟨rfl, n3, rfl⟩))
        go_ret
        exact ⟨rfl, HS.out _ (Lg.Below.drews HB2.out ⟨_, rfl⟩)⟩
      | true =>
        simp only [if_pos]
        go_enter Tryz.func41, Tryz.ntmps41
        go_wp2_with (first
          | (go_at_call 30; refine HLD.out.mono ?_; rintro e w1 ⟨rfl, b1⟩
             have HB1 := Lib.hid (b1.alloc b1.size (.cells #[.int .i64 f, .int .i64 b, .int .i64 u] 62))
             obtain ⟨y0, y1, y2⟩ := (KBox.new3 w1 f b u).row
             clear b1)
          | (go_at_call 46; refine (HOW.out _).mono ?_; rintro e w2 ⟨rfl, b2⟩
             have HB2 := Lib.hid (HB1.out.trans (b2.mono HB1.out.size))
             clear b2)
          | (go_at_call 47; refine (HIS.out _).mono ?_; rintro e w3 ⟨rfl, d3⟩
             have hb3 : Below w.heap.size w w3 := Lg.Below.drews HB2.out d3)
          | (go_at_call 69; refine (HSET.out _).mono ?_; rintro e w4 ⟨rfl, b4⟩
             have hb4 := hb3.trans (b4.mono hb3.size))
          | (go_at_call 22; refine (HWR.out _ hb4).mono ?_; rintro e w5 ⟨rfl, s5⟩))
        go_ret
        exact ⟨rfl, s5⟩
theorem used_dk (i : Int) (h : Dk w0 w B d q p pd pm k c F N D V) (hi : I64 i) :
    Calls Tryz.prog 19 #[.pointer (some ⟨d, 0, none⟩), .int .i64 i] w fun e w' => e = .returned (.tuple #[.bool (usB V i), .int .i64 (usE V i)]) ∧ Below w.heap.size w w' := by
  unfold usB usE
  cases ho : okCr V with
  | false =>
    have e1 : ownV V i = false := by unfold ownV; rw [ho]; rfl
    rw [e1]
    simp only [if_neg (by decide : ¬ false = true), Bool.false_and]
    obtain ⟨v, dv⟩ := h.ex
    exact used_no B d q p pd pm k c D V v i w dv ho
  | true =>
    have HLD := Lib.hid (dk_load h)
    have e3 : ldB V = mkB V := by unfold ldB; rw [ho]; rfl
    rw [cr_ok ho, e3] at HLD
    have hz := h.mk_size
    have HOW := Lib.hid (fun W => Kr.owned_any (crF V) (crB V) (crC V) i W)
    rw [own_is ho] at HOW
    have HIS := Lib.hid (fun W => is_any (mkB V) i W (by rw [hz]; omega) hi)
    simp only [if_pos]
    clear h ho e3 hz hi
    generalize crF V = f at *
    generalize crB V = b at *
    generalize crC V = u at *
    generalize isB (mkB V) i = z at *
    generalize mkB V = m at *
    generalize ownV V i = o at *
    unfold crv at *
    cases o with
    | false =>
      simp only [if_neg (by decide : ¬ false = true), Bool.false_and]
      go_enter Tryz.func19, Tryz.ntmps19
      go_wp2_with (first
        | (go_at_call 30; refine HLD.out.mono ?_; rintro e w1 ⟨rfl, b1⟩
           have HB1 := Lib.hid (b1.alloc b1.size (.cells #[.int .i64 f, .int .i64 b, .int .i64 u] 62))
           obtain ⟨y0, y1, y2⟩ := (KBox.new3 w1 f b u).row
           clear b1)
        | (go_at_call 46; refine (HOW.out _).mono ?_; rintro e w2 ⟨rfl, b2⟩))
      go_ret2
      exact ⟨rfl, HB1.out.trans (b2.mono HB1.out.size)⟩
    | true =>
      simp only [if_pos, Bool.true_and]
      go_enter Tryz.func19, Tryz.ntmps19
      go_wp2_with (first
        | (go_at_call 30; refine HLD.out.mono ?_; rintro e w1 ⟨rfl, b1⟩
           have HB1 := Lib.hid (b1.alloc b1.size (.cells #[.int .i64 f, .int .i64 b, .int .i64 u] 62))
           obtain ⟨y0, y1, y2⟩ := (KBox.new3 w1 f b u).row
           clear b1)
        | (go_at_call 46; refine (HOW.out _).mono ?_; rintro e w2 ⟨rfl, b2⟩
           have HB2 := Lib.hid (HB1.out.trans (b2.mono HB1.out.size))
           clear b2)
        | (go_at_call 47; refine (HIS.out _).mono ?_; rintro e w3 ⟨rfl, n3, rfl⟩))
      go_ret2
      exact ⟨rfl, Lg.Below.drews HB2.out ⟨_, rfl⟩⟩
theorem free_dk (h : Dk w0 w B d q p pd pm k c F N D V) :
    Calls Tryz.prog 12 #[.pointer (some ⟨d, 0, none⟩)] w fun e w' => e = .returned (.tuple #[.int .i64 (frN V), .int .i64 (crE V)]) ∧ Below w.heap.size w w' := by
  unfold frN
  cases ho : okCr V with
  | false =>
    rw [(cr_no ho).2]
    simp only [if_neg (by decide : ¬ false = true)]
    obtain ⟨v, dv⟩ := h.ex
    exact free_no B d q p pd pm k c D V v w dv ho
  | true =>
    have HLD := Lib.hid (dk_load h)
    have e3 : ldB V = mkB V := by unfold ldB; rw [ho]; rfl
    rw [cr_ok ho, e3] at HLD
    rw [cr_ok ho]
    obtain ⟨k1, k2, k3, k4⟩ := cr_b ho
    have hz := h.mk_size
    have HNF := Lib.hid (fun W => notFree_any (crF V) (crB V) (crC V) (mkB V) W hz (by unfold I64; omega))
    have HCN := Lib.hid (fun W => count_any (usedB (crB V) (mkB V)) (crB V) W (by rw [used_size]; omega) (by omega))
    have hfr := free_is (mkB V) (crB V).toNat hz (by omega)
    rw [show (((crB V).toNat : Nat) : Int) = crB V by omega] at hfr
    simp only [if_pos]
    rw [← hfr]
    have hbd : 0 ≤ cntR (usedB (crB V) (mkB V)) (crB V) ∧ cntR (usedB (crB V) (mkB V)) (crB V) ≤ 100000 := by
      unfold cntR
      have := cnt_le (usedB (crB V) (mkB V)) (min (crB V) 100000).toNat
      omega
    clear h ho e3 hz hfr k1 k4
    generalize cntR (usedB (crB V) (mkB V)) (crB V) = cn at *
    generalize usedB (crB V) (mkB V) = us at *
    generalize crF V = f at *
    generalize crB V = b at *
    generalize crC V = u at *
    generalize mkB V = m at *
    unfold crv at *
    go_enter Tryz.func12, Tryz.ntmps12
    go_wp2_with (first
      | (go_at_call 30; refine HLD.out.mono ?_; rintro e w1 ⟨rfl, b1⟩
         have HB1 := Lib.hid (b1.alloc b1.size (.cells #[.int .i64 f, .int .i64 b, .int .i64 u] 62))
         have HX1 := Lib.hid (KBox.new3 w1 f b u)
         obtain ⟨y0, y1, y2⟩ := HX1.out.row
         clear b1))
    generalize w1.heap.size = gx at *
    generalize w1.alloc (.cells #[.int .i64 f, .int .i64 b, .int .i64 u] 62) = W1 at *
    have HW1 : Hid (w.heap.size ≤ W1.heap.size) := HB1.out.size
    clear y0 y1 y2
    go_region_held3 (fun v' => v'.cell? ⟨gx, 0, none⟩ = some (.int .i64 f) ∧ v'.cell? ⟨gx, 1, none⟩ = some (.int .i64 b) ∧ v'.cell? ⟨gx, 2, none⟩ = some (.int .i64 u))
      (first | exact HX1.out.row | exact HX2.out.row | exact HX3.out.row)
      (first
        | (go_at_call 31; go_must (go_fit (HCN.out _)); rintro e w3 ⟨rfl, d3⟩
           have HB3 : Hid (Below w.heap.size w w3) := Lg.Below.drews HB2.out d3
           have HX3 : Hid (KBox w3 gx f b u) := by obtain ⟨n3, rfl⟩ := d3; exact HX2.out
           clear d3)
        | (go_at_call 32; go_must (go_fit (HNF.out _)); rintro e w2 ⟨rfl, b2⟩
           have HB2 : Hid (Below w.heap.size w w2) := HB1.out.drew.trans (b2.mono HB1.out.size)
           have HX2 : Hid (KBox w2 gx f b u) := (show KBox W1.drew gx f b u from HX1.out).below b2 HX1.out.lt
           clear b2))
    all_goals
      rw [show IntKind.i64.wrap (b - cn) = b - cn from IntWalk.i64_in _ (by omega)]
      go_wp2
      go_ret2
      exact ⟨rfl, HB3.out⟩
end
end Go.Proofs.YtgdlfiejjnjcpaaGreat.Dl
