/-
  WALKS of stock: Run, Take, Drop, Free, Used, over a deal's view. Condition: a deal on a calm slab.
-/
import Derived.Test.YtbkgfkemjhaopaaGreatFB
set_option linter.unusedVariables false
set_option linter.unusedSimpArgs false
set_option maxRecDepth 100000
set_option maxHeartbeats 4000000
namespace Go.Proofs.YtbkgfkemjhaopaaGreat.Dl
open Go.RowKit
open Mk
open Sl (Turns SlabAt)
open Lg (Ch chCells chsCells FS LogAt Whole setL setL_len ownB bcell z128)
open Kr (crv rightK blockK okK kf kb kc KBox cells3 put3 put3_box put3_below marksK bit_marks marks_size I64)

/-! ### what the crown says -/
theorem cr_b {V : List ByteArray} (h : okCr V = true) : rightK (crF V) (crB V) (crC V) = true ∧ 64 ≤ crB V ∧ crB V ≤ 400 ∧ crB V ≤ V.length := by
  unfold crF crB crC
  rw [if_pos h, if_pos h, if_pos h]
  unfold okCr at h
  simp only [Bool.and_eq_true, decide_eq_true_eq] at h
  have h1 := (Kr.okK_t h.1).1
  have h2 := Kr.rightK_t h1
  exact ⟨h1, h2.1, h2.2.1, h.2⟩
theorem cr_no {V : List ByteArray} (h : okCr V = false) : crB V = 0 ∧ crE V = 15 := by
  unfold crB crE
  rw [h]
  exact ⟨rfl, rfl⟩
theorem cr_ok {V : List ByteArray} (h : okCr V = true) : crE V = 0 := by
  unfold crE
  rw [h]
  rfl

/-! ### what is taken -/
def fnV (V : List ByteArray) (n : Int) : Nat × Nat := fndP (mkB V) (crB V) n
def rnE (V : List ByteArray) (n : Int) : Int := if okCr V = true then (if n < 1 then 1 else if (fnV V n).2 = 0 then 10 else 0) else 15
def rnA (V : List ByteArray) (n : Int) : Int := if rnE V n = 0 then ((fnV V n).1 : Nat) else 0
def rnL (V : List ByteArray) (n : Int) : Int := if rnE V n = 0 then ((fnV V n).2 : Nat) else 0
/-- V, with k blocks from a on empty. -/
def zTo (V : List ByteArray) (a : Nat) : Nat → List ByteArray
  | 0 => V
  | k + 1 => (zTo V a k).set (a + k) z128
def rnV (V : List ByteArray) (n : Int) : List ByteArray := if rnE V n = 0 then (zTo V (fnV V n).1 (fnV V n).2).set 42 (takeN (mkB V) (fnV V n).1 (fnV V n).2) else V
theorem zTo_len (V : List ByteArray) (a : Nat) : ∀ k, (zTo V a k).length = V.length
  | 0 => rfl
  | k + 1 => by rw [zTo, List.length_set]; exact zTo_len V a k
theorem wr_zero {V : List ByteArray} {i : Nat} (h1 : 42 ≤ i) (h2 : i < V.length) : wrE V (i : Int) ⟨#[]⟩ = 0 ∧ wrV V (i : Int) ⟨#[]⟩ = V.set i z128 := by
  have e : wrOk V (i : Int) ⟨#[]⟩ = true := by unfold wrOk; rw [hasB_t.2 (by omega)]; rfl
  unfold wrE wrV
  rw [if_pos e, if_pos e]
  exact ⟨rfl, rfl⟩
theorem wr_marks {V : List ByteArray} {s : ByteArray} (h2 : 42 < V.length) (hs : s.size = 128) : wrE V 42 s = 0 ∧ wrV V 42 s = V.set 42 s := by
  have e : wrOk V 42 s = true := by unfold wrOk; rw [hasB_t.2 (by omega), hs]; rfl
  unfold wrE wrV
  rw [if_pos e, if_pos e, Lg.padS_full hs]
  exact ⟨rfl, rfl⟩
theorem setR_take (m : ByteArray) (a k : Nat) : setR (takeN m a k) ((a + k : Nat) : Int) true = takeN m a (k + 1) := by rw [setR_nat, takeN]


/-! ### a deal and the reference's, side by side, and the pair of both -/
/-- where the pair is, and what other blocks hold that a deal doesn't touch. -/
structure Fram where
  at_ : Nat
  bx : List (Nat × Array Value × TypeId)
def Fram.add (g : Fram) (j : Nat) (cs : Array Value) (ty : TypeId) : Fram := ⟨g.at_, (j, cs, ty) :: g.bx⟩
def Fram.fit (g : Fram) (w : World) : Prop := ∀ x ∈ g.bx, w.heap[x.1]? = some (.cells x.2.1 x.2.2 (0, 0)) ∧ x.2.2 ≠ 92 ∧ x.2.2 ≠ 95 ∧ x.2.2 ≠ 9
/-- the deal in d shows V, the reference's in r has now; both in the pair in g; all else of the world w0 is as it was. -/
structure St (w0 w : World) (B d q p pd pm R r : Nat) (g : Fram) (N : Nat) (D V base now : List ByteArray) : Prop where
  ex : ∃ v gb cb gn cn, DV w B d q p pd pm 0 0 D V v ∧ RD w R r gb cb gn cn N base now
  hBR : B ≤ R
  hN : D.length = N
  pr : w.heap[g.at_]? = some (.cells #[.pointer (some ⟨d, 0, none⟩), .pointer (some ⟨r, 0, none⟩)] 40 (0, 0))
  fx : g.fit w
  hb : Below w0.heap.size w0 w
  hd : w0.heap.size ≤ d
  hB : w0.heap.size ≤ B
  wn : Whole now
  wb : Whole base
theorem Fram.fit.turns {g : Fram} {w w' : World} {L : List Nat} (h : g.fit w) (t : Turns L w w') (hL : ∀ x ∈ g.bx, x.1 ∉ L) : g.fit w' := fun x hx => by
  obtain ⟨h1, h2⟩ := h x hx
  exact ⟨(t.block x.1 (Array.getElem?_eq_some_iff.1 h1).1 (hL x hx)).trans h1, h2⟩
section
variable {w0 w w' : World} {B d q p pd pm R r : Nat} {g : Fram} {N : Nat} {D V V' base now now' : List ByteArray}
theorem St.lt (h : St w0 w B d q p pd pm R r g N D V base now) : g.at_ < w.heap.size := (Array.getElem?_eq_some_iff.1 h.pr).1
theorem St.c0 (h : St w0 w B d q p pd pm R r g N D V base now) : w.cell? ⟨g.at_, 0, none⟩ = some (.pointer (some ⟨d, 0, none⟩)) := by rw [cell_of_row w g.at_ 0 _ 40 _ h.pr]; rfl
theorem St.c1 (h : St w0 w B d q p pd pm R r g N D V base now) : w.cell? ⟨g.at_, 1, none⟩ = some (.pointer (some ⟨r, 0, none⟩)) := by rw [cell_of_row w g.at_ 1 _ 40 _ h.pr]; rfl
theorem St.below (h : St w0 w B d q p pd pm R r g N D V base now) (hW : Below w.heap.size w w') : St w0 w' B d q p pd pm R r g N D V base now := by
  obtain ⟨v, gb, cb, gn, cn, dv, rd⟩ := h.ex
  exact ⟨⟨v, gb, cb, gn, cn, dv.below hW, rd.below hW⟩, h.hBR, h.hN, (hW.block g.at_ h.lt).trans h.pr, h.fx.turns (Turns.of_below [] hW) (by simp), h.hb.trans (hW.mono h.hb.size), h.hd, h.hB, h.wn, h.wb⟩
theorem St.lenV (h : St w0 w B d q p pd pm R r g N D V base now) : V.length = N := by
  obtain ⟨v, gb, cb, gn, cn, dv, rd⟩ := h.ex
  exact dv.len.trans h.hN
theorem St.lenN (h : St w0 w B d q p pd pm R r g N D V base now) : now.length = N := by
  obtain ⟨v, gb, cb, gn, cn, dv, rd⟩ := h.ex
  exact rd.ln
theorem St.least (h : St w0 w B d q p pd pm R r g N D V base now) : 64 ≤ N := by
  obtain ⟨v, gb, cb, gn, cn, dv, rd⟩ := h.ex
  rw [← h.hN]; exact dv.least
theorem St.most (h : St w0 w B d q p pd pm R r g N D V base now) : N ≤ 1000 := by
  obtain ⟨v, gb, cb, gn, cn, dv, rd⟩ := h.ex
  rw [← h.hN]; exact dv.most
theorem St.mk_size (h : St w0 w B d q p pd pm R r g N D V base now) : (mkB V).size = 128 := by
  obtain ⟨v, gb, cb, gn, cn, dv, rd⟩ := h.ex
  exact Dl.mk_size dv
theorem St.rmk_size (h : St w0 w B d q p pd pm R r g N D V base now) : (mkB now).size = 128 := h.wn.get (k := 42) (by rw [h.lenN]; have := h.least; omega)
theorem St.add {j : Nat} {cs : Array Value} {ty : TypeId} (h : St w0 w B d q p pd pm R r g N D V base now) (hx : w.heap[j]? = some (.cells cs ty (0, 0))) (ht : ty ≠ 92 ∧ ty ≠ 95 ∧ ty ≠ 9) : St w0 w B d q p pd pm R r (g.add j cs ty) N D V base now :=
  ⟨h.ex, h.hBR, h.hN, h.pr, fun x hm => by
    rcases List.mem_cons.1 hm with e | e
    · subst e; exact ⟨hx, ht⟩
    · exact h.fx x e, h.hb, h.hd, h.hB, h.wn, h.wb⟩
theorem St.drop {j : Nat} {cs : Array Value} {ty : TypeId} (h : St w0 w B d q p pd pm R r (g.add j cs ty) N D V base now) : St w0 w B d q p pd pm R r g N D V base now :=
  ⟨h.ex, h.hBR, h.hN, h.pr, fun x hm => h.fx x (List.mem_cons_of_mem _ hm), h.hb, h.hd, h.hB, h.wn, h.wb⟩
theorem St.box {j : Nat} {cs : Array Value} {ty : TypeId} (h : St w0 w B d q p pd pm R r (g.add j cs ty) N D V base now) : w.heap[j]? = some (.cells cs ty (0, 0)) := (h.fx (j, cs, ty) (List.mem_cons_self ..)).1
/-- the deal did something. -/
theorem St.did {v : Value} {gb cb gn cn : Nat} (h : St w0 w B d q p pd pm R r g N D V base now) (dv : DV w B d q p pd pm 0 0 D V v) (rd : RD w R r gb cb gn cn N base now) (hw : WroteV w B d q p pd pm 0 0 D V' v w') : St w0 w' B d q p pd pm R r g N D V' base now := by
  obtain ⟨v', dv', t⟩ := hw
  refine ⟨⟨v', gb, cb, gn, cn, dv', rd.deal dv h.hBR (t.mono (all_in _))⟩, h.hBR, h.hN, (t.block g.at_ h.lt ?_).trans h.pr, h.fx.turns t ?_, h.hb.trans (t.below h.hb.size ?_), h.hd, h.hB, h.wn, h.wb⟩
  · intro hm
    rcases List.mem_cons.1 hm with e | e
    · obtain ⟨cs, ht⟩ : ∃ cs, w.heap[d]? = some (.cells cs 92 (0, 0)) := ⟨_, dv.dl⟩
      exact tag_ne h.pr ht (by decide) e
    · obtain ⟨cs, ht⟩ := dv.own_tag (ownL_mem.1 e)
      exact tag_ne h.pr ht (by decide) rfl
  · intro x hx hm
    obtain ⟨h1, h2, h3, h4⟩ := h.fx x hx
    rcases List.mem_cons.1 hm with e | e
    · exact tag_ne h1 (show w.heap[d]? = some (.cells _ 92 (0, 0)) from dv.dl) h2 e
    · obtain ⟨cs, ht⟩ := dv.own_tag (ownL_mem.1 e)
      exact tag_ne h1 ht h3 rfl
  · intro j hj
    rcases dv.own_ge j hj with e | e
    · rw [e]; exact h.hd
    · exact Nat.le_trans h.hB e
/-- the reference did something. -/
theorem St.refd {v : Value} {gb cb gn cn : Nat} (h : St w0 w B d q p pd pm R r g N D V base now) (dv : DV w B d q p pd pm 0 0 D V v) (rd : RD w R r gb cb gn cn N base now) (rd' : RD w' R r gb cb gn cn N base now') (t : Turns [gn] w w') (wn : Whole now') : St w0 w' B d q p pd pm R r g N D V base now' := by
  have hgn := rd.gn_ge.1
  have hBR := h.hBR
  have hB := h.hB
  refine ⟨⟨v, gb, cb, gn, cn, dv.ref rd h.hBR (t.mono (fun j hj => by simp at hj ⊢; exact .inr hj)), rd'⟩, h.hBR, h.hN, (t.block g.at_ h.lt ?_).trans h.pr, h.fx.turns t ?_, h.hb.trans (t.below h.hb.size ?_), h.hd, h.hB, wn, h.wb⟩
  · intro hm
    obtain ⟨cs, ht⟩ := own_tag rd.hn (b := gn) rfl
    simp only [List.mem_cons, List.not_mem_nil, or_false] at hm
    exact tag_ne h.pr ht (by decide) hm
  · intro x hx hm
    obtain ⟨h1, h2, h3, h4⟩ := h.fx x hx
    obtain ⟨cs, ht⟩ := own_tag rd.hn (b := gn) rfl
    simp only [List.mem_cons, List.not_mem_nil, or_false] at hm
    exact tag_ne h1 ht h4 hm
  · intro j hj
    simp only [List.mem_cons, List.not_mem_nil, or_false] at hj
    omega
end
theorem st_write {w0 w : World} {B d q p pd pm R r : Nat} {g : Fram} {N : Nat} {D V base now : List ByteArray} (h : St w0 w B d q p pd pm R r g N D V base now) (i : Int) (s : ByteArray) (hs : s.size ≤ 9223372036854775807) :
    Calls Tryz.prog 27 #[.pointer (some ⟨d, 0, none⟩), .int .i64 i, .string s] w fun e w' => e = .returned (.int .i64 (wrE V i s)) ∧ St w0 w' B d q p pd pm R r g N D (wrV V i s) base now := by
  obtain ⟨v, gb, cb, gn, cn, dv, rd⟩ := h.ex
  exact (write_dv B d q p pd pm 0 0 D V v i s w dv hs).mono fun e w' hx => ⟨hx.1, h.did dv rd hx.2⟩
theorem st_load {w0 w : World} {B d q p pd pm R r : Nat} {g : Fram} {N : Nat} {D V base now : List ByteArray} (h : St w0 w B d q p pd pm R r g N D V base now) :
    Calls Tryz.prog 38 #[.pointer (some ⟨d, 0, none⟩)] w fun e w' => e = .returned (.tuple #[crv (crF V) (crB V) (crC V), .string (ldB V), .int .i64 (crE V)]) ∧ Below w.heap.size w w' := by
  obtain ⟨v, gb, cb, gn, cn, dv, rd⟩ := h.ex
  exact load_dv B d q p pd pm 0 0 D V v w dv

/-! ### without a crown -/
theorem run_no (B d q p pd pm k c : Nat) (D V : List ByteArray) (v : Value) (n : Int) (w : World) (h : DV w B d q p pd pm k c D V v) (ho : okCr V = false) :
    Calls Tryz.prog 15 #[.pointer (some ⟨d, 0, none⟩), .int .i64 n] w fun e w' => e = .returned (.tuple #[.int .i64 0, .int .i64 0, .int .i64 15]) ∧ Below w.heap.size w w' := by
  have HLD := Lib.hid (load_dv B d q p pd pm k c D V v w h)
  have e2 := (cr_no ho).2
  have e3 : ldB V = ⟨#[]⟩ := by unfold ldB; rw [ho]; rfl
  rw [e2, e3] at HLD
  clear h ho e2 e3
  generalize crF V = f at *
  generalize crB V = b at *
  generalize crC V = u at *
  unfold crv at *
  go_enter Tryz.func15, Tryz.ntmps15
  go_wp2_with (go_at_call 38; refine HLD.out.mono ?_; rintro e w1 ⟨rfl, b1⟩)
  go_ret3
  exact ⟨rfl, b1.alloc b1.size _⟩

theorem run_st {w0 w : World} {B d q p pd pm R r : Nat} {g : Fram} {N : Nat} {D V base now : List ByteArray} (n : Int) (h : St w0 w B d q p pd pm R r g N D V base now) (hn : I64 n) :
    Calls Tryz.prog 15 #[.pointer (some ⟨d, 0, none⟩), .int .i64 n] w fun e w' => e = .returned (.tuple #[.int .i64 (rnA V n), .int .i64 (rnL V n), .int .i64 (rnE V n)]) ∧ St w0 w' B d q p pd pm R r g N D (rnV V n) base now := by
  have HS := Lib.hid h
  unfold rnV rnA rnL
  cases ho : okCr V with
  | false =>
    have e1 : rnE V n = 15 := by unfold rnE; rw [ho]; rfl
    rw [e1]
    simp only [if_neg (by decide : ¬ (15 : Int) = 0)]
    obtain ⟨v, gb, cb, gn, cn, dv, rd⟩ := h.ex
    exact (run_no B d q p pd pm 0 0 D V v n w dv ho).mono fun e w' hx => ⟨hx.1, h.below hx.2⟩
  | true =>
    have HLD := Lib.hid (st_load h)
    have e3 : ldB V = mkB V := by unfold ldB; rw [ho]; rfl
    rw [cr_ok ho, e3] at HLD
    obtain ⟨k1, k2, k3, k4⟩ := cr_b ho
    have hz := h.mk_size
    by_cases h1 : n < 1
    · have e1 : rnE V n = 1 := by unfold rnE; rw [if_pos ho, if_pos h1]
      rw [e1]
      simp only [if_neg (by decide : ¬ (1 : Int) = 0)]
      clear h ho e1 e3 hz k1 k2 k3 k4
      generalize crF V = f at *
      generalize crB V = b at *
      generalize crC V = u at *
      generalize mkB V = m at *
      unfold crv at *
      go_enter Tryz.func15, Tryz.ntmps15
      go_wp2_with (go_at_call 38; refine HLD.out.mono ?_; rintro e w1 ⟨rfl, b1⟩)
      go_ret3
      exact ⟨rfl, HS.out.below (b1.alloc b1.size _)⟩
    · have HFD := Lib.hid (fun W => sfind_any (crF V) (crB V) (crC V) (mkB V) n W hz (by unfold I64; omega) hn (by omega))
      have HN := Lib.hid (KBox.new3)
      by_cases h2 : (fnV V n).2 = 0
      · have e1 : rnE V n = 10 := by unfold rnE; rw [if_pos ho, if_neg h1, if_pos h2]
        rw [e1]
        simp only [if_neg (by decide : ¬ (10 : Int) = 0)]
        unfold fnV at h2
        rw [h2] at HFD
        generalize (fndP (mkB V) (crB V) n).1 = a at *
        clear h ho e1 e3 hz k1 k2 k3 k4 h2
        generalize crF V = f at *
        generalize crB V = b at *
        generalize crC V = u at *
        generalize mkB V = m at *
        unfold crv at *
        go_enter Tryz.func15, Tryz.ntmps15
        go_wp2_with (first
          | (go_at_call 38; refine HLD.out.mono ?_; rintro e w1 ⟨rfl, b1⟩
             have HB1 := Lib.hid (b1.alloc b1.size (.cells #[.int .i64 f, .int .i64 b, .int .i64 u] 62))
             obtain ⟨y0, y1, y2⟩ := (HN.out w1 f b u).row
             clear b1)
          | (go_at_call 39; refine (HFD.out _).mono ?_; rintro e w2 ⟨rfl, b2⟩))
        go_ret3
        exact ⟨rfl, HS.out.below (HB1.out.trans (b2.mono HB1.out.size))⟩
      · have e1 : rnE V n = 0 := by unfold rnE; rw [if_pos ho, if_neg h1, if_neg h2]
        rw [e1]
        simp only [if_pos]
        have hfi := fnd_is (mkB V) (crB V).toNat n.toNat hz (by omega) (by omega)
        rw [show (((crB V).toNat : Nat) : Int) = crB V by omega, show ((n.toNat : Nat) : Int) = n by omega] at hfi
        unfold fnV at h2 ⊢
        generalize hra : (fndP (mkB V) (crB V) n).1 = a at *
        generalize hrl : (fndP (mkB V) (crB V) n).2 = l at *
        have hal : 51 ≤ a ∧ a + l ≤ N ∧ a + l ≤ 400 ∧ 1 ≤ l := by
          have hv := h.lenV
          rcases hfi with ⟨e, _⟩ | ⟨e1, e2, e3, _⟩
          · exact absurd e h2
          · have := e3.1; have := e3.2.1; omega
        have HAL := Lib.hid hal
        have HZ := Lib.hid hz
        have HLL := Lib.hid h.lenV
        have HWZ : Hid (∀ k, k < l → wrE (zTo V a k) ((a : Int) + (k : Int)) ⟨#[]⟩ = 0 ∧ wrV (zTo V a k) ((a : Int) + (k : Int)) ⟨#[]⟩ = zTo V a (k + 1)) := fun k hk => by
          rw [show (a : Int) + (k : Int) = ((a + k : Nat) : Int) by omega]
          have := wr_zero (V := zTo V a k) (i := a + k) (by have := HAL.out; omega) (by rw [zTo_len, HLL.out]; have := HAL.out; omega)
          exact ⟨this.1, this.2.trans rfl⟩
        have HWM : Hid (wrE (zTo V a l) 42 (takeN (mkB V) a l) = 0 ∧ wrV (zTo V a l) 42 (takeN (mkB V) a l) = (zTo V a l).set 42 (takeN (mkB V) a l)) := wr_marks (by rw [zTo_len, HLL.out]; have := HAL.out; omega) (by rw [take_size]; exact HZ.out)
        have HST0 := Lib.hid (fun W (hW : Below w.heap.size w W) => h.below hW)
        have HTK : Hid (∀ k, takeN (mkB V) a (k + 1) = setR (takeN (mkB V) a k) ((a : Int) + (k : Int)) true) := fun k => by rw [show (a : Int) + (k : Int) = ((a + k : Nat) : Int) by omega]; exact (setR_take _ _ _).symm
        have HTZ : Hid (∀ k, (takeN (mkB V) a k).size = 128) := fun k => (take_size _ _ _).trans HZ.out
        have HT0 : Hid (mkB V = takeN (mkB V) a 0) := rfl
        clear h ho e1 e3 hz k1 k2 k3 k4 h2 hfi hra hrl hal HS
        generalize crF V = f at *
        generalize crB V = b at *
        generalize crC V = u at *
        generalize mkB V = m at *
        unfold crv at *
        have hl0 : ((l : Int) == 0) = false := by have := HAL.out; rw [beq_eq_false_iff_ne]; omega
        go_enter Tryz.func15, Tryz.ntmps15
        go_wp2_with (first
          | (go_at_call 38; refine HLD.out.mono ?_; rintro e w1 ⟨rfl, b1⟩
             have HB1 := Lib.hid (b1.alloc b1.size (.cells #[.int .i64 f, .int .i64 b, .int .i64 u] 62))
             obtain ⟨y0, y1, y2⟩ := (HN.out w1 f b u).row
             clear b1)
          | (go_at_call 39; refine (HFD.out _).mono ?_; rintro e w2 ⟨rfl, b2⟩
             have HS2 := Lib.hid (HST0.out _ (HB1.out.trans (b2.mono HB1.out.size)))
             have hlpos : ¬ l = 0 := by have := HAL.out; omega
             clear b2 y0 y1 y2))
        have hl9 : (l : Int) ≤ 400 := by have := HAL.out; omega
        clear h1 hlpos HLD HFD HN HB1
        go_loopw [8, 12, 34] (fun s _ i wr => ∃ k : Nat, k ≤ l ∧ i = .int .i64 k ∧ s = .string (takeN m a k) ∧ St w0 wr B d q p pd pm R r g N D (zTo V a k) base now) (fun _ _ i _ => l - (intOf i).toNat)
        case atStart => exact ⟨0, by omega, rfl, by rw [← HT0.out], HS2.out⟩
        case round =>
          obtain ⟨k, hk, rfl, rfl, hs⟩ := hrel
          by_cases hlt : k < l
          · have hlt2 : (k : Int) < (l : Int) := by omega
            have hak : (a : Int) + (k : Int) ≤ 400 := by have := HAL.out; omega
            have HSET := Lib.hid (fun W => set_any (takeN m a k) ((a : Int) + (k : Int)) true W (by rw [HTZ.out]; omega) (by omega))
            rw [← HTK.out k] at HSET
            have HWR := Lib.hid (fun W (hW : Below wr.heap.size wr W) => st_write (hs.below hW) ((a : Int) + (k : Int)) ⟨#[]⟩ (by decide))
            rw [(HWZ.out k hlt).1, (HWZ.out k hlt).2] at HWR
            clear hs
            go_wp2_with (first
              | (go_at_call 40; refine (HSET.out _).mono ?_; rintro e w3 ⟨rfl, b3⟩)
              | (go_at_call 27; refine (HWR.out _ b3).mono ?_; rintro e w4 ⟨rfl, s4⟩))
            go_roundw
            case rel => exact ⟨k + 1, by omega, by go_num, rfl, s4⟩
            case measure => simp [intOf]; omega
          · have hke : k = l := by omega
            subst hke
            have hlt2 : ¬ (k : Int) < (k : Int) := by omega
            have HWR := Lib.hid (st_write hs 42 (takeN m a k) (by rw [HTZ.out]; omega))
            rw [HWM.out.1, HWM.out.2] at HWR
            clear hs
            go_wp2_with (go_at_call 27; refine HWR.out.mono ?_; rintro e w4 ⟨rfl, s4⟩)
            go_ret3
            exact ⟨rfl, s4⟩
end Go.Proofs.YtbkgfkemjhaopaaGreat.Dl
