/-
  A DEAL AS A VIEW of the disk: what it reads, block by block; WALKS of Read, Write, Crown and SetCrown over views. Condition: a deal on a calm slab.
-/
import Derived.Test.YtgdlfiejjnjcpaaGreatDF
import Derived.Test.YtgdlfiejjnjcpaaGreatBK
import Derived.Deep.QuietTactic
import Derived.BigQuiet
set_option linter.unusedVariables false
set_option linter.unusedSimpArgs false
set_option maxRecDepth 100000
set_option maxHeartbeats 4000000
namespace Go.Proofs.YtgdlfiejjnjcpaaGreat.Dl
open Go.RowKit
open Sl (Turns SlabAt)
open Lg (Ch chCells chsCells FS LogAt Whole setL setL_len ownB bcell)
open Kr (crv rightK blockK okK kf kb kc writeK KBox cells3 put3 put3_box put3_below)

/-- what a deal keeps is the view V of the disk D. -/
def DV (w : World) (B d q p pd pm k c : Nat) (D V : List ByteArray) (v : Value) : Prop := ∃ l, DS w B d q p pd pm k c D l v ∧ setL D l = V
section
variable {w w' : World} {B d q p pd pm k c : Nat} {D V : List ByteArray} {v : Value}
theorem DV.len (h : DV w B d q p pd pm k c D V v) : V.length = D.length := by obtain ⟨l, _, rfl⟩ := h; exact setL_len _ _
theorem DV.whole (h : DV w B d q p pd pm k c D V v) : Whole V := by
  obtain ⟨l, h, rfl⟩ := h
  exact Whole.setL l h.wh (fun c hc => (h.inv.rng c hc).2.2.2)
theorem DV.own (h : DV w B d q p pd pm k c D V v) {i : Nat} (hi : ownB (i : Int) = true) : V.getD i ⟨#[]⟩ = D.getD i ⟨#[]⟩ := by
  obtain ⟨l, h, rfl⟩ := h
  refine Lg.setL_out fun c hc e => ?_
  have h1 := h.inv.rng c hc
  have h2 := Lg.ownB_t.1 hi
  exact h1.2.2.1 (by omega)
theorem DV.most (h : DV w B d q p pd pm k c D V v) : D.length ≤ 1000 := by obtain ⟨l, h, rfl⟩ := h; exact h.most
theorem DV.least (h : DV w B d q p pd pm k c D V v) : 64 ≤ D.length := by obtain ⟨l, h, rfl⟩ := h; exact h.len
theorem DV.sep (h : DV w B d q p pd pm k c D V v) : Sep B d q p pd pm := by obtain ⟨l, h, rfl⟩ := h; exact h.sep
theorem DV.hB (h : DV w B d q p pd pm k c D V v) : B ≤ w.heap.size := by obtain ⟨l, h, rfl⟩ := h; exact h.hB
theorem DV.dl (h : DV w B d q p pd pm k c D V v) : DealAt w d q v := by obtain ⟨l, h, rfl⟩ := h; exact h.dl
theorem DV.lg (h : DV w B d q p pd pm k c D V v) : LogAt w q p k := by obtain ⟨l, h, rfl⟩ := h; exact h.lg
theorem DV.sl (h : DV w B d q p pd pm k c D V v) : SlabAt w p pd pm (FS D c) := by obtain ⟨l, h, rfl⟩ := h; exact h.sl
theorem DV.turns {L : List Nat} (h : DV w B d q p pd pm k c D V v) (ht : Turns L w w') (hL : ∀ j, j ∈ L → B ≤ j ∧ v.ownBlock ≠ some j) : DV w' B d q p pd pm k c D V v := by
  obtain ⟨l, h, e⟩ := h
  exact ⟨l, h.turns ht hL, e⟩
theorem DV.below (h : DV w B d q p pd pm k c D V v) (hb : Below w.heap.size w w') : DV w' B d q p pd pm k c D V v := by
  obtain ⟨l, h, e⟩ := h
  exact ⟨l, h.below hb, e⟩
theorem DV.own_ge (h : DV w B d q p pd pm k c D V v) : ∀ j, j ∈ d :: ownL v → j = d ∨ B ≤ j := by obtain ⟨l, h, rfl⟩ := h; exact h.own_ge
theorem DV.own_lt (h : DV w B d q p pd pm k c D V v) : ∀ j, j ∈ d :: ownL v → j < w.heap.size := by
  obtain ⟨l, h, rfl⟩ := h
  intro j hj
  rcases List.mem_cons.1 hj with e | e
  · rw [e]; exact h.dl.lt
  · exact (h.row.lt j (ownL_mem.1 e)).2
end

/-! ### what is read and written -/
def rdB (V : List ByteArray) (i : Int) : ByteArray := if hasB V.length i = true then V.getD i.toNat ⟨#[]⟩ else ⟨#[]⟩
def wrV (V : List ByteArray) (i : Int) (s : ByteArray) : List ByteArray := if wrOk V i s = true then V.set i.toNat (Sl.padS s 128) else V
def scOk (V : List ByteArray) (f b c : Int) : Bool := rightK f b c && decide (b ≤ V.length)
def scE (V : List ByteArray) (f b c : Int) : Int := if scOk V f b c = true then 0 else 1
def scV (V : List ByteArray) (f b c : Int) : List ByteArray := if scOk V f b c = true then V.set 0 (blockK f b c) else V
def okCr (V : List ByteArray) : Bool := okK (V.getD 0 ⟨#[]⟩) && decide (kb (V.getD 0 ⟨#[]⟩) ≤ V.length)
def crF (V : List ByteArray) : Int := if okCr V = true then kf (V.getD 0 ⟨#[]⟩) else 0
def crB (V : List ByteArray) : Int := if okCr V = true then kb (V.getD 0 ⟨#[]⟩) else 0
def crC (V : List ByteArray) : Int := if okCr V = true then kc (V.getD 0 ⟨#[]⟩) else 0
def crE (V : List ByteArray) : Int := if okCr V = true then 0 else 15

theorem read_dv (B d q p pd pm k c : Nat) (D V : List ByteArray) (v : Value) (i : Int) (w : World) (h : DV w B d q p pd pm k c D V v) :
    Calls Tryz.prog 62 #[.pointer (some ⟨d, 0, none⟩), .int .i64 i] w fun e w' => e = .returned (.tuple #[.string (rdB V i), .int .i64 (rdE V i)]) ∧ Below w.heap.size w w' := by
  obtain ⟨l, h, rfl⟩ := h
  refine (read_any B d q p pd pm k c D l v i w h).mono ?_
  rintro e w' ⟨rfl, b⟩
  refine ⟨?_, b⟩
  simp only [rdB, rdV, rdE, setL_len]

theorem wrOk_len {D V : List ByteArray} (h : V.length = D.length) (i : Int) (s : ByteArray) : wrOk V i s = wrOk D i s := by simp only [wrOk, h]
/-- what a call leaves that may have written. -/
def WroteV (w : World) (B d q p pd pm k c : Nat) (D V : List ByteArray) (v : Value) (w' : World) : Prop := ∃ v', DV w' B d q p pd pm k c D V v' ∧ Turns (d :: ownL v) w w'
theorem write_dv (B d q p pd pm k c : Nat) (D V : List ByteArray) (v : Value) (i : Int) (s : ByteArray) (w : World) (h : DV w B d q p pd pm k c D V v) (hs : s.size ≤ 9223372036854775807) :
    Calls Tryz.prog 22 #[.pointer (some ⟨d, 0, none⟩), .int .i64 i, .string s] w fun e w' => e = .returned (.int .i64 (wrE V i s)) ∧ WroteV w B d q p pd pm k c D (wrV V i s) v w' := by
  obtain ⟨l, h, rfl⟩ := h
  refine (write_any B d q p pd pm k c D l v i s w h hs).mono ?_
  rintro e w' ⟨rfl, v', h1, t1⟩
  refine ⟨?_, v', ⟨_, h1, ?_⟩, t1⟩
  · simp only [wrE, wrOk_len (setL_len l D)]
  · unfold wrL wrV
    rw [wrOk_len (setL_len l D)]
    split
    · rename_i hk
      have hi : hasB D.length i = true := by
        unfold wrOk at hk
        simp only [Bool.and_eq_true] at hk
        exact hk.1
      exact put_view h.inv (hasB_t.1 hi).1
    · rfl

/-! ### SetCrown -/
theorem size_drew {w W : World} {B d q p pd pm k c : Nat} {D V : List ByteArray} {v : Value} (h : DV w B d q p pd pm k c D V v) (hW : Below w.heap.size w W) (n : Nat) :
    Calls Tryz.prog 58 #[.pointer (some ⟨q, 0, none⟩)] (W.drewN n) fun e W' => e = .returned (.int .i64 (D.length : Int)) ∧ Lg.Drew (W.drewN n) W' := by
  have hW' : Below w.heap.size w (W.drewN n) := Lg.Below.drews hW ⟨_, rfl⟩
  refine (Lg.lsize_any q k p pd pm (FS D c) (W.drewN n) (h.below hW').lg (h.below hW').sl).mono ?_
  rintro e W' ⟨rfl, rfl⟩
  exact ⟨rfl, Lg.Drew.refl _⟩
theorem has0 {N : Nat} (h : 64 ≤ N) : hasB N 0 = true := hasB_t.2 (by omega)
theorem wr_crown {V : List ByteArray} {f b c : Int} (hr : rightK f b c = true) (hN : 64 ≤ V.length) : wrE V 0 (blockK f b c) = 0 ∧ wrV V 0 (blockK f b c) = V.set 0 (blockK f b c) := by
  have hz := Kr.blockK_size hr
  have e : wrOk V 0 (blockK f b c) = true := by unfold wrOk; rw [has0 hN, hz]; rfl
  unfold wrE wrV
  rw [if_pos e, if_pos e, Lg.padS_full hz]
  exact ⟨rfl, rfl⟩
theorem setcrown_dv (B d q p pd pm k c : Nat) (D V : List ByteArray) (v : Value) (f b u : Int) (w : World) (h : DV w B d q p pd pm k c D V v) :
    Calls Tryz.prog 26 #[.pointer (some ⟨d, 0, none⟩), crv f b u] w fun e w' => e = .returned (.int .i64 (scE V f b u)) ∧ WroteV w B d q p pd pm k c D (scV V f b u) v w' := by
  have HX0 : Hid (KBox (w.alloc (.cells (cells3 f b u) 62)) w.heap.size f b u) := KBox.new _ _ _ _
  have HB0 : Hid (Below w.heap.size w (w.alloc (.cells (cells3 f b u) 62))) := (Below.refl _ _).alloc (Nat.le_refl _) _
  have HW := Lib.hid (fun W => Kr.write10_any f b u W)
  have HD := Lib.hid h
  have HVL := Lib.hid h.len
  unfold cells3 at HX0 HB0
  unfold scE scV scOk
  cases hr : rightK f b u with
  | false =>
    rw [Kr.writeK_no hr] at HW
    rw [Bool.false_and, if_neg (by decide), if_neg (by decide)]
    clear h hr
    go_enter Tryz.func26, Tryz.ntmps26
    obtain ⟨x0, x1, x2⟩ := HX0.out.row
    unfold crv at *
    go_wp2_with (go_at_call 57; refine (HW.out _).mono ?_; rintro e w1 ⟨rfl, b1⟩)
    go_quiet (fail)
    go_wp2
    go_ret
    have hb : Below w.heap.size w (w1.drewN nq) := Lg.Below.drews (HB0.out.trans (b1.mono HB0.out.size)) ⟨_, rfl⟩
    exact ⟨rfl, v, HD.out.below hb, Turns.of_below _ hb⟩
  | true =>
    rw [Kr.writeK_ok hr] at HW
    rw [Bool.true_and]
    have HSZ := Lib.hid (fun (W : World) (hW : Below w.heap.size w W) (n : Nat) => size_drew h hW n)
    have HVD := Lib.hid (fun (W : World) (hW : Below w.heap.size w W) => write_dv B d q p pd pm k c D V v 0 (blockK f b u) W (h.below hW) (by rw [Kr.blockK_size hr]; omega))
    obtain ⟨e1, e2⟩ := wr_crown (V := V) hr (by rw [HVL.out]; exact h.least)
    rw [e1, e2] at HVD
    have hdl := h.dl.lt
    have c1 := h.dl.c1
    by_cases hb : b ≤ (V.length : Int)
    · have g1 : decide ((D.length : Int) < b) = false := by rw [← HVL.out]; simp; omega
      rw [decide_eq_true hb, if_pos rfl, if_pos rfl]
      clear h hr hb e1 e2 HVL
      generalize V.set 0 (blockK f b u) = V' at *
      generalize blockK f b u = s at *
      generalize (D.length : Int) = N at *
      go_enter Tryz.func26, Tryz.ntmps26
      obtain ⟨x0, x1, x2⟩ := HX0.out.row
      have x1' : (w.alloc (.cells #[.int .i64 f, .int .i64 b, .int .i64 u] 62)).cell? ⟨w.heap.size, 1, none⟩ = _ := x1
      unfold crv at *
      go_wp2_with (go_at_call 57; refine (HW.out _).mono ?_; rintro e w1 ⟨rfl, b1⟩)
      have HB1 := Lib.hid (HB0.out.trans (b1.mono HB0.out.size))
      obtain ⟨y0, y1, y2⟩ := (HX0.out.below b1 HX0.out.lt).row
      have c1' := bcell HB1.out c1 hdl
      clear x0 x1 x1' x2 b1
      go_quiet ((go_at_call 58; with_reducible exact Lg.quiet_drew (HSZ.out _ HB1.out _)))
      go_wp2_with (go_at_call 22; refine (HVD.out _ (Lg.Below.drews HB1.out ⟨_, rfl⟩)).mono ?_; rintro e w2 ⟨rfl, v2, d2, t2⟩)
      go_ret
      exact ⟨rfl, v2, d2, (Turns.of_below _ (Lg.Below.drews HB1.out ⟨_, rfl⟩)).trans t2⟩
    · have g1 : decide ((D.length : Int) < b) = true := by rw [← HVL.out]; simp; omega
      rw [decide_eq_false hb, if_neg (by decide), if_neg (by decide)]
      clear h hr hb e1 e2 HVL HVD
      generalize blockK f b u = s at *
      generalize (D.length : Int) = N at *
      go_enter Tryz.func26, Tryz.ntmps26
      obtain ⟨x0, x1, x2⟩ := HX0.out.row
      unfold crv at *
      go_wp2_with (go_at_call 57; refine (HW.out _).mono ?_; rintro e w1 ⟨rfl, b1⟩)
      have HB1 := Lib.hid (HB0.out.trans (b1.mono HB0.out.size))
      obtain ⟨y0, y1, y2⟩ := (HX0.out.below b1 HX0.out.lt).row
      have c1' := bcell HB1.out c1 hdl
      clear x0 x1 x2 b1
      go_quiet ((go_at_call 58; with_reducible exact Lg.quiet_drew (HSZ.out _ HB1.out _)))
      go_wp2
      go_ret
      have hb : Below w.heap.size w (w1.drewN nq) := Lg.Below.drews HB1.out ⟨_, rfl⟩
      exact ⟨rfl, v, HD.out.below hb, Turns.of_below _ hb⟩
theorem setcrown_nil (f b u : Int) (w : World) : Calls Tryz.prog 26 #[.pointer none, crv f b u] w fun e w' => e = .returned (.int .i64 1) ∧ Below w.heap.size w w' := by
  have HB0 : Hid (Below w.heap.size w (w.alloc (.cells (cells3 f b u) 62))) := (Below.refl _ _).alloc (Nat.le_refl _) _
  unfold crv cells3 at *
  go_enter Tryz.func26, Tryz.ntmps26
  go_wp2
  go_ret
  exact ⟨rfl, HB0.out⟩

/-! ### Crown -/
theorem KBox.new3 (w : World) (f b c : Int) : KBox (w.alloc (.cells #[.int .i64 f, .int .i64 b, .int .i64 c] 62)) w.heap.size f b c := Kr.KBox.new w f b c
/-- the answer of Crown, of the view V. -/
def RetCr (w : World) (V : List ByteArray) (e : Ending) (w' : World) : Prop := e = .returned (.tuple #[crv (crF V) (crB V) (crC V), .int .i64 (crE V)]) ∧ Below w.heap.size w w'
theorem crown_dv (B d q p pd pm k c : Nat) (D V : List ByteArray) (v : Value) (w : World) (h : DV w B d q p pd pm k c D V v) :
    Calls Tryz.prog 35 #[.pointer (some ⟨d, 0, none⟩)] w (RetCr w V) := by
  have HX0 : Hid (KBox (w.alloc (.cells (cells3 0 0 0) 62)) w.heap.size 0 0 0) := KBox.new _ _ _ _
  have HB0 : Hid (Below w.heap.size w (w.alloc (.cells (cells3 0 0 0) 62))) := (Below.refl _ _).alloc (Nat.le_refl _) _
  have HRD := Lib.hid (fun (W : World) (hW : Below w.heap.size w W) => read_dv B d q p pd pm k c D V v 0 W (h.below hW))
  have e0 : rdB V 0 = V.getD 0 ⟨#[]⟩ := by unfold rdB; rw [if_pos (has0 (by rw [h.len]; exact h.least))]; rfl
  have hs := h.whole.get (k := 0) (by rw [h.len]; have := h.least; omega)
  rw [e0] at HRD
  have HVL := Lib.hid h.len
  have HRK := Lib.hid (fun W => Kr.read10_any (V.getD 0 ⟨#[]⟩) W (by rw [hs]; omega))
  have HSZ := Lib.hid (fun (W : World) (hW : Below w.heap.size w W) (n : Nat) => size_drew h hW n)
  have hdl := h.dl.lt
  have c1 := h.dl.c1
  unfold RetCr crF crB crC crE okCr
  unfold Kr.RetK Kr.fK Kr.bK Kr.cK Kr.eK at HRK
  unfold cells3 at HX0 HB0
  generalize V.getD 0 ⟨#[]⟩ = s at *
  generalize rdE V 0 = ze at *
  clear h e0 hs
  have HN := Lib.hid (KBox.new3)
  have HNB : Hid (∀ (W : World) (o : Obj), Below W.heap.size W (W.alloc o)) := fun W o => (Below.refl _ _).alloc (Nat.le_refl _) _
  cases hk : okK s with
  | false =>
    simp only [Bool.false_and, if_neg (by decide : ¬ false = true)]
    rw [hk] at HRK
    simp only [if_neg (by decide : ¬ false = true)] at HRK
    clear hk
    unfold crv at *
    go_enter Tryz.func35, Tryz.ntmps35
    go_wp2_with (first
      | (go_at_call 62; refine (HRD.out _ HB0.out).mono ?_; rintro e w1 ⟨rfl, b1⟩
         have HB1 := Lib.hid (HB0.out.trans (b1.mono HB0.out.size))
         have HX1 := Lib.hid (HX0.out.below b1 HX0.out.lt)
         clear b1 HX0 HB0)
      | (go_at_call 65; refine (HRK.out _).mono ?_; rintro e w2 ⟨rfl, b2⟩
         have HB2 := Lib.hid ((HB1.out.trans (b2.mono HB1.out.size)).alloc (Nat.le_trans HB1.out.size b2.size) (.cells #[.int .i64 0, .int .i64 0, .int .i64 0] 62))
         have HX2 := Lib.hid ((HX1.out.below b2 HX1.out.lt).below (HNB.out w2 (.cells #[.int .i64 0, .int .i64 0, .int .i64 0] 62)) (Nat.lt_of_lt_of_le HX1.out.lt b2.size))
         have HG2 := Lib.hid (HN.out w2 0 0 0)
         have hd2 : d < w2.heap.size := Nat.lt_of_lt_of_le hdl (Nat.le_trans HB1.out.size b2.size)
         clear b2 HX1 HB1))
    generalize w2.alloc (.cells #[.int .i64 0, .int .i64 0, .int .i64 0] 62) = w3 at *
    generalize w2.heap.size = g at *
    obtain ⟨y0, y1, y2⟩ := HG2.out.row
    have c1' := bcell HB2.out c1 hdl
    clear c1
    go_quiet (fail)
    have HX4 : Hid (KBox (w3.drewN nq) w.heap.size 0 0 0) := HX2.out
    have HG4 : Hid (KBox (w3.drewN nq) g 0 0 0) := HG2.out
    have HB4 : Hid (Below w.heap.size w (w3.drewN nq)) := Lg.Below.drews HB2.out ⟨_, rfl⟩
    clear HX2 HG2 HB2 y0 y1 y2 c1'
    generalize w3.drewN nq = w4 at *
    obtain ⟨r0, r1, r2⟩ := HX4.out.row
    obtain ⟨y0, y1, y2⟩ := HG4.out.row
    have zr := HX4.out.fz
    go_wp2
    clear r0 r1 r2 zr y0 y1 y2
    have HX9 : Hid (KBox (put3 w4 w.heap.size 0 0 0) w.heap.size 0 0 0) := put3_box HX4.out
    have HB9 : Hid (Below w.heap.size w (put3 w4 w.heap.size 0 0 0)) := put3_below HB4.out (Nat.le_refl _)
    unfold put3 at HX9 HB9
    generalize World.setCell _ ⟨w.heap.size, 2, none⟩ _ = w9 at *
    obtain ⟨r0, r1, r2⟩ := HX9.out.row
    refine bodyPost_ret (v := .tuple #[crv 0 0 0, .int .i64 15]) (by simp [results, go_sem, r0, r1, r2, crv]) rfl ?_
    exact ⟨rfl, HB9.out⟩
  | true =>
    rw [hk] at HRK
    simp only [if_pos] at HRK
    rw [Bool.true_and]
    generalize kf s = f at *
    generalize kb s = b at *
    generalize kc s = u at *
    clear hk
    by_cases hb : b ≤ (V.length : Int)
    · have g1 : decide ((D.length : Int) < b) = false := by rw [← HVL.out]; simp; omega
      rw [decide_eq_true hb]
      simp only [if_pos]
      clear hb HVL
      generalize (D.length : Int) = N at *
      unfold crv at *
      go_enter Tryz.func35, Tryz.ntmps35
      go_wp2_with (first
        | (go_at_call 62; refine (HRD.out _ HB0.out).mono ?_; rintro e w1 ⟨rfl, b1⟩
           have HB1 := Lib.hid (HB0.out.trans (b1.mono HB0.out.size))
           have HX1 := Lib.hid (HX0.out.below b1 HX0.out.lt)
           clear b1 HX0 HB0)
        | (go_at_call 65; refine (HRK.out _).mono ?_; rintro e w2 ⟨rfl, b2⟩
           have HB2 := Lib.hid ((HB1.out.trans (b2.mono HB1.out.size)).alloc (Nat.le_trans HB1.out.size b2.size) (.cells #[.int .i64 f, .int .i64 b, .int .i64 u] 62))
           have HX2 := Lib.hid ((HX1.out.below b2 HX1.out.lt).below (HNB.out w2 (.cells #[.int .i64 f, .int .i64 b, .int .i64 u] 62)) (Nat.lt_of_lt_of_le HX1.out.lt b2.size))
           have HG2 := Lib.hid (HN.out w2 f b u)
           have hd2 : d < w2.heap.size := Nat.lt_of_lt_of_le hdl (Nat.le_trans HB1.out.size b2.size)
           clear b2 HX1 HB1))
      generalize w2.alloc (.cells #[.int .i64 f, .int .i64 b, .int .i64 u] 62) = w3 at *
      generalize w2.heap.size = g at *
      obtain ⟨y0, y1, y2⟩ := HG2.out.row
      have c1' := bcell HB2.out c1 hdl
      clear c1
      go_quiet ((go_at_call 58; with_reducible exact Lg.quiet_drew (HSZ.out _ HB2.out _)))
      have HX4 : Hid (KBox (w3.drewN nq) w.heap.size 0 0 0) := HX2.out
      have HG4 : Hid (KBox (w3.drewN nq) g f b u) := HG2.out
      have HB4 : Hid (Below w.heap.size w (w3.drewN nq)) := Lg.Below.drews HB2.out ⟨_, rfl⟩
      clear HX2 HG2 HB2 y0 y1 y2 c1'
      generalize w3.drewN nq = w4 at *
      obtain ⟨r0, r1, r2⟩ := HX4.out.row
      obtain ⟨y0, y1, y2⟩ := HG4.out.row
      have zr := HX4.out.fz
      go_wp2
      clear r0 r1 r2 zr y0 y1 y2
      have HX9 : Hid (KBox (put3 w4 w.heap.size f b u) w.heap.size f b u) := put3_box HX4.out
      have HB9 : Hid (Below w.heap.size w (put3 w4 w.heap.size f b u)) := put3_below HB4.out (Nat.le_refl _)
      unfold put3 at HX9 HB9
      generalize World.setCell _ ⟨w.heap.size, 2, none⟩ _ = w9 at *
      obtain ⟨r0, r1, r2⟩ := HX9.out.row
      refine bodyPost_ret (v := .tuple #[crv f b u, .int .i64 0]) (by simp [results, go_sem, r0, r1, r2, crv]) rfl ?_
      exact ⟨rfl, HB9.out⟩
    · have g1 : decide ((D.length : Int) < b) = true := by rw [← HVL.out]; simp; omega
      rw [decide_eq_false hb]
      simp only [if_neg (by decide : ¬ false = true)]
      clear hb HVL
      generalize (D.length : Int) = N at *
      unfold crv at *
      go_enter Tryz.func35, Tryz.ntmps35
      go_wp2_with (first
        | (go_at_call 62; refine (HRD.out _ HB0.out).mono ?_; rintro e w1 ⟨rfl, b1⟩
           have HB1 := Lib.hid (HB0.out.trans (b1.mono HB0.out.size))
           have HX1 := Lib.hid (HX0.out.below b1 HX0.out.lt)
           clear b1 HX0 HB0)
        | (go_at_call 65; refine (HRK.out _).mono ?_; rintro e w2 ⟨rfl, b2⟩
           have HB2 := Lib.hid ((HB1.out.trans (b2.mono HB1.out.size)).alloc (Nat.le_trans HB1.out.size b2.size) (.cells #[.int .i64 f, .int .i64 b, .int .i64 u] 62))
           have HX2 := Lib.hid ((HX1.out.below b2 HX1.out.lt).below (HNB.out w2 (.cells #[.int .i64 f, .int .i64 b, .int .i64 u] 62)) (Nat.lt_of_lt_of_le HX1.out.lt b2.size))
           have HG2 := Lib.hid (HN.out w2 f b u)
           have hd2 : d < w2.heap.size := Nat.lt_of_lt_of_le hdl (Nat.le_trans HB1.out.size b2.size)
           clear b2 HX1 HB1))
      generalize w2.alloc (.cells #[.int .i64 f, .int .i64 b, .int .i64 u] 62) = w3 at *
      generalize w2.heap.size = g at *
      obtain ⟨y0, y1, y2⟩ := HG2.out.row
      have c1' := bcell HB2.out c1 hdl
      clear c1
      go_quiet ((go_at_call 58; with_reducible exact Lg.quiet_drew (HSZ.out _ HB2.out _)))
      have HX4 : Hid (KBox (w3.drewN nq) w.heap.size 0 0 0) := HX2.out
      have HG4 : Hid (KBox (w3.drewN nq) g f b u) := HG2.out
      have HB4 : Hid (Below w.heap.size w (w3.drewN nq)) := Lg.Below.drews HB2.out ⟨_, rfl⟩
      clear HX2 HG2 HB2 y0 y1 y2 c1'
      generalize w3.drewN nq = w4 at *
      obtain ⟨r0, r1, r2⟩ := HX4.out.row
      obtain ⟨y0, y1, y2⟩ := HG4.out.row
      have zr := HX4.out.fz
      go_wp2
      clear r0 r1 r2 zr y0 y1 y2
      have HX9 : Hid (KBox (put3 w4 w.heap.size 0 0 0) w.heap.size 0 0 0) := put3_box HX4.out
      have HB9 : Hid (Below w.heap.size w (put3 w4 w.heap.size 0 0 0)) := put3_below HB4.out (Nat.le_refl _)
      unfold put3 at HX9 HB9
      generalize World.setCell _ ⟨w.heap.size, 2, none⟩ _ = w9 at *
      obtain ⟨r0, r1, r2⟩ := HX9.out.row
      refine bodyPost_ret (v := .tuple #[crv 0 0 0, .int .i64 15]) (by simp [results, go_sem, r0, r1, r2, crv]) rfl ?_
      exact ⟨rfl, HB9.out⟩

theorem crown_nil (w : World) : Calls Tryz.prog 35 #[.pointer none] w fun e w' => e = .returned (.tuple #[crv 0 0 0, .int .i64 1]) ∧ Below w.heap.size w w' := by
  have HB0 : Hid (Below w.heap.size w (w.alloc (.cells (cells3 0 0 0) 62))) := (Below.refl _ _).alloc (Nat.le_refl _) _
  unfold cells3 at HB0
  go_enter Tryz.func35, Tryz.ntmps35
  go_wp2
  refine bodyPost_ret (v := .tuple #[crv 0 0 0, .int .i64 1]) (by simp [results, go_sem, crv]) rfl ?_
  exact ⟨rfl, HB0.out⟩
end Go.Proofs.YtgdlfiejjnjcpaaGreat.Dl
