/-
  WALKS of a deal: Changed, Read, Write, Undo, Commit. Condition: a deal on a calm slab.
-/
import Derived.Test.YtgdlfiejjnjcpaaGreatDD
set_option linter.unusedVariables false
set_option linter.unusedSimpArgs false
set_option maxRecDepth 100000
set_option maxHeartbeats 4000000
namespace Go.Proofs.YtgdlfiejjnjcpaaGreat.Dl
open Go.RowKit
open Sl (Turns SlabAt)
open Lg (Ch chCells chsCells chsCells_len chsCells_at chsCells_set Fit ChsAt FS LogAt Whole setL setL_len ownB bcell rightC cmD)

/-! ### Read -/
def rdV (D : List ByteArray) (l : List Ch) (i : Int) : ByteArray := if hasB D.length i = true then (setL D l).getD i.toNat ⟨#[]⟩ else ⟨#[]⟩
def rdE (D : List ByteArray) (i : Int) : Int := if hasB D.length i = true then 0 else 1
theorem read_any (B d q p pd pm k c : Nat) (D : List ByteArray) (l : List Ch) (v : Value) (i : Int) (w : World) (h : DS w B d q p pd pm k c D l v) :
    Calls Tryz.prog 62 #[.pointer (some ⟨d, 0, none⟩), .int .i64 i] w fun e w' => e = .returned (.tuple #[.string (rdV D l i), .int .i64 (rdE D i)]) ∧ Below w.heap.size w w' := by
  have HH := Lib.hid (has_any d q k p pd pm c v D i w h.dl h.lg h.sl)
  unfold rdV rdE
  cases hb : hasB D.length i with
  | false =>
    rw [hb] at HH
    rw [if_neg (by decide), if_neg (by decide)]
    clear h
    go_enter Tryz.func62, Tryz.ntmps62
    go_wp2_with (go_at_call 51; refine HH.out.mono ?_; rintro e w' ⟨rfl, rfl⟩)
    go_ret2
    exact ⟨rfl, Below.refl _ _⟩
  | true =>
    rw [hb] at HH
    rw [if_pos rfl, if_pos rfl]
    have hr := hasB_t.1 hb
    have HG := Lib.hid (get_any B d q v l i w h.dl h.row h.inv.asc (Nat.le_trans h.ll (by omega)))
    have c1 := h.dl.c1
    have hdl := h.dl.lt
    cases hh : hitW l i with
    | true =>
      have hv : getW l i = (setL D l).getD i.toNat ⟨#[]⟩ := by
        unfold getW
        rw [if_pos hh, hit_view h.inv hh]
      rw [hh, hv] at HG
      clear h hv hh hb
      generalize (setL D l).getD i.toNat ⟨#[]⟩ = s at *
      go_enter Tryz.func62, Tryz.ntmps62
      go_wp2_with (first
        | (go_at_call 51; refine HH.out.mono ?_; rintro e w' ⟨rfl, rfl⟩)
        | (go_at_call 95; refine HG.out.mono ?_; rintro e w1 ⟨rfl, b1⟩))
      go_ret2
      exact ⟨rfl, b1⟩
    | false =>
      have hv := miss_view h.inv hr.1 hh
      have HL := Lib.hid (fun (W : World) (hbw : Below w.heap.size w W) => Lg.lread_any q k p pd pm (FS D c) i W (h.lg.below hbw h.lg.lt) (h.sl.keptB (Turns.of_below [] hbw)))
      have hrd := Lg.read_FS (D := D) (c := c) (k := i.toNat) (by omega)
      rw [show ((i.toNat : Nat) : Int) = i by omega] at hrd
      rw [hrd, ← hv] at HL
      rw [hh] at HG
      clear h hv hh hb hrd
      generalize (setL D l).getD i.toNat ⟨#[]⟩ = s at *
      generalize getW l i = s0 at *
      go_enter Tryz.func62, Tryz.ntmps62
      go_wp2_with (first
        | (go_at_call 51; refine HH.out.mono ?_; rintro e w' ⟨rfl, rfl⟩)
        | (go_at_call 95; refine HG.out.mono ?_; rintro e w1 ⟨rfl, b1⟩; have c1' := bcell b1 c1 hdl)
        | (go_at_call 61; refine (HL.out _ b1).mono ?_; rintro e w2 ⟨rfl, b2⟩))
      go_ret2
      exact ⟨rfl, b1.trans (b2.mono b1.size)⟩
theorem read_nil (i : Int) (w : World) : Calls Tryz.prog 62 #[.pointer none, .int .i64 i] w fun e w' => e = .returned (.tuple #[.string ⟨#[]⟩, .int .i64 1]) ∧ w = w' := by
  have HH := Lib.hid (has_nil i w)
  go_enter Tryz.func62, Tryz.ntmps62
  go_wp2_with (go_at_call 51; refine HH.out.mono ?_; rintro e w' ⟨rfl, rfl⟩)
  go_ret2
  exact ⟨rfl, rfl⟩

/-! ### Write -/
def wrOk (D : List ByteArray) (i : Int) (s : ByteArray) : Bool := hasB D.length i && decide (s.size ≤ 128)
def wrL (D : List ByteArray) (l : List Ch) (i : Int) (s : ByteArray) : List Ch := if wrOk D i s = true then putW l i (Sl.padS s 128) else l
def wrE (D : List ByteArray) (i : Int) (s : ByteArray) : Int := if wrOk D i s = true then 0 else 1
theorem pad_is (s : ByteArray) : Sl.padR s 128 = if s.size ≤ 128 then (Sl.padS s 128, 0) else (⟨#[]⟩, 3) := by
  unfold Sl.padR
  rw [if_pos (by omega)]
  by_cases h : s.size ≤ 128
  · rw [if_pos h, if_pos (by omega)]; rfl
  · rw [if_neg h, if_neg (by omega)]
theorem DS.put {w w' : World} {B d q p pd pm k c : Nat} {D : List ByteArray} {l : List Ch} {v : Value} {i : Int} {s : ByteArray} (h : DS w B d q p pd pm k c D l v) (hi : hasB D.length i = true) (hs : s.size = 128) {v' : Value} {L : List Nat}
    (h1 : DealAt w' d q v') (h2 : w'.ownsRow B 68 2 v' (putW l i s).length (chsCells (putW l i s))) (ht : Turns L w w') (hL : ∀ j, j ∈ L → j = d ∨ B ≤ j) : DS w' B d q p pd pm k c D (putW l i s) v' := by
  have hr := hasB_t.1 hi
  have hn : ∀ j, j < B → j ≠ d → j ∉ L := fun j hj hd hm => by rcases hL j hm with e | e <;> omega
  have hne : ∀ x ∈ [p, pd, pm], x ≠ d := fun x hx e => h.sep.dp (e ▸ hx)
  exact ⟨h.sep, Nat.le_trans h.hB ht.size, h1, h.lg.turns ht (hn _ h.sep.hq (Ne.symm h.sep.dq)), h.sl.kept ht (hn _ h.sep.hp (hne p (by simp))) (hn _ h.sep.hpd (hne pd (by simp))) (hn _ h.sep.hpm (hne pm (by simp))), h2, h.inv.put hr.1 hr.2.1 hr.2.2 hs, h.wh, h.len⟩

/-- what a call leaves that may have written. -/
def Wrote (w : World) (B d q p pd pm k c : Nat) (D : List ByteArray) (l : List Ch) (v : Value) (w' : World) : Prop := ∃ v', DS w' B d q p pd pm k c D l v' ∧ Turns (d :: ownL v) w w'
theorem DS.own_ge {w : World} {B d q p pd pm k c : Nat} {D : List ByteArray} {l : List Ch} {v : Value} (h : DS w B d q p pd pm k c D l v) : ∀ j, j ∈ d :: ownL v → j = d ∨ B ≤ j := fun j hj => by
  rcases List.mem_cons.1 hj with e | e
  · exact .inl e
  · exact .inr (h.row.lt j (ownL_mem.1 e)).1
theorem write_any (B d q p pd pm k c : Nat) (D : List ByteArray) (l : List Ch) (v : Value) (i : Int) (s : ByteArray) (w : World) (h : DS w B d q p pd pm k c D l v) (hs : s.size ≤ 9223372036854775807) :
    Calls Tryz.prog 22 #[.pointer (some ⟨d, 0, none⟩), .int .i64 i, .string s] w fun e w' => e = .returned (.int .i64 (wrE D i s)) ∧ Wrote w B d q p pd pm k c D (wrL D l i s) v w' := by
  have HH := Lib.hid (has_any d q k p pd pm c v D i w h.dl h.lg h.sl)
  unfold wrE wrL wrOk
  cases hb : hasB D.length i with
  | false =>
    rw [hb] at HH
    rw [Bool.false_and, if_neg (by decide), if_neg (by decide)]
    have HD := Lib.hid h
    clear h
    go_enter Tryz.func22, Tryz.ntmps22
    go_wp2_with (go_at_call 51; refine HH.out.mono ?_; rintro e w' ⟨rfl, rfl⟩)
    go_ret
    exact ⟨rfl, v, HD.out, Turns.refl _ _⟩
  | true =>
    rw [hb] at HH
    have HP := Lib.hid (Sl.pad_any s 128 w (by omega) (by omega))
    rw [pad_is] at HP
    by_cases h1 : s.size ≤ 128
    · rw [if_pos h1] at HP
      rw [show (true && decide (s.size ≤ 128)) = true by simpa using h1, if_pos rfl, if_pos rfl]
      have hpz : (Sl.padS s 128).size = 128 := Lg.size_padS s 128 h1
      have HPU := Lib.hid (fun (W : World) (hbw : Below w.heap.size w W) => put_any B d q v l i (Sl.padS s 128) W (h.below hbw).dl (h.below hbw).row h.inv.asc (Nat.le_trans h.ll (by omega)) (h.below hbw).hB h.sep.hd)
      have HD := Lib.hid h
      have HHB := Lib.hid hb
      have HPZ := Lib.hid hpz
      clear h hb h1 hpz
      generalize Sl.padS s 128 = z at *
      go_enter Tryz.func22, Tryz.ntmps22
      go_wp2_with (first
        | (go_at_call 51; refine HH.out.mono ?_; rintro e w' ⟨rfl, rfl⟩)
        | (go_at_call 52; refine HP.out.mono ?_; rintro e w1 ⟨rfl, b1⟩)
        | (go_at_call 53; refine (HPU.out _ b1).mono ?_; rintro e w2 ⟨rfl, v2, d2, r2, t2⟩))
      go_ret
      have ht : Turns (d :: ownL v) w w2 := (Turns.of_below _ b1).trans t2
      exact ⟨rfl, v2, HD.out.put HHB.out HPZ.out d2 r2 ht HD.out.own_ge, ht⟩
    · rw [if_neg h1] at HP
      rw [show (true && decide (s.size ≤ 128)) = false by simpa using h1, if_neg (by decide), if_neg (by decide)]
      have HD := Lib.hid h
      clear h hb h1
      go_enter Tryz.func22, Tryz.ntmps22
      go_wp2_with (first
        | (go_at_call 51; refine HH.out.mono ?_; rintro e w' ⟨rfl, rfl⟩)
        | (go_at_call 52; refine HP.out.mono ?_; rintro e w1 ⟨rfl, b1⟩))
      go_ret
      exact ⟨rfl, v, HD.out.below b1, Turns.of_below _ b1⟩
theorem write_nil (i : Int) (s : ByteArray) (w : World) : Calls Tryz.prog 22 #[.pointer none, .int .i64 i, .string s] w fun e w' => e = .returned (.int .i64 1) ∧ w = w' := by
  have HH := Lib.hid (has_nil i w)
  go_enter Tryz.func22, Tryz.ntmps22
  go_wp2_with (go_at_call 51; refine HH.out.mono ?_; rintro e w' ⟨rfl, rfl⟩)
  go_ret
  exact ⟨rfl, rfl⟩
end Go.Proofs.YtgdlfiejjnjcpaaGreat.Dl
