import Derived.Test.YtppbonjhckakiaaGreatDD
/-
  WALKS of a deal: Changed, Read, Write, Undo, Commit. Condition: a deal on a calm slab.
-/
set_option linter.unusedVariables false
set_option linter.unusedSimpArgs false
set_option maxRecDepth 100000
set_option maxHeartbeats 4000000
namespace Go.Proofs.YtppbonjhckakiaaGreat.Dl
open Go.RowKit
open Sl (Turns SlabAt)
open Lg (Ch chCells chsCells chsCells_len chsCells_at chsCells_set Fit ChsAt FS LogAt Whole setL setL_len ownB bcell rightC cmD)

/-! ### Read -/
def rdV (D : List ByteArray) (l : List Ch) (i : Int) : ByteArray := if hasB D.length i = true then (setL D l).getD i.toNat ⟨#[]⟩ else ⟨#[]⟩
def rdE (D : List ByteArray) (i : Int) : Int := if hasB D.length i = true then 0 else 1
theorem read_any (B d q p pd pm k c : Nat) (D : List ByteArray) (l : List Ch) (v : Value) (i : Int) (w : World) (h : DS w B d q p pd pm k c D l v) :
    Calls Tryz.prog 63 #[.pointer (some ⟨d, 0, none⟩), .int .i64 i] w fun e w' => e = .returned (.tuple #[.string (rdV D l i), .int .i64 (rdE D i)]) ∧ Below w.heap.size w w' := by
  have HH := Lib.hid (has_any d q k p pd pm c v D i w h.dl h.lg h.sl)
  unfold rdV rdE
  cases hb : hasB D.length i with
  | false =>
    rw [hb] at HH
    rw [if_neg (by decide), if_neg (by decide)]
    clear h
    go_enter Tryz.func63, Tryz.ntmps63
    go_wp2_with (go_at_call 52; refine HH.out.mono ?_; rintro e w' ⟨rfl, rfl⟩)
    go_ret2
    exact ⟨rfl, Below.refl _ _⟩
  | true =>
    rw [hb] at HH
    rw [if_pos rfl, if_pos rfl]
    have hr := hasB_t.1 hb
    have HG := Lib.hid (get_any B d q v l i w h.dl h.row h.inv.asc (Nat.le_trans h.ll (by omega)))
    have c1 := h.dl.c1
    have hdl := h.dl.lt
    cases hh : hitW l i with
    | true =>
      have hv : getW l i = (setL D l).getD i.toNat ⟨#[]⟩ := by
        unfold getW
        rw [if_pos hh, hit_view h.inv hh]
      rw [hh, hv] at HG
      clear h hv hh hb
      generalize (setL D l).getD i.toNat ⟨#[]⟩ = s at *
      go_enter Tryz.func63, Tryz.ntmps63
      go_wp2_with (first
        | (go_at_call 52; refine HH.out.mono ?_; rintro e w' ⟨rfl, rfl⟩)
        | (go_at_call 99; refine HG.out.mono ?_; rintro e w1 ⟨rfl, b1⟩))
      go_ret2
      exact ⟨rfl, b1⟩
    | false =>
      have hv := miss_view h.inv hr.1 hh
      have HL := Lib.hid (fun (W : World) (hbw : Below w.heap.size w W) => Lg.lread_any q k p pd pm (FS D c) i W (h.lg.below hbw h.lg.lt) (h.sl.keptB (Turns.of_below [] hbw)))
      have hrd := Lg.read_FS (D := D) (c := c) (k := i.toNat) (by omega)
      rw [show ((i.toNat : Nat) : Int) = i by omega] at hrd
      rw [hrd, ← hv] at HL
      rw [hh] at HG
      clear h hv hh hb hrd
      generalize (setL D l).getD i.toNat ⟨#[]⟩ = s at *
      generalize getW l i = s0 at *
      go_enter Tryz.func63, Tryz.ntmps63
      go_wp2_with (first
        | (go_at_call 52; refine HH.out.mono ?_; rintro e w' ⟨rfl, rfl⟩)
        | (go_at_call 99; refine HG.out.mono ?_; rintro e w1 ⟨rfl, b1⟩; have c1' := bcell b1 c1 hdl)
        | (go_at_call 62; refine (HL.out _ b1).mono ?_; rintro e w2 ⟨rfl, b2⟩))
      go_ret2
      exact ⟨rfl, b1.trans (b2.mono b1.size)⟩
theorem read_nil (i : Int) (w : World) : Calls Tryz.prog 63 #[.pointer none, .int .i64 i] w fun e w' => e = .returned (.tuple #[.string ⟨#[]⟩, .int .i64 1]) ∧ w = w' := by
  have HH := Lib.hid (has_nil i w)
  go_enter Tryz.func63, Tryz.ntmps63
  go_wp2_with (go_at_call 52; refine HH.out.mono ?_; rintro e w' ⟨rfl, rfl⟩)
  go_ret2
  exact ⟨rfl, rfl⟩

/-! ### Write -/
def wrOk (D : List ByteArray) (i : Int) (s : ByteArray) : Bool := hasB D.length i && decide (s.size ≤ 128)
def wrL (D : List ByteArray) (l : List Ch) (i : Int) (s : ByteArray) : List Ch := if wrOk D i s = true then putW l i (Sl.padS s 128) else l
def wrE (D : List ByteArray) (i : Int) (s : ByteArray) : Int := if wrOk D i s = true then 0 else 1
theorem pad_is (s : ByteArray) : Sl.padR s 128 = if s.size ≤ 128 then (Sl.padS s 128, 0) else (⟨#[]⟩, 3) := by
  unfold Sl.padR
  rw [if_pos (by omega)]
  by_cases h : s.size ≤ 128
  · rw [if_pos h, if_pos (by omega)]; rfl
  · rw [if_neg h, if_neg (by omega)]
theorem DS.put {w w' : World} {B d q p pd pm k c : Nat} {D : List ByteArray} {l : List Ch} {v : Value} {i : Int} {s : ByteArray} (h : DS w B d q p pd pm k c D l v) (hi : hasB D.length i = true) (hs : s.size = 128) {v' : Value} {L : List Nat}
    (h1 : DealAt w' d q v') (h2 : w'.ownsRow B 68 2 v' (putW l i s).length (chsCells (putW l i s))) (ht : Turns L w w') (hL : ∀ j, j ∈ L → j = d ∨ B ≤ j) : DS w' B d q p pd pm k c D (putW l i s) v' := by
  have hr := hasB_t.1 hi
  have hn : ∀ j, j < B → j ≠ d → j ∉ L := fun j hj hd hm => by rcases hL j hm with e | e <;> omega
  have hne : ∀ x ∈ [p, pd, pm], x ≠ d := fun x hx e => h.sep.dp (e ▸ hx)
  exact ⟨h.sep, Nat.le_trans h.hB ht.size, h1, h.lg.turns ht (hn _ h.sep.hq (Ne.symm h.sep.dq)), h.sl.kept ht (hn _ h.sep.hp (hne p (by simp))) (hn _ h.sep.hpd (hne pd (by simp))) (hn _ h.sep.hpm (hne pm (by simp))), h2, h.inv.put hr.1 hr.2.1 hr.2.2 hs, h.wh, h.len⟩

/-- what a call leaves that may have written. -/
def Wrote (w : World) (B d q p pd pm k c : Nat) (D : List ByteArray) (l : List Ch) (v : Value) (w' : World) : Prop := ∃ v', DS w' B d q p pd pm k c D l v' ∧ Turns (d :: ownL v) w w'
theorem DS.own_ge {w : World} {B d q p pd pm k c : Nat} {D : List ByteArray} {l : List Ch} {v : Value} (h : DS w B d q p pd pm k c D l v) : ∀ j, j ∈ d :: ownL v → j = d ∨ B ≤ j := fun j hj => by
  rcases List.mem_cons.1 hj with e | e
  · exact .inl e
  · exact .inr (h.row.lt j (ownL_mem.1 e)).1
theorem write_any (B d q p pd pm k c : Nat) (D : List ByteArray) (l : List Ch) (v : Value) (i : Int) (s : ByteArray) (w : World) (h : DS w B d q p pd pm k c D l v) (hs : s.size ≤ 9223372036854775807) :
    Calls Tryz.prog 22 #[.pointer (some ⟨d, 0, none⟩), .int .i64 i, .string s] w fun e w' => e = .returned (.int .i64 (wrE D i s)) ∧ Wrote w B d q p pd pm k c D (wrL D l i s) v w' := by
  have HH := Lib.hid (has_any d q k p pd pm c v D i w h.dl h.lg h.sl)
  unfold wrE wrL wrOk
  cases hb : hasB D.length i with
  | false =>
    rw [hb] at HH
    rw [Bool.false_and, if_neg (by decide), if_neg (by decide)]
    have HD := Lib.hid h
    clear h
    go_enter Tryz.func22, Tryz.ntmps22
    go_wp2_with (go_at_call 52; refine HH.out.mono ?_; rintro e w' ⟨rfl, rfl⟩)
    go_ret
    exact ⟨rfl, v, HD.out, Turns.refl _ _⟩
  | true =>
    rw [hb] at HH
    have HP := Lib.hid (Sl.pad_any s 128 w (by omega) (by omega))
    rw [pad_is] at HP
    by_cases h1 : s.size ≤ 128
    · rw [if_pos h1] at HP
      rw [show (true && decide (s.size ≤ 128)) = true by simpa using h1, if_pos rfl, if_pos rfl]
      have hpz : (Sl.padS s 128).size = 128 := Lg.size_padS s 128 h1
      have HPU := Lib.hid (fun (W : World) (hbw : Below w.heap.size w W) => put_any B d q v l i (Sl.padS s 128) W (h.below hbw).dl (h.below hbw).row h.inv.asc (Nat.le_trans h.ll (by omega)) (h.below hbw).hB h.sep.hd)
      have HD := Lib.hid h
      have HHB := Lib.hid hb
      have HPZ := Lib.hid hpz
      clear h hb h1 hpz
      generalize Sl.padS s 128 = z at *
      go_enter Tryz.func22, Tryz.ntmps22
      go_wp2_with (first
        | (go_at_call 52; refine HH.out.mono ?_; rintro e w' ⟨rfl, rfl⟩)
        | (go_at_call 53; refine HP.out.mono ?_; rintro e w1 ⟨rfl, b1⟩)
        | (go_at_call 54; refine (HPU.out _ b1).mono ?_; rintro e w2 ⟨rfl, v2, d2, r2, t2⟩))
      go_ret
      have ht : Turns (d :: ownL v) w w2 := (Turns.of_below _ b1).trans t2
      exact ⟨rfl, v2, HD.out.put HHB.out HPZ.out d2 r2 ht HD.out.own_ge, ht⟩
    · rw [if_neg h1] at HP
      rw [show (true && decide (s.size ≤ 128)) = false by simpa using h1, if_neg (by decide), if_neg (by decide)]
      have HD := Lib.hid h
      clear h hb h1
      go_enter Tryz.func22, Tryz.ntmps22
      go_wp2_with (first
        | (go_at_call 52; refine HH.out.mono ?_; rintro e w' ⟨rfl, rfl⟩)
        | (go_at_call 53; refine HP.out.mono ?_; rintro e w1 ⟨rfl, b1⟩))
      go_ret
      exact ⟨rfl, v, HD.out.below b1, Turns.of_below _ b1⟩
theorem write_nil (i : Int) (s : ByteArray) (w : World) : Calls Tryz.prog 22 #[.pointer none, .int .i64 i, .string s] w fun e w' => e = .returned (.int .i64 1) ∧ w = w' := by
  have HH := Lib.hid (has_nil i w)
  go_enter Tryz.func22, Tryz.ntmps22
  go_wp2_with (go_at_call 52; refine HH.out.mono ?_; rintro e w' ⟨rfl, rfl⟩)
  go_ret
  exact ⟨rfl, rfl⟩
end Go.Proofs.YtppbonjhckakiaaGreat.Dl

/-
  WALKS of a deal: Changed, Undo, Commit. Condition: a deal on a calm slab.
-/
set_option linter.unusedVariables false
set_option linter.unusedSimpArgs false
set_option maxRecDepth 100000
set_option maxHeartbeats 4000000
namespace Go.Proofs.YtppbonjhckakiaaGreat.Dl
open Go.RowKit
open Sl (Turns SlabAt)
open Lg (Ch chCells chsCells chsCells_len chsCells_at chsCells_set Fit ChsAt FS LogAt Whole setL setL_len ownB bcell rightC cmD IntRow ints part_0 part_all part_len part_set bks bks_len bks_get Out)

theorem chgs_len {D : List ByteArray} {l : List Ch} : (chgs D l).length ≤ l.length := List.length_filter_le _ _
theorem chgs_fit {D : List ByteArray} {l : List Ch} (h : Inv D l) (hD : D.length ≤ 1000) : ∀ s ∈ chgs D l, s.fit := fun s hs => by
  have := (chgs_inv h).rng s hs
  exact ⟨by omega, by unfold Fit; omega⟩

theorem changed_any (B d q p pd pm k c : Nat) (D : List ByteArray) (l : List Ch) (v : Value) (w : World) (h : DS w B d q p pd pm k c D l v) :
    Calls Tryz.prog 11 #[.pointer (some ⟨d, 0, none⟩)] w fun e w' => ∃ g, e = .returned (.slice (some ⟨g, 0, none⟩) (chgs D l).length (chgs D l).length) ∧ w.heap.size ≤ g ∧ IntRow w' g (bks (chgs D l)) ∧ Below w.heap.size w w' := by
  have HC := Lib.hid (changes_any B d q p pd pm k c D l v w h)
  have HF := Lib.hid (chgs_fit h.inv h.most)
  have hl : (chgs D l).length ≤ 1000 := Nat.le_trans chgs_len h.ll
  clear h
  generalize chgs D l = l at *
  generalize hn : l.length = n at *
  have HLB : Hid ((bks l).length = n) := by show _ = _; rw [bks_len, hn]
  have HNN := Lib.hid hn
  clear hn
  have hmk := Lg.make_ints n (by omega)
  have HR := Lib.hid (fun w1 => IntRow.new w1 (List.replicate n 0))
  have HB : Hid (∀ w1, Below w.heap.size w w1 → Below w.heap.size w (w1.alloc (.cells (ints (List.replicate n 0)).toArray 3))) := fun w1 h1 => h1.alloc h1.size _
  generalize (ints (List.replicate n 0)).toArray = M at *
  go_enter Tryz.func11, Tryz.ntmps11
  go_wp2_with (go_at_call 29; refine HC.out.mono ?_
               rintro e w1 ⟨v1, rfl, r1, b1⟩
               obtain ⟨A, cap, rfl, hcap⟩ := Lg.own_slice r1
               have HA : Hid (ChsAt w1 w1.heap.size A n l) := by
                 have h := r1
                 rw [← HNN.out] at h
                 have h2 := ChsAt.of_own h rfl HF.out
                 rw [HNN.out] at h2
                 exact h2
               have hsz := b1.size)
  go_loopg [5, 6, 16] n (fun kx _ _ j wr => ∃ k : Nat, k ≤ n ∧ n - k ≤ kx ∧ j = .int .i64 (k : Int) ∧ IntRow wr w1.heap.size (Lg.part (bks l) k) ∧ Below w1.heap.size w1 wr)
  case atStart =>
    refine ⟨0, by omega, by omega, rfl, ?_, (Below.refl _ _).alloc (Nat.le_refl _) _⟩
    rw [part_0, HLB.out]; exact HR.out _
  case round =>
    obtain ⟨k, hk, hkx, rfl, hr, hb⟩ := hrel
    by_cases h1 : k < n
    · have hlt : (k : Int) < (n : Int) := by omega
      have x0 : (0 : Int) ≤ (k : Int) := by omega
      obtain ⟨b, o, rfl, hbB, hc0, hc1⟩ := HA.out.at_ h1
      have d0 := bcell hb hc0 (by show b < _; omega)
      have d1 := bcell hb hc1 (by show b < _; omega)
      have HN : Hid (∀ u t, IntRow (((wr.alloc (.cells u t))).setCell ⟨w1.heap.size, k, none⟩ (.int .i64 (l.getD k Ch.z).bk)) w1.heap.size (Lg.part (bks l) (k + 1))) := fun u t => by
        rw [← part_set (by rw [HLB.out]; exact h1), bks_get]
        exact (hr.alloc _).set _
      have HB2 : Hid (∀ u t, Below w1.heap.size w1 (((wr.alloc (.cells u t))).setCell ⟨w1.heap.size, k, none⟩ (.int .i64 (l.getD k Ch.z).bk))) := fun u t => (hb.alloc hb.size _).setCell (Nat.le_refl _) _
      have hkl : k < (Lg.part (bks l) k).length := by rw [part_len _ (by rw [HLB.out]; exact hk), HLB.out]; exact h1
      have hcell : ∀ u t, (wr.alloc (.cells u t)).cell? ⟨w1.heap.size, k, none⟩ = some (.int .i64 ((Lg.part (bks l) k).getD k 0)) := fun u t => (hr.alloc _).cell k hkl
      have hfz : ∀ u t, (wr.alloc (.cells u t)).frozen? ⟨w1.heap.size, k, none⟩ = false := fun u t => (hr.alloc _).fz k
      generalize (l.getD k Ch.z).bk = z at *
      generalize (l.getD k Ch.z).dt = s at *
      generalize (Lg.part (bks l) k).getD k 0 = z0 at *
      clear hc0 hc1 hr hb hkl
      go_wp2
      go_roundg (n - (k + 1))
      case rel => exact ⟨k + 1, h1, Nat.le_refl _, by push_cast; rfl, HN.out _ _, HB2.out _ _⟩
      case measure => omega
    · have hnlt : ¬ (k : Int) < (n : Int) := by omega
      have e : k = n := by omega
      have hr2 : IntRow wr w1.heap.size (bks l) := by rw [e, ← HLB.out, part_all] at hr; exact hr
      have HRR := Lib.hid hr2
      have HBB := Lib.hid (b1.trans (hb.mono hsz))
      clear hr hb hr2 e
      go_wp2
      go_ret
      exact ⟨w1.heap.size, rfl, hsz, HRR.out, HBB.out⟩
theorem changed_nil (w : World) : Calls Tryz.prog 11 #[.pointer none] w fun e w' => e = .returned (.slice none 0 0) ∧ w = w' := by
  go_enter Tryz.func11, Tryz.ntmps11
  go_wp2
  go_ret
  exact ⟨rfl, rfl⟩

def cmE (D : List ByteArray) (l : List Ch) : Int := if 40 < (chgs D l).length then 13 else 0
def newB (D : List ByteArray) (l : List Ch) : List ByteArray := if (chgs D l).length = 0 then D else cmD D (chgs D l)
theorem newB_len (D : List ByteArray) (l : List Ch) : (newB D l).length = D.length := by
  unfold newB
  split
  · rfl
  · exact Lg.cmD_len _ _
theorem newB_get {D : List ByteArray} {l : List Ch} (h : Inv D l) (hn : ¬ 40 < (chgs D l).length) {i : Nat} (hi : ownB (i : Int) = false) : (newB D l).getD i ⟨#[]⟩ = (setL D l).getD i ⟨#[]⟩ := by
  unfold newB
  split
  · rename_i h0
    have e : chgs D l = [] := List.eq_nil_of_length_eq_zero h0
    rw [← chgs_view h, e]; rfl
  · rw [Lg.cmD_get hi (by omega), chgs_view h]
theorem newB_whole {D : List ByteArray} {l : List Ch} (h : Inv D l) (hw : Whole D) (hn : ¬ 40 < (chgs D l).length) : Whole (newB D l) := by
  unfold newB
  split
  · exact hw
  · exact Lg.whole_cm hw (fun x hx => ((chgs_inv h).rng x hx).2.2.2) (by omega)

/-! ### Begin -/
theorem begin_any (q : Nat) (w : World) : Calls Tryz.prog 25 #[.pointer (some ⟨q, 0, none⟩)] w fun e w' => e = .returned (.tuple #[.pointer (some ⟨w.heap.size, 0, none⟩), .int .i64 0]) ∧ DealAt w' w.heap.size q (.slice none 0 0) ∧ w'.heap.size = w.heap.size + 1 ∧ Below w.heap.size w w' := by
  have HD : Hid (DealAt (w.alloc (.cells #[.slice none 0 0, .pointer (some ⟨q, 0, none⟩)] 101)) w.heap.size q (.slice none 0 0)) := heap_alloc_new w _
  have HB : Hid (Below w.heap.size w (w.alloc (.cells #[.slice none 0 0, .pointer (some ⟨q, 0, none⟩)] 101))) := (Below.refl _ _).alloc (Nat.le_refl _) _
  go_enter Tryz.func25, Tryz.ntmps25
  go_wp2
  go_ret2
  exact ⟨rfl, HD.out, World.size_alloc .., HB.out⟩
theorem begin_none (w : World) : Calls Tryz.prog 25 #[.pointer none] w fun e w' => e = .returned (.tuple #[.pointer none, .int .i64 1]) ∧ w = w' := by
  go_enter Tryz.func25, Tryz.ntmps25
  go_wp2
  go_ret2
  exact ⟨rfl, rfl⟩
end Go.Proofs.YtppbonjhckakiaaGreat.Dl
