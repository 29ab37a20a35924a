/-
  WALKS of a deal: has, changes, Changed. Condition: a deal on a calm slab.
-/
import Derived.Test.YtgdlfiejjnjcpaaGreatDC
import Derived.Deep.RegionHeld3
import Derived.Deep.DeepMust
import Derived.Deep.DeepFit
set_option linter.unusedVariables false
set_option linter.unusedSimpArgs false
set_option maxRecDepth 100000
set_option maxHeartbeats 4000000
namespace Go.Proofs.YtgdlfiejjnjcpaaGreat.Dl
open Go.RowKit
open Sl (Turns SlabAt)
open Lg (Ch chCells chsCells chsCells_len chsCells_at chsCells_set Fit ChsAt FS LogAt Whole setL setL_len ownB bcell)

structure Sep (B d q p pd pm : Nat) : Prop where
  hd : d < B
  hq : q < B
  hp : p < B
  hpd : pd < B
  hpm : pm < B
  dq : d ≠ q
  dp : d ∉ [p, pd, pm]
  qp : q ∉ [p, pd, pm]
structure DS (w : World) (B d q p pd pm k c : Nat) (D : List ByteArray) (l : List Ch) (v : Value) : Prop where
  sep : Sep B d q p pd pm
  hB : B ≤ w.heap.size
  dl : DealAt w d q v
  lg : LogAt w q p k
  sl : SlabAt w p pd pm (FS D c)
  row : w.ownsRow B 68 2 v l.length (chsCells l)
  inv : Inv D l
  wh : Whole D
  len : 64 ≤ D.length
theorem DS.most {w : World} {B d q p pd pm k c : Nat} {D : List ByteArray} {l : List Ch} {v : Value} (h : DS w B d q p pd pm k c D l v) : D.length ≤ 1000 := h.sl.len
theorem DS.ll {w : World} {B d q p pd pm k c : Nat} {D : List ByteArray} {l : List Ch} {v : Value} (h : DS w B d q p pd pm k c D l v) : l.length ≤ 1000 := Nat.le_trans (inv_len h.inv) h.most
theorem DS.turns {w w' : World} {B d q p pd pm k c : Nat} {D : List ByteArray} {l : List Ch} {v : Value} {L : List Nat} (h : DS w B d q p pd pm k c D l v) (ht : Turns L w w') (hL : ∀ j, j ∈ L → B ≤ j ∧ v.ownBlock ≠ some j) : DS w' B d q p pd pm k c D l v := by
  have hn : ∀ j, j < B → j ∉ L := fun j hj hm => by have := (hL j hm).1; omega
  refine ⟨h.sep, Nat.le_trans h.hB ht.size, h.dl.turns ht (hn _ h.sep.hd), h.lg.turns ht (hn _ h.sep.hq), h.sl.kept ht (hn _ h.sep.hp) (hn _ h.sep.hpd) (hn _ h.sep.hpm), ?_, h.inv, h.wh, h.len⟩
  refine ⟨h.row.1, ?_⟩
  rcases h.row.2 with h0 | ⟨g, cap, cur, rfl, hb, hg, r⟩
  · exact .inl h0
  · refine .inr ⟨g, cap, cur, rfl, hb, ?_, r⟩
    exact (ht.block g (Array.getElem?_eq_some_iff.1 hg).1 (fun hm => (hL g hm).2 rfl)).trans hg
theorem DS.below {w w' : World} {B d q p pd pm k c : Nat} {D : List ByteArray} {l : List Ch} {v : Value} (h : DS w B d q p pd pm k c D l v) (hb : Below w.heap.size w w') : DS w' B d q p pd pm k c D l v := h.turns (Turns.of_below [] hb) (by simp)

def hasB (N : Nat) (i : Int) : Bool := decide (0 ≤ i) && decide (i < N) && !ownB i
theorem hasB_t {N : Nat} {i : Int} : hasB N i = true ↔ 0 ≤ i ∧ i < N ∧ ¬ (1 ≤ i ∧ i ≤ 41) := by simp [hasB, ownB]; try omega
theorem hasB_f {N : Nat} {i : Int} (h : ¬ (0 ≤ i ∧ i < N ∧ ¬ (1 ≤ i ∧ i ≤ 41))) : hasB N i = false := by
  cases hh : hasB N i with
  | false => rfl
  | true => exact absurd (hasB_t.1 hh) h

theorem has_any (d q k0 p pd pm c : Nat) (v : Value) (D : List ByteArray) (i : Int) (w : World) (hd : DealAt w d q v) (hQ : LogAt w q p k0) (hS : SlabAt w p pd pm (FS D c)) :
    Calls Tryz.prog 51 #[.pointer (some ⟨d, 0, none⟩), .int .i64 i] w fun e w' => e = .returned (.bool (hasB D.length i)) ∧ w = w' := by
  have hs := Lib.hid (Lg.lsize_any q k0 p pd pm (FS D c) w hQ hS)
  have c1 := hd.c1
  clear hd hQ hS
  by_cases h0 : i < 0
  · rw [hasB_f (by omega)]
    go_enter Tryz.func51, Tryz.ntmps51
    go_wp2_with (go_at_call 58; refine hs.out.mono ?_; rintro e w' ⟨rfl, rfl⟩)
    all_goals (go_ret; exact ⟨rfl, rfl⟩)
  · by_cases h1 : (D.length : Int) ≤ i
    · rw [hasB_f (by omega)]
      have e1 : ((FS D c).dur.length : Int) ≤ i := h1
      go_enter Tryz.func51, Tryz.ntmps51
      go_wp2_with (go_at_call 58; refine hs.out.mono ?_; rintro e w' ⟨rfl, rfl⟩)
      all_goals (go_ret; exact ⟨rfl, rfl⟩)
    · have e1 : ¬ ((FS D c).dur.length : Int) ≤ i := h1
      by_cases h2 : i < 1
      · rw [hasB_t.2 (by omega)]
        go_enter Tryz.func51, Tryz.ntmps51
        go_wp2_with (go_at_call 58; refine hs.out.mono ?_; rintro e w' ⟨rfl, rfl⟩)
        all_goals (go_ret; exact ⟨rfl, rfl⟩)
      · by_cases h3 : 41 < i
        · rw [hasB_t.2 (by omega)]
          go_enter Tryz.func51, Tryz.ntmps51
          go_wp2_with (go_at_call 58; refine hs.out.mono ?_; rintro e w' ⟨rfl, rfl⟩)
          all_goals (go_ret; exact ⟨rfl, rfl⟩)
        · rw [hasB_f (by omega)]
          go_enter Tryz.func51, Tryz.ntmps51
          go_wp2_with (go_at_call 58; refine hs.out.mono ?_; rintro e w' ⟨rfl, rfl⟩)
          all_goals (go_ret; exact ⟨by simp [h2, h3]; try omega, rfl⟩)
theorem has_nil (i : Int) (w : World) : Calls Tryz.prog 51 #[.pointer none, .int .i64 i] w fun e w' => e = .returned (.bool false) ∧ w = w' := by
  go_enter Tryz.func51, Tryz.ntmps51
  go_wp2
  go_ret
  exact ⟨rfl, rfl⟩

theorem chgs_take (D : List ByteArray) (l : List Ch) (j : Nat) (hj : j < l.length) :
    ((gC l j).dt ≠ D.getD (gC l j).bk.toNat ⟨#[]⟩ → chgs D (l.take (j + 1)) = chgs D (l.take j) ++ [⟨(gC l j).bk, (gC l j).dt⟩]) ∧ ((gC l j).dt = D.getD (gC l j).bk.toNat ⟨#[]⟩ → chgs D (l.take (j + 1)) = chgs D (l.take j)) := by
  have e : l.take (j + 1) = l.take j ++ [gC l j] := by
    unfold gC
    rw [List.take_add_one]
    simp [List.getD, hj]
  unfold chgs
  rw [e, List.filter_append]
  constructor
  · intro h
    rw [List.filter_cons_of_pos (by simpa using h)]
    rfl
  · intro h
    rw [List.filter_cons_of_neg (by simpa using h)]
    simp

theorem changes_any (B d q p pd pm k c : Nat) (D : List ByteArray) (l : List Ch) (v : Value) (w : World) (h : DS w B d q p pd pm k c D l v) :
    Calls Tryz.prog 29 #[.pointer (some ⟨d, 0, none⟩)] w fun e w' => ∃ v', e = .returned v' ∧ w'.ownsRow w.heap.size 68 2 v' (chgs D l).length (chsCells (chgs D l)) ∧ Below w.heap.size w w' := by
  have hl := h.ll
  have c0 := h.dl.c0
  have c1 := h.dl.c1
  have hdl := h.dl.lt
  obtain ⟨A, cap, hv, hcap⟩ := Lg.own_slice h.row
  have HR := Lib.hid (fun k hk => row_gt h.row (k := k) hk)
  have HI := Lib.hid (fun k (hk : k < l.length) => h.inv.rng (gC l k) (by unfold gC; simp [List.getD, hk]))
  have HLR := Lib.hid (fun (W : World) (hb : Below w.heap.size w W) (i : Int) => Lg.lread_any q k p pd pm (FS D c) i W (h.lg.below hb h.lg.lt) (h.sl.keptB (Turns.of_below [] hb)))
  have HT := Lib.hid (chgs_take D l)
  have HRD := Lib.hid (fun (i : Nat) (hi : i < D.length) => Lg.read_FS (D := D) (c := c) hi)
  have HLE : Hid (∀ j, (chgs D (l.take j)).length ≤ 1000) := fun j => by
    have h1 : (chgs D (l.take j)).length ≤ (l.take j).length := List.length_filter_le _ _
    rw [List.length_take] at h1
    omega
  have HTA : Hid (l.take l.length = l) := List.take_length
  subst hv
  clear h
  generalize hn : l.length = n at *
  clear hn
  go_enter Tryz.func29, Tryz.ntmps29
  go_wp2
  go_loopg [3, 5, 12] n (fun kx u _ j wr => ∃ k : Nat, k ≤ n ∧ n - k ≤ kx ∧ j = .int .i64 (k : Int) ∧ wr.ownsRow w.heap.size 68 2 u (chgs D (l.take k)).length (chsCells (chgs D (l.take k))) ∧ Below w.heap.size w wr)
  case atStart => exact ⟨0, by omega, by omega, rfl, ⟨rfl, .inl ⟨rfl, rfl⟩⟩, Below.refl _ _⟩
  case round =>
    obtain ⟨k, hk, hkx, rfl, hr, hb⟩ := hrel
    by_cases h1 : k < n
    · have hlt : (k : Int) < (n : Int) := by omega
      have x0 : (0 : Int) ≤ (k : Int) := by omega
      obtain ⟨g, cap', e, _, hg, q0, q1⟩ := HR.out k h1
      injection e with eA _ ec
      subst eA
      subst ec
      have d0 := bcell hb q0 hg
      have d1 := bcell hb q1 hg
      have hrng := HI.out k h1
      have hrd := HRD.out (gC l k).bk.toNat (by omega)
      rw [show (((gC l k).bk.toNat : Nat) : Int) = (gC l k).bk by omega] at hrd
      have htk := HT.out k h1
      generalize (gC l k).bk = z at *
      generalize (gC l k).dt = s at *
      generalize D.getD z.toNat ⟨#[]⟩ = r at *
      have hb2 : Below w.heap.size w (wr.alloc (.cells #[.int .i64 z, .string s] 68)) := hb.alloc hb.size _
      have S0 : Hid ((wr.alloc (.cells #[.int .i64 z, .string s] 68)).cell? ⟨wr.heap.size, 0, none⟩ = some (.int .i64 z) ∧ (wr.alloc (.cells #[.int .i64 z, .string s] 68)).cell? ⟨wr.heap.size, 1, none⟩ = some (.string s) ∧
        (wr.alloc (.cells #[.int .i64 z, .string s] 68)).cell? ⟨d, 1, none⟩ = some (.pointer (some ⟨q, 0, none⟩))) := ⟨Lg.cell_new wr _ 68 0 rfl, Lg.cell_new wr _ 68 1 rfl, bcell hb2 c1 hdl⟩
      have HLL := Lib.hid (HLR.out (wr.alloc (.cells #[.int .i64 z, .string s] 68)).drew ⟨hb2.os, hb2.tape, hb2.output, hb2.size, hb2.block⟩ z)
      rw [hrd] at HLL
      have HZ : Hid (wr.heap.size < (wr.alloc (.cells #[.int .i64 z, .string s] 68)).drew.heap.size) := by show _ < (wr.alloc _).heap.size; rw [World.size_alloc]; omega
      have HZ2 : Hid (d < (wr.alloc (.cells #[.int .i64 z, .string s] 68)).drew.heap.size) := by show _ < (wr.alloc _).heap.size; rw [World.size_alloc]; have := hb.size; omega
      clear hrd q0 q1
      go_wp2_with fail
      go_region_held3 (fun v' => v'.cell? ⟨wr.heap.size, 0, none⟩ = some (.int .i64 z) ∧ v'.cell? ⟨wr.heap.size, 1, none⟩ = some (.string s) ∧ v'.cell? ⟨d, 1, none⟩ = some (.pointer (some ⟨q, 0, none⟩)))
        (first | exact S0.out | exact S1.out)
        (first
          | (go_at_call 61; go_must (go_fit (HLL.out))
             rintro e w5 ⟨rfl, b5⟩
             have S1 : Hid (w5.cell? ⟨wr.heap.size, 0, none⟩ = some (.int .i64 z) ∧ w5.cell? ⟨wr.heap.size, 1, none⟩ = some (.string s) ∧ w5.cell? ⟨d, 1, none⟩ = some (.pointer (some ⟨q, 0, none⟩))) :=
               ⟨bcell b5 S0.out.1 HZ.out, bcell b5 S0.out.2.1 HZ.out, bcell b5 S0.out.2.2 HZ2.out⟩
             have hb5 : Hid (Below w.heap.size w w5) := Below.trans hb2 (Below.mono ⟨b5.os, b5.tape, b5.output, b5.size, b5.block⟩ hb2.size)))
      have hr5 : w5.ownsRow w.heap.size 68 2 u3 (chgs D (l.take k)).length (chsCells (chgs D (l.take k))) := Lg.own_below ((hr.alloc (.cells #[.int .i64 z, .string s] 68)).drew) b5 (Nat.le_refl _)
      obtain ⟨b0, b1, _⟩ := S1.out
      have HR5 := Lib.hid hr5
      have HLK := HLE.out k
      have HSZ := Lib.hid hb5.out.size
      by_cases hsr : s = r
      · have a1 : (s.toList == r.toList) = true := by rw [Lg.lists_eq]; simpa using hsr
        have hx : chgs D (l.take (k + 1)) = chgs D (l.take k) := htk.2 hsr
        have HX : Hid (w5.ownsRow w.heap.size 68 2 u3 (chgs D (l.take (k + 1))).length (chsCells (chgs D (l.take (k + 1))))) := by show World.ownsRow _ _ _ _ _ _ _; rw [hx]; exact HR5.out
        have a3 : (!(s.toList == r.toList)) = false := by rw [a1]; rfl
        clear hr5 htk hx b5 hr hb hb2 hsr
        rw [a3]
        clear a1 a3
        go_wp2
        go_roundg (n - (k + 1))
        case rel => exact ⟨k + 1, h1, Nat.le_refl _, by push_cast; rfl, HX.out, hb5.out⟩
        case measure => omega
      · have a1 : (s.toList == r.toList) = false := by rw [Lg.lists_eq]; simpa using hsr
        have a3 : (!(s.toList == r.toList)) = true := by rw [a1]; rfl
        have hx : chgs D (l.take (k + 1)) = chgs D (l.take k) ++ [⟨z, s⟩] := htk.1 hsr
        have HX := Lib.hid hx
        clear hr5 htk hx hsr b5 hr hb hb2
        rw [a3]
        clear a1 a3
        go_wp2_with (at_builtin; refine Lg.pushC_law rfl _ _ rfl w.heap.size w5 u3 (chgs D (l.take k)) z s rfl rfl HR5.out (by omega) HSZ.out (fun v6 w6 h6 b6 => ?_))
        have HX6 : Hid (w6.ownsRow w.heap.size 68 2 v6 (chgs D (l.take (k + 1))).length (chsCells (chgs D (l.take (k + 1))))) := by show World.ownsRow _ _ _ _ _ _ _; rw [HX.out]; exact h6
        have HB6 : Hid (Below w.heap.size w w6) := hb5.out.trans b6
        clear h6 b6
        go_roundg (n - (k + 1))
        case rel => exact ⟨k + 1, h1, Nat.le_refl _, by push_cast; rfl, HX6.out, HB6.out⟩
        case measure => omega
    · have hnlt : ¬ (k : Int) < (n : Int) := by omega
      have e : k = n := by omega
      have HX : Hid (wr.ownsRow w.heap.size 68 2 u3 (chgs D l).length (chsCells (chgs D l))) := by
        have h2 := hr
        rw [e, HTA.out] at h2
        exact h2
      have HB := Lib.hid hb
      clear hr hb e
      go_wp2
      go_ret
      exact ⟨_, rfl, HX.out, HB.out⟩
end Go.Proofs.YtgdlfiejjnjcpaaGreat.Dl
