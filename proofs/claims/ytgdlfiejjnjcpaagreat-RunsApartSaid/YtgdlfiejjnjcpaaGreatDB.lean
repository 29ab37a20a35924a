/-
  WALKS of what a deal has written: find (a binary search), get, put, forget. Conditions: at most 2000 changes.
-/
import Derived.Test.YtgdlfiejjnjcpaaGreatDM
import Derived.Deep.LoopGhost
set_option linter.unusedVariables false
set_option linter.unusedSimpArgs false
set_option maxRecDepth 100000
set_option maxHeartbeats 4000000
namespace Go.Proofs.YtgdlfiejjnjcpaaGreat.Dl
open Go.RowKit
open Sl (Turns)
open Lg (Ch chCells chsCells chsCells_len chsCells_at Fit ChsAt)

def cmpI (x y : Int) : Int := if x < y then -1 else if y < x then 1 else 0
theorem nan_any (x : Int) (w : World) : Calls Tryz.prog 141 #[.int .i64 x] w fun e w' => e = .returned (.bool false) ∧ w = w' := by
  go_enter Tryz.func141, Tryz.ntmps141
  go_wp2
  go_ret
  exact ⟨by simp, rfl⟩
theorem compare_any (x y : Int) (w : World) : Calls Tryz.prog 111 #[.int .i64 x, .int .i64 y] w fun e w' => e = .returned (.int .i64 (cmpI x y)) ∧ w = w' := by
  have h1 := nan_any x
  have h2 := nan_any y
  unfold cmpI
  rcases Int.lt_trichotomy x y with h | h | h
  · have a1 : decide (x < y) = true := by simpa using h
    rw [if_pos h]
    go_enter Tryz.func111, Tryz.ntmps111
    go_wp2_with (go_at_call 141; first | (refine (h1 _).mono ?_; rintro e w' ⟨rfl, rfl⟩) | (refine (h2 _).mono ?_; rintro e w' ⟨rfl, rfl⟩))
    all_goals (go_ret; exact ⟨rfl, rfl⟩)
  · subst h
    have a1 : decide (x < x) = false := by simp
    rw [if_neg (by omega), if_neg (by omega)]
    go_enter Tryz.func111, Tryz.ntmps111
    go_wp2_with (go_at_call 141; first | (refine (h1 _).mono ?_; rintro e w' ⟨rfl, rfl⟩) | (refine (h2 _).mono ?_; rintro e w' ⟨rfl, rfl⟩))
    all_goals (go_ret; exact ⟨rfl, rfl⟩)
  · have a1 : decide (x < y) = false := by simp; omega
    have a2 : decide (y < x) = true := by simpa using h
    rw [if_neg (by omega), if_pos h]
    go_enter Tryz.func111, Tryz.ntmps111
    go_wp2_with (go_at_call 141; first | (refine (h1 _).mono ?_; rintro e w' ⟨rfl, rfl⟩) | (refine (h2 _).mono ?_; rintro e w' ⟨rfl, rfl⟩))
    all_goals (go_ret; exact ⟨rfl, rfl⟩)

theorem lit_any (x i : Int) (s : ByteArray) (w : World) : Calls Tryz.prog 110 #[.agg #[.int .i64 x, .string s], .int .i64 i] w fun e w' => e = .returned (.int .i64 (cmpI x i)) ∧ Below w.heap.size w w' := by
  have hc := compare_any x i
  have hcell := Lg.cell_new w #[.int .i64 x, .string s] 68 0 (v := .int .i64 x) rfl
  have HB := Lib.hid ((Below.refl w.heap.size w).alloc (Nat.le_refl _) (.cells #[.int .i64 x, .string s] 68))
  go_enter Tryz.func110, Tryz.ntmps110
  go_wp2_with (go_at_call 111; refine (hc _).mono ?_; rintro e w' ⟨rfl, rfl⟩)
  go_ret
  exact ⟨rfl, HB.out⟩

theorem cmp_lt {x i : Int} : cmpI x i < 0 ↔ x < i := by unfold cmpI; split; · simp_all
                                                        · split <;> simp_all <;> omega
theorem cmp_eq {x i : Int} : cmpI x i = 0 ↔ x = i := by unfold cmpI; split; · simp; omega
                                                        · split <;> simp <;> omega
theorem search_nil (i : Int) (w : World) : Calls Tryz.prog 109 #[.slice none 0 0, .int .i64 i, .func (.func 110) #[] #[]] w fun e w' => e = .returned (.tuple #[.int .i64 0, .bool false]) ∧ Below w.heap.size w w' := by
  have mixed : Tryz.prog.follows Departure.mixedOrders = true := by kernel_rfl
  go_enter Tryz.func109, Tryz.ntmps109
  go_wp2
  go_loopg [9, 10] 0 (fun kx s9 s10 wr => s9 = .int .i64 0 ∧ s10 = .int .i64 0 ∧ wr = w)
  case atStart => exact ⟨rfl, rfl, rfl⟩
  case round =>
    obtain ⟨rfl, rfl, rfl⟩ := hrel
    go_wp2
    go_ret2
    exact ⟨rfl, Below.refl _ _⟩
theorem search_some (B g cap : Nat) (l : List Ch) (i : Int) (w : World) (h : w.ownsRow B 68 2 (.slice (some ⟨g, 0, none⟩) l.length cap) l.length (chsCells l)) (ha : Asc l) (hl : l.length ≤ 2000) :
    Calls Tryz.prog 109 #[.slice (some ⟨g, 0, none⟩) l.length cap, .int .i64 i, .func (.func 110) #[] #[]] w fun e w' => e = .returned (.tuple #[.int .i64 (posW l i), .bool (hitW l i)]) ∧ Below w.heap.size w w' := by
  have hg : g < w.heap.size := (h.lt g rfl).2
  have HC : Hid (∀ k, k < l.length → w.cell? ⟨g, k * 2, none⟩ = some (.int .i64 (gC l k).bk) ∧ w.cell? ⟨g, k * 2 + 1, none⟩ = some (.string (gC l k).dt)) := fun k hk => by
    obtain ⟨g', c', e, _, _, h1, h2, _⟩ := Lg.ownc_at h hk
    injection e with e1
    injection e1 with e1
    injection e1 with e1
    subst e1
    exact ⟨h1, h2⟩
  clear h
  have HA := Lib.hid ha
  clear ha
  have HP : Hid (∀ k, k ≤ l.length → (∀ t, t < k → (gC l t).bk < i) → (∀ t, k ≤ t → t < l.length → i ≤ (gC l t).bk) → posW l i = k) := fun k h1 h2 h3 => pos_is h1 h2 h3
  have HH : Hid (hitW l i = (decide (posW l i < l.length) && decide ((gC l (posW l i)).bk = i))) := (rfl : hitW l i = _)
  have HAL : Hid (∀ a b, a ≤ b → b < l.length → (gC l a).bk ≤ (gC l b).bk) := fun a b h1 h2 => asc_le HA.out h1 h2
  generalize hpw : posW l i = pw at *
  generalize hhw : hitW l i = hw at *
  clear hpw hhw
  generalize l.length = n at *
  have eg : ∀ args w, (callFunc 110 args).run Tryz.prog w = .ok (.enter 110 args) w := fun args w => by kernel_rfl
  have mixed : Tryz.prog.follows Departure.mixedOrders = true := by kernel_rfl
  go_enter Tryz.func109, Tryz.ntmps109
  go_wp2
  go_loopg [9, 10] n (fun kx s9 s10 wr => ∃ lo hi : Nat, s9 = .int .i64 lo ∧ s10 = .int .i64 hi ∧ lo ≤ hi ∧ hi ≤ n ∧ hi - lo ≤ kx ∧ Hid (Below w.heap.size w wr) ∧
    Hid ((∀ t, t < lo → (gC l t).bk < i) ∧ (∀ t, hi ≤ t → t < n → i ≤ (gC l t).bk)))
  case atStart => exact ⟨0, n, rfl, rfl, Nat.zero_le _, Nat.le_refl _, by omega, Below.refl _ _, (⟨fun t ht => absurd ht (Nat.not_lt_zero _), fun t h1 h2 => by omega⟩ : (∀ t, t < 0 → (gC l t).bk < i) ∧ (∀ t, n ≤ t → t < n → i ≤ (gC l t).bk))⟩
  case round =>
    obtain ⟨lo, hi, rfl, rfl, hlh, hin, hgg, HB, I⟩ := hrel
    by_cases hlt : lo < hi
    · obtain ⟨q0, q1⟩ := HC.out ((lo + hi) / 2) (by omega)
      have c0 := (HB.out.cell (p := ⟨g, (lo + hi) / 2 * 2, none⟩) hg).trans q0
      have c1 := (HB.out.cell (p := ⟨g, (lo + hi) / 2 * 2 + 1, none⟩) hg).trans q1
      clear q0 q1
      generalize hy : gC l ((lo + hi) / 2) = y at c0 c1
      have Y := Lib.hid hy
      clear hy
      have hc := lit_any y.bk i y.dt wr
      by_cases hyx : cmpI y.bk i < 0
      · go_wp2_with (go_at_fn 110; refine hc.mono ?_; rintro e w' ⟨rfl, hb⟩)
        go_roundg (hi - ((lo + hi) / 2 + 1))
        case measure => omega
        case rel =>
          have I2 : Hid ((∀ t, t < (lo + hi) / 2 + 1 → (gC l t).bk < i) ∧ (∀ t, hi ≤ t → t < n → i ≤ (gC l t).bk)) := ⟨fun t ht => by
            have h1 := HAL.out t ((lo + hi) / 2) (by omega) (by omega)
            rw [Y.out] at h1
            have h2 := cmp_lt.1 hyx
            omega, I.out.2⟩
          exact ⟨(lo + hi) / 2 + 1, hi, by rw [show ((lo : Int) + (hi : Int)) / 2 + 1 = (((lo + hi) / 2 + 1 : Nat) : Int) by omega], rfl, by omega, hin, Nat.le_refl _, HB.out.trans (hb.mono HB.out.size), I2⟩
      · go_wp2_with (go_at_fn 110; refine hc.mono ?_; rintro e w' ⟨rfl, hb⟩)
        go_roundg ((lo + hi) / 2 - lo)
        case measure => omega
        case rel =>
          have I2 : Hid ((∀ t, t < lo → (gC l t).bk < i) ∧ (∀ t, (lo + hi) / 2 ≤ t → t < n → i ≤ (gC l t).bk)) := ⟨I.out.1, fun t ht htn => by
            have h1 := HAL.out ((lo + hi) / 2) t (by omega) (by omega)
            rw [Y.out] at h1
            have h2 : ¬ y.bk < i := fun h3 => by have := cmp_lt.2 h3; omega
            omega⟩
          exact ⟨lo, (lo + hi) / 2, rfl, by rw [show ((lo : Int) + (hi : Int)) / 2 = (((lo + hi) / 2 : Nat) : Int) by omega], by omega, by omega, Nat.le_refl _, HB.out.trans (hb.mono HB.out.size), I2⟩
    · obtain rfl : hi = lo := by omega
      have ecnt : pw = hi := HP.out hi hin I.out.1 I.out.2
      subst ecnt
      by_cases hn : pw < n
      · obtain ⟨q0, q1⟩ := HC.out pw hn
        have c0 := (HB.out.cell (p := ⟨g, pw * 2, none⟩) hg).trans q0
        have c1 := (HB.out.cell (p := ⟨g, pw * 2 + 1, none⟩) hg).trans q1
        clear q0 q1
        generalize hy : gC l pw = y at c0 c1
        have Y := Lib.hid hy
        clear hy
        have hc := lit_any y.bk i y.dt wr
        by_cases hyx : cmpI y.bk i = 0
        · go_wp2_with (go_at_fn 110; refine hc.mono ?_; rintro e w' ⟨rfl, hb⟩)
          go_ret2
          exact ⟨by rw [HH.out, Y.out]; simp [hn, cmp_eq.1 hyx], HB.out.trans (hb.mono HB.out.size)⟩
        · go_wp2_with (go_at_fn 110; refine hc.mono ?_; rintro e w' ⟨rfl, hb⟩)
          go_ret2
          exact ⟨by rw [HH.out, Y.out]; simp [hn, hyx, show ¬ y.bk = i from fun h3 => hyx (cmp_eq.2 h3)], HB.out.trans (hb.mono HB.out.size)⟩
      · go_wp2
        go_ret2
        exact ⟨by rw [HH.out]; simp [show ¬ pw < n by omega], HB.out⟩

theorem search_any (B : Nat) (v : Value) (l : List Ch) (i : Int) (w : World) (h : w.ownsRow B 68 2 v l.length (chsCells l)) (ha : Asc l) (hl : l.length ≤ 2000) :
    Calls Tryz.prog 109 #[v, .int .i64 i, .func (.func 110) #[] #[]] w fun e w' => e = .returned (.tuple #[.int .i64 (posW l i), .bool (hitW l i)]) ∧ Below w.heap.size w w' := by
  rcases h.2 with ⟨rfl, hn⟩ | ⟨g, cap, cur, rfl, _⟩
  · have e0 : l = [] := List.eq_nil_of_length_eq_zero hn
    subst e0
    exact search_nil i w
  · exact search_some B g cap l i w h ha hl

/-- what a deal has written: block d's first cell holds a row of changes. -/
def DealAt (w : World) (d q : Nat) (v : Value) : Prop := w.heap[d]? = some (.cells #[v, .pointer (some ⟨q, 0, none⟩)] 102 (0, 0))
theorem DealAt.lt {w : World} {d q : Nat} {v : Value} (h : DealAt w d q v) : d < w.heap.size := (Array.getElem?_eq_some_iff.1 h).1
theorem DealAt.c0 {w : World} {d q : Nat} {v : Value} (h : DealAt w d q v) : w.cell? ⟨d, 0, none⟩ = some v := by rw [cell_of_row w d 0 _ 102 _ h]; rfl
theorem DealAt.c1 {w : World} {d q : Nat} {v : Value} (h : DealAt w d q v) : w.cell? ⟨d, 1, none⟩ = some (.pointer (some ⟨q, 0, none⟩)) := by rw [cell_of_row w d 1 _ 102 _ h]; rfl
theorem DealAt.fz {w : World} {d q : Nat} {v : Value} (h : DealAt w d q v) (j : Nat) : w.frozen? ⟨d, j, none⟩ = false := by
  unfold DealAt at h; simp [World.frozen?, h]
theorem DealAt.turns {w w' : World} {d q : Nat} {v : Value} {L : List Nat} (h : DealAt w d q v) (ht : Turns L w w') (hd : d ∉ L) : DealAt w' d q v := (ht.block d h.lt hd).trans h
theorem DealAt.set {w : World} {d q : Nat} {v : Value} (h : DealAt w d q v) (v' : Value) : DealAt (w.setCell ⟨d, 0, none⟩ v') d q v' := by
  have := heap_setCell_same w d 0 v' h
  exact this

theorem find_any (B d q : Nat) (v : Value) (l : List Ch) (i : Int) (w : World) (hd : DealAt w d q v) (h : w.ownsRow B 68 2 v l.length (chsCells l)) (ha : Asc l) (hl : l.length ≤ 2000) :
    Calls Tryz.prog 85 #[.pointer (some ⟨d, 0, none⟩), .int .i64 i] w fun e w' => e = .returned (.tuple #[.int .i64 (posW l i), .bool (hitW l i)]) ∧ Below w.heap.size w w' := by
  have HS := Lib.hid (search_any B v l i w h ha hl)
  have c0 := hd.c0
  clear hd h ha
  generalize posW l i = pw at *
  generalize hitW l i = hw at *
  go_enter Tryz.func85, Tryz.ntmps85
  go_wp2_with (go_at_call 109; refine HS.out.mono ?_; rintro e w' ⟨rfl, hb⟩)
  go_ret2
  exact ⟨rfl, hb⟩

theorem row_gt {w : World} {B : Nat} {v : Value} {l : List Ch} (h : w.ownsRow B 68 2 v l.length (chsCells l)) {k : Nat} (hk : k < l.length) :
    ∃ g cap, v = .slice (some ⟨g, 0, none⟩) l.length cap ∧ B ≤ g ∧ g < w.heap.size ∧ w.cell? ⟨g, k * 2, none⟩ = some (.int .i64 (gC l k).bk) ∧ w.cell? ⟨g, k * 2 + 1, none⟩ = some (.string (gC l k).dt) := by
  obtain ⟨g, cap, e, h1, h2, h3, h4, _⟩ := Lg.ownc_at h hk
  exact ⟨g, cap, e, h1, h2, h3, h4⟩

theorem hit_lt {l : List Ch} {i : Int} (h : hitW l i = true) : posW l i < l.length := by
  unfold hitW at h
  simp only [Bool.and_eq_true, decide_eq_true_eq] at h
  exact h.1

def getW (l : List Ch) (i : Int) : ByteArray := if hitW l i = true then (gC l (posW l i)).dt else ⟨#[]⟩
theorem get_any (B d q : Nat) (v : Value) (l : List Ch) (i : Int) (w : World) (hd : DealAt w d q v) (h : w.ownsRow B 68 2 v l.length (chsCells l)) (ha : Asc l) (hl : l.length ≤ 2000) :
    Calls Tryz.prog 95 #[.pointer (some ⟨d, 0, none⟩), .int .i64 i] w fun e w' => e = .returned (.tuple #[.string (getW l i), .bool (hitW l i)]) ∧ Below w.heap.size w w' := by
  have HF := Lib.hid (find_any B d q v l i w hd h ha hl)
  have hdl := hd.lt
  unfold getW
  cases hh : hitW l i with
  | false =>
    rw [hh] at HF
    rw [if_neg (by decide)]
    generalize posW l i = pw at *
    go_enter Tryz.func95, Tryz.ntmps95
    go_wp2_with (go_at_call 85; refine HF.out.mono ?_; rintro e w' ⟨rfl, hb⟩)
    go_ret2
    exact ⟨rfl, hb⟩
  | true =>
    have hp := hit_lt hh
    obtain ⟨g, cap, rfl, _, hg, q0, q1⟩ := row_gt h hp
    have c0 := hd.c0
    rw [hh] at HF
    rw [if_pos rfl]
    clear h hd ha
    generalize posW l i = pw at *
    generalize (gC l pw).dt = s at *
    generalize l.length = n at *
    go_enter Tryz.func95, Tryz.ntmps95
    go_wp2_with (go_at_call 85; refine HF.out.mono ?_; rintro e w' ⟨rfl, hb⟩; have c0' := (hb.cell (p := ⟨d, 0, none⟩) hdl).trans c0; have c1' := (hb.cell (p := ⟨g, pw * 2 + 1, none⟩) hg).trans q1)
    go_ret2
    exact ⟨rfl, hb⟩

end Go.Proofs.YtgdlfiejjnjcpaaGreat.Dl
