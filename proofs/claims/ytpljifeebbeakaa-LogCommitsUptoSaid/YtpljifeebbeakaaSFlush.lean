/-
  WALK: Flush. Conditions: fewer than 1000000 calls so far.
-/
import Derived.Test.YtpljifeebbeakaaSLoose
namespace Go.Proofs.Ytpljifeebbeakaa.Sl
open Go.RowKit Go.Maps Go.Sort
open Go.ChangeMaps (setBlock)

theorem drew_turns (L : List Nat) (w : World) : Turns L w w.drew := ⟨rfl, rfl, rfl, Nat.le_refl _, fun _ _ _ => rfl⟩
theorem Turns.grown1 {j : Nat} {w w' : World} (h : Turns [j] w w') : w.grownBy w' (some j) := ⟨h.os, h.tape, h.output, h.size, fun k hk hne => h.block k hk (by simp; exact fun e => hne (by rw [e]))⟩

/-- 'clear(m)', for the walk to take. -/
theorem own_cleared {w : World} {b n : Nat} {D : DataW Unit} (h : w.ownsMap Try.prog 3 pendElem b n D) :
    ∃ w', (∀ ty, (Builtin.clear_ #[62] ty #[.map (some b)]).run Try.prog w = .ok (.tuple #[]) w') ∧ w'.ownsMap Try.prog 3 pendElem b n (.map []) ∧ w.mapTurned w' b := by
  obtain ⟨es, clock, hb, F, hs, rfl⟩ := h
  refine ⟨setBlock w b (.map #[] clock), fun ty => ?_, ⟨#[], clock, Go.ChangeMaps.heap_setBlock_same hb _, ⟨by simp, MapKept.stamped_empty clock, by simp⟩, by simp, rfl⟩, ⟨es, clock, #[], clock, hb, rfl⟩⟩
  simp [Builtin.clear_, run_underlying Try.underlying62, MapKept.run_getObj_map hb, MapKept.run_setObj_map _ hb, Result.andThen, setBlock]

/-- no block is loose any more. -/
def St.firm (σ : St) : St := { σ with loose := fun _ => none }
theorem SlabAt.cleared {w w' : World} {p pd pm n : Nat} {σ : St} (h : SlabAt w p pd pm σ) (hD : w'.ownsMap Try.prog 3 pendElem pm n (.map [])) (hn : n ≤ 1000) (ht : w.mapTurned w' pm) : SlabAt w' p pd pm σ.firm ∧ Turns [pm] w w' := by
  have ht' : Turns [pm] w w' := Turns.of_grown ht.grown (by intro j e; cases e; simp)
  have h1 := h.ne_mp
  have h2 := h.ne_md
  exact ⟨⟨(ht'.block p h.lt_p (by simp; exact fun e => h1 e.symm)).trans h.hp, (ht'.block pd h.lt_d (by simp; exact fun e => h2 e.symm)).trans h.hd, ⟨_, hD.mono hn, fun i => lk_empty i⟩, fun i hi => absurd rfl hi, h.len, h.ne⟩, ht'⟩

/-- the durable contents while a flush is under way. -/
def flushed (σ : St) (left : Lit → Bool) : List ByteArray := (List.range σ.dur.length).map fun j : Nat => if left (.int .i64 j) = true then σ.dur.getD j ⟨#[]⟩ else σ.at j
theorem flushed_len (σ : St) (left : Lit → Bool) : (flushed σ left).length = σ.dur.length := by simp [flushed]
theorem flushed_start {σ : St} {D : DataW Unit} (hL : ∀ i, lk D i = σ.loose i) : flushed σ (Maps.has D) = σ.dur := by
  apply List.ext_getElem (by simp [flushed])
  intro j h1 h2
  simp only [flushed, List.getElem_map, List.getElem_range, List.getD, List.getElem?_eq_getElem h2, Option.getD_some]
  split
  · rfl
  · rename_i hh
    have : σ.loose j = none := by
      rw [← hL j]
      unfold lk
      rw [if_neg hh]
    unfold St.at
    rw [this]
    simp [List.getD, h2]
theorem flushed_end {σ : St} {left : Lit → Bool} (hl : ∀ kl, left kl = false) : flushed σ left = σ.img := by
  unfold flushed St.img
  apply List.map_congr_left
  intro j _
  rw [hl]; simp
theorem flushed_step {σ : St} {left : Lit → Bool} {k : Nat} {s : ByteArray} (hs : σ.loose k = some s) : (flushed σ left).set k s = flushed σ (fun z => left z && !z.sameKey (.int .i64 k)) := by
  apply List.ext_getElem (by simp [flushed])
  intro j h1 h2
  simp only [List.length_set, flushed_len] at h1
  rw [List.getElem_set]
  simp only [flushed, List.getElem_map, List.getElem_range, sameKey_int]
  by_cases e : k = j
  · subst e
    simp [St.at, hs]
  · rw [if_neg e]
    have : ¬ ((j : Int) = (k : Int)) := by omega
    simp [this]

def St.flush (σ : St) : St := if σ.halted = true then σ.tick else { σ.tick with dur := σ.img }.firm
def St.flushE (σ : St) : Int := if σ.halted = true then 14 else 0

set_option maxRecDepth 100000 in
set_option maxHeartbeats 1000000 in
theorem flush_any (p pd pm : Nat) (σ : St) (w : World) (h : SlabAt w p pd pm σ) (hc : σ.calls < 1000000) :
    Calls Try.prog 48 #[.pointer (some ⟨p, 0, none⟩)] w fun e w' => e = .returned (.int .i64 σ.flushE) ∧ SlabAt w' p pd pm σ.flush ∧ Turns [p, pd, pm] w w' := by
  have HC := Lib.hid (count_any p pd pm σ w h hc)
  have hps := h.lt_p
  have hds := h.lt_d
  have hms := h.lt_m
  clear h
  cases hh : σ.halted with
  | true =>
    have H1 : Hid (σ.flushE = 14) := by show _ = _; unfold St.flushE; rw [if_pos hh]
    have H2 : Hid (σ.flush = σ.tick) := by show _ = _; unfold St.flush; rw [if_pos hh]
    have HH := Lib.hid hh
    clear hh
    go_enter Try.func48, Try.ntmps48
    go_wp2_with (go_at_call 64; refine HC.out.mono ?_; rintro e w1 ⟨rfl, h1, t1⟩; rw [HH.out])
    go_ret
    exact ⟨by rw [H1.out]; rfl, by rw [H2.out]; exact h1, t1.mono (by simp)⟩
  | false =>
    have H1 : Hid (σ.flushE = 0) := by show _ = _; unfold St.flushE; rw [hh]; rfl
    have H2 : Hid (σ.flush = { σ.tick with dur := σ.img }.firm) := by show _ = _; unfold St.flush; rw [hh]; rfl
    have HH := Lib.hid hh
    clear hh
    go_enter Try.func48, Try.ntmps48
    go_wp2_with fail
    refine HC.out.mono ?_
    rintro e w1 ⟨rfl, h1, t1⟩
    rw [HH.out]
    obtain ⟨τ, hτ⟩ : ∃ τ, τ = σ.tick := ⟨_, rfl⟩
    have HI : Hid (σ.img = τ.img) := by rw [hτ]; rfl
    rw [← hτ] at h1
    have Hτ := Lib.hid hτ
    have c1 := h1.c1
    obtain ⟨D, hown, hL⟩ := h1.hm
    have HL := Lib.hid hL
    have HS := Lib.hid h1
    have HT1 := Lib.hid t1
    have hps1 : p < w1.heap.size := h1.lt_p
    have hds1 : pd < w1.heap.size := h1.lt_d
    have hms1 : pm < w1.heap.size := h1.lt_m
    clear h1 hL hτ t1
    go_wp2_with (first
      | (at_range; refine wpList_range_own _ rfl _ 62 rfl 3 76 law3 Try.underlying62 _ pm 1000 D rfl hown ?_; intro w0 hrg0 hg0 hs0)
      | go_in)
    go_frame
    go_loopw [3] (fun _ wr => ∃ (left : Lit → Bool) (cnt : Nat), wr.ranges Try.prog 3 pendElem pm w1.heap.size 1000 D left cnt ∧ SlabAt wr p pd pm { τ with dur := flushed τ left } ∧ Turns [p, pd, pm] w1 wr)
      (fun _ wr => wr.rangeLeft pm w1.heap.size)
    case atStart =>
      have t0 : Turns [] w1 w0 := Turns.of_grown hg0 (by simp)
      refine ⟨_, _, hrg0, ?_, t0.mono (by simp)⟩
      rw [flushed_start HL.out]
      exact HS.out.keptB t0
    case round =>
      obtain ⟨left, cnt, hrg, hs, ht⟩ := hrel
      go_wp2_with (first
        | (at_next; refine wpList_next_ranges _ rfl _ rfl 3 law3 pendElem (Value.int .i64) (fun s : ByteArray => Value.agg #[.string s]) invK3 invVp pm w1.heap.size 1000 _ _ _ rfl hrg ?_ ?_)
        | go_in)
      · intro hc0 hl0
        have cr1 := hs.c1
        have Hs := Lib.hid hs
        have HT := Lib.hid ht
        obtain ⟨w4, hrun4, hown4, hturn4⟩ := own_cleared hrg.owns
        clear hs ht
        go_wp2
        go_ret
        obtain ⟨h4, t4⟩ := Hs.out.cleared hown4 (Nat.le_refl _) hturn4
        rw [flushed_end hl0] at h4
        refine ⟨by rw [H1.out]; rfl, ?_, ((HT1.out.mono (by simp)).trans HT.out).trans (t4.mono (by simp))⟩
        rw [H2.out, HI.out, ← Hτ.out]
        exact h4
      · intro x c kl yd yp w2 cnt2 hkey hlk hv hat hrg2 hlt hg2 hs2 hen
        obtain ⟨x', ex, rfl, _⟩ := Maps.keyOf_int_inv Try.underlying3 hkey
        obtain rfl : x = x' := by cases ex; rfl
        obtain ⟨s', es', ey⟩ := pendElem_inv hv
        obtain rfl : c = s' := by cases es'; rfl
        have ey1 : yd = .lit (.string c.data.toList) := congrArg Prod.fst ey
        have hlx : τ.loose x = some c := by rw [← HL.out x]; exact lk_at (fun zd => (hat zd).trans ey1)
        obtain ⟨hx0, hx1⟩ := HS.out.ok x (by rw [hlx]; simp)
        obtain ⟨k, rfl⟩ := Int.eq_ofNat_of_zero_le hx0
        have hk : k < τ.dur.length := by omega
        have hkl : τ.dur.length ≤ 1000 := HS.out.len
        have t2 : Turns [w1.heap.size] wr w2 := Turns.of_grown hg2 (by intro j e; cases e; simp)
        have h2 := hs.kept t2 (by simp; omega) (by simp; omega) (by simp; omega)
        have h3 := h2.keptB (Turns.alloc _ w2 (.cells #[.string c] 76))
        have c03 := h3.c0
        have hl3 : ({ τ with dur := flushed τ left } : St).dur.length = τ.dur.length := flushed_len τ left
        rw [hl3] at c03
        have fd3 := h3.fzd k
        obtain ⟨v3, hv3⟩ : ∃ v, (w2.alloc (.cells #[.string c] 76)).cell? ⟨pd, k, none⟩ = some v := ⟨_, h3.d (by rw [hl3]; exact hk)⟩
        obtain ⟨h4, t4⟩ := h3.setDur k c
        have e4 : ({ ({ τ with dur := flushed τ left } : St) with dur := ({ τ with dur := flushed τ left } : St).dur.set k c } : St) = { τ with dur := flushed τ (fun z => left z && !z.sameKey (.int .i64 k)) } := by
          show ({ τ with dur := (flushed τ left).set k c } : St) = _
          rw [flushed_step hlx]
        rw [e4] at h4
        have hrg3 := hrg2.alloc (.cells #[.string c] 76)
        have H4 := Lib.hid h4
        have T4 := Lib.hid t4
        have T2 := Lib.hid t2
        have HT := Lib.hid ht
        have HRG := Lib.hid hrg
        have HRG3 := Lib.hid hrg3
        have hm := h3.ne_md
        have HWS := Lib.hid (show w1.heap.size < wr.heap.size from hrg.lt)
        clear h4 t4 t2 ht hrg hrg2 hrg3 h3 h2 hs hg2 hs2 e4 hl3 hlx ey ey1 es' hv hat hlk hown hrg0 hg0 hs0 hkey ex
        go_wp2_with fail
        go_region
        have hrg4 := Lib.hid (HRG3.out.kept (T4.out.trans (drew_turns _ _)).grown1 (fun e => hm (by cases e; rfl)) (by intro e; have : w1.heap.size = pd := by cases e; rfl
                                                                                                                       omega))
        go_wp2
        go_roundw
        case rel =>
          have tA : Turns [p, pd, pm] w2 (w2.alloc (.cells #[.string c] 76)) := Turns.alloc _ _ _
          refine ⟨_, _, hrg4.out, H4.out.keptB (drew_turns _ _), ?_⟩
          exact (((HT.out.transNew T2.out (by intro j hj; simp at hj; omega)).trans tA).trans (T4.out.mono (by simp))).trans (drew_turns _ _)
        case measure => rw [hrg4.out.left_eq, HRG.out.left_eq]; exact hlt

set_option maxHeartbeats 1000000 in
theorem flush_nil (w : World) : Calls Try.prog 48 #[.pointer none] w fun e w' => e = .returned (.int .i64 1) ∧ w = w' := by
  go_enter Try.func48, Try.ntmps48
  go_wp2
  go_ret
  exact ⟨rfl, rfl⟩
end Go.Proofs.Ytpljifeebbeakaa.Sl
