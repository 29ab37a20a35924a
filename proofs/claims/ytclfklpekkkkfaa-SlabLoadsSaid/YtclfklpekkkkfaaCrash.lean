/-
  WALKS: Crash of a slab, where nothing is kept (no keep, or one false) and where all is kept (one true). Conditions: fewer than 1000000 calls so far.
-/
import Derived.Test.YtclfklpekkkkfaaFlush
namespace Go.Proofs.Ytclfklpekkkkfaa
open Go.RowKit Go.Maps Go.Sort

/-- behind a crash: nothing is kept. -/
def St.lost (σ : St) : St := { σ with loose := fun _ => none, stops := false, stopAt := 0 }
theorem lost_is (σ : St) : σ.firm.stop (-1) = σ.lost := by unfold St.stop; rw [if_neg (by omega)]; rfl

theorem row_cells {w : World} {base g cap : Nat} {zs : List Int} (h : w.ownsRow base 3 1 (.slice (some ⟨g, 0, none⟩) zs.length cap) zs.length (zs.map (Value.int .i64))) :
    base ≤ g ∧ ∀ k, k < zs.length → w.cell? ⟨g, k, none⟩ = some (.int .i64 (zs.getD k 0)) := by
  rcases h.2 with ⟨hnil, _⟩ | ⟨g', cap', cur, e, hbase, hb, h1, h2, h3, h4⟩
  · cases hnil
  · cases e
    refine ⟨hbase, fun k hk => ?_⟩
    have h5 : (cur.toList.take (zs.length * 1))[k]? = (zs.map (Value.int .i64))[k]? := by rw [h4]
    rw [Nat.mul_one, List.getElem?_take_of_lt hk] at h5
    simp only [World.cell?, hb, Option.isSome_none, Bool.false_eq_true, if_false]
    rw [← Array.getElem?_toList, h5]
    simp [List.getD, hk]

set_option maxRecDepth 100000 in
set_option maxHeartbeats 1000000 in
theorem crash_nil (p pd pm : Nat) (σ : St) (w : World) (h : SlabAt w p pd pm σ) (hc : σ.calls < 1000000) :
    Calls Try.prog 10 #[.pointer (some ⟨p, 0, none⟩), .slice none 0 0] w fun e w' => e = .returned (.tuple #[]) ∧ SlabAt w' p pd pm σ.lost ∧ Turns [p, pd, pm] w w' := by
  have H := Lib.hid h
  have HLo := Lib.hid (loose_any p pd pm σ w h)
  clear h
  go_enter Try.func10, Try.ntmps10
  go_wp2_with fail
  refine HLo.out.mono ?_
  rintro e w1 ⟨g, cap, zs, rfl, hzs, hzl, hrow, b1⟩
  obtain ⟨hbase, hcells⟩ := row_cells hrow
  have t1 : Turns [] w w1 := Turns.of_below _ b1
  have h1 := Lib.hid (H.out.keptB t1)
  have HT1 := Lib.hid t1
  have HCE := Lib.hid hcells
  clear hrow b1 hzs t1 hcells
  go_wp2
  go_loopw [11] (fun i wr => ∃ k : Nat, k ≤ zs.length ∧ i = .int .i64 k ∧ wr = w1) (fun i _ => zs.length - (intOf i).toNat)
  case atStart => exact ⟨0, Nat.zero_le _, rfl, rfl⟩
  case round =>
    obtain ⟨k, hk, rfl, rfl⟩ := hrel
    by_cases hlt : k < zs.length
    · have hck := HCE.out k hlt
      generalize zs.getD k 0 = x at *
      go_wp2
      go_roundw
      case rel => exact ⟨k + 1, by omega, by go_num, trivial⟩
      case measure => simp [intOf]; omega
    · have c1 := h1.out.c1
      obtain ⟨D, hown, hL⟩ := h1.out.hm
      obtain ⟨w4, hrun4, hown4, hturn4⟩ := own_cleared hown
      obtain ⟨h4, t4⟩ := h1.out.cleared hown4 (Nat.le_refl _) hturn4
      have HS := Lib.hid (stop_any p pd pm σ.firm (-1) w4 h4 (by omega) hc)
      have T4 := Lib.hid t4
      clear hL hown hown4 hturn4 h4 t4
      go_wp2_with (go_at_call 19; refine HS.out.mono ?_; rintro e w5 ⟨rfl, h5, t5⟩)
      go_end0
      rw [lost_is] at h5
      exact ⟨rfl, h5, ((HT1.out.mono (by simp)).trans (T4.out.mono (by simp))).trans (t5.mono (by simp))⟩

theorem field60 (s : ByteArray) (W : World) : (Instr.field 60 (.agg #[.string s]) 0).run Try.prog W = .ok (.string s) W := by kernel_rfl
theorem tmod_one (k : Nat) : (k : Int).tmod 1 = 0 := Int.tmod_one _

set_option maxRecDepth 100000 in
set_option maxHeartbeats 1000000 in
theorem crash_no (p pd pm q : Nat) (σ : St) (w : World) (h : SlabAt w p pd pm σ) (hc : σ.calls < 1000000) (hq : w.cell? ⟨q, 0, none⟩ = some (.bool false)) :
    Calls Try.prog 10 #[.pointer (some ⟨p, 0, none⟩), .slice (some ⟨q, 0, none⟩) 1 1] w fun e w' => e = .returned (.tuple #[]) ∧ SlabAt w' p pd pm σ.lost ∧ Turns [p, pd, pm] w w' := by
  have H := Lib.hid h
  have HLo := Lib.hid (loose_any p pd pm σ w h)
  clear h
  go_enter Try.func10, Try.ntmps10
  go_wp2_with fail
  refine HLo.out.mono ?_
  rintro e w1 ⟨g, cap, zs, rfl, hzs, hzl, hrow, b1⟩
  obtain ⟨hbase, hcells⟩ := row_cells hrow
  have t1 : Turns [] w w1 := Turns.of_below _ b1
  have hq1 := t1.cell hq (by simp)
  have h1 := Lib.hid (H.out.keptB t1)
  have HT1 := Lib.hid t1
  have HCE := Lib.hid hcells
  clear hrow b1 hzs t1 hcells hq
  go_wp2
  go_loopw [11] (fun i wr => ∃ k : Nat, k ≤ zs.length ∧ i = .int .i64 k ∧ wr = w1) (fun i _ => zs.length - (intOf i).toNat)
  case atStart => exact ⟨0, Nat.zero_le _, rfl, rfl⟩
  case round =>
    obtain ⟨k, hk, rfl, rfl⟩ := hrel
    by_cases hlt : k < zs.length
    · have hck := HCE.out k hlt
      have htm := tmod_one k
      generalize zs.getD k 0 = x at *
      go_wp2
      go_roundw
      case rel => exact ⟨k + 1, by omega, by go_num, trivial⟩
      case measure => simp [intOf]; omega
    · have c1 := h1.out.c1
      obtain ⟨D, hown, hL⟩ := h1.out.hm
      obtain ⟨w4, hrun4, hown4, hturn4⟩ := own_cleared hown
      obtain ⟨h4, t4⟩ := h1.out.cleared hown4 (Nat.le_refl _) hturn4
      have HS := Lib.hid (stop_any p pd pm σ.firm (-1) w4 h4 (by omega) hc)
      have T4 := Lib.hid t4
      clear hL hown hown4 hturn4 h4 t4
      go_wp2_with (go_at_call 19; refine HS.out.mono ?_; rintro e w5 ⟨rfl, h5, t5⟩)
      go_end0
      rw [lost_is] at h5
      exact ⟨rfl, h5, ((HT1.out.mono (by simp)).trans (T4.out.mono (by simp))).trans (t5.mono (by simp))⟩

/-- those of the loose blocks that a crash has not come to yet. -/
def leftC (zs : List Int) (k : Nat) (z : Lit) : Bool := !((zs.take k).any fun x => z.sameKey (.int .i64 x))
theorem leftC_start {σ : St} (zs : List Int) : flushed σ (leftC zs 0) = σ.dur := by
  apply List.ext_getElem (by simp [flushed])
  intro j h1 h2
  simp [flushed, leftC, h2]
theorem leftC_step {zs : List Int} {k : Nat} {x : Int} (hx : zs[k]? = some x) : (fun z : Lit => leftC zs k z && !z.sameKey (.int .i64 x)) = leftC zs (k + 1) := by
  funext z
  simp only [leftC]
  rw [List.take_add_one, hx]
  simp
theorem leftC_end {σ : St} {zs : List Int} (h : LooseOf σ zs) : flushed σ (leftC zs zs.length) = σ.img := by
  unfold flushed St.img
  apply List.map_congr_left
  intro j _
  split
  · rename_i hl
    have hn : σ.loose j = none := by
      cases hj : σ.loose j with
      | none => rfl
      | some s =>
        have hm : (j : Int) ∈ zs := (h.2.1 j).2 (by rw [hj]; simp)
        simp only [leftC, List.take_length, Bool.not_eq_true', List.any_eq_false] at hl
        exact absurd (WideAt.sameKey_self (isKey_int j)) (hl j hm)
    unfold St.at
    rw [hn]; rfl
  · rfl

set_option maxRecDepth 100000 in
set_option maxHeartbeats 1000000 in
theorem crash_yes (p pd pm q : Nat) (σ : St) (w : World) (h : SlabAt w p pd pm σ) (hc : σ.calls < 1000000) (hq : w.cell? ⟨q, 0, none⟩ = some (.bool true)) (hqd : q ≠ pd) :
    Calls Try.prog 10 #[.pointer (some ⟨p, 0, none⟩), .slice (some ⟨q, 0, none⟩) 1 1] w fun e w' => e = .returned (.tuple #[]) ∧ SlabAt w' p pd pm { σ with dur := σ.img }.lost ∧ Turns [p, pd, pm] w w' := by
  have H := Lib.hid h
  have HLo := Lib.hid (loose_any p pd pm σ w h)
  have hdl := h.lt_d
  have hkl := h.len
  clear h
  go_enter Try.func10, Try.ntmps10
  go_wp2_with fail
  refine HLo.out.mono ?_
  rintro e w1 ⟨g, cap, zs, rfl, hzs, hzl, hrow, b1⟩
  obtain ⟨hbase, hcells⟩ := row_cells hrow
  have t1 : Turns [] w w1 := Turns.of_below _ b1
  have hq1 := t1.cell hq (by simp)
  have h1 := Lib.hid (H.out.keptB t1)
  have HT1 := Lib.hid t1
  have HCE := Lib.hid hcells
  have HZ := Lib.hid hzs
  have HQ1 := Lib.hid hq1
  clear hrow b1 hzs t1 hcells hq hq1
  go_wp2
  go_loopw [11] (fun i wr => ∃ k : Nat, k ≤ zs.length ∧ i = .int .i64 k ∧ SlabAt wr p pd pm { σ with dur := flushed σ (leftC zs k) } ∧ Turns [pd] w1 wr) (fun i _ => zs.length - (intOf i).toNat)
  case atStart => exact ⟨0, Nat.zero_le _, rfl, by rw [leftC_start]; exact h1.out, Turns.refl _ _⟩
  case round =>
    obtain ⟨k, hk, rfl, hs, ht⟩ := hrel
    have hlr : ({ σ with dur := flushed σ (leftC zs k) } : St).dur.length = σ.dur.length := flushed_len σ _
    by_cases hlt : k < zs.length
    · have hck := ht.cell (HCE.out k hlt) (by simp; omega)
      have hq1 := ht.cell HQ1.out (by simp; exact hqd)
      have htm := tmod_one k
      obtain ⟨x, hx⟩ : ∃ x, zs[k]? = some x := ⟨_, List.getElem?_eq_getElem hlt⟩
      have hgx : zs.getD k 0 = x := by simp [List.getD, hx]
      rw [hgx] at hck
      have hlx := (HZ.out.2.1 x).1 (List.mem_of_getElem? hx)
      obtain ⟨hx0, hx1⟩ := H.out.ok x hlx
      obtain ⟨s, hsx⟩ := Option.ne_none_iff_exists'.1 hlx
      obtain ⟨m, rfl⟩ := Int.eq_ofNat_of_zero_le hx0
      have hm : m < σ.dur.length := by omega
      have c0 := hs.c0
      have c1 := hs.c1
      rw [hlr] at c0
      have fd := hs.fzd m
      obtain ⟨v3, hv3⟩ : ∃ v, wr.cell? ⟨pd, m, none⟩ = some v := ⟨_, hs.d (by rw [hlr]; exact hm)⟩
      obtain ⟨D, hown, hL⟩ := hs.hm
      have hlk : lk D m = some s := (hL m).trans hsx
      obtain ⟨v, ps, hrun, hv⟩ := hown.drew.lookup law3 Try.underlying54 (zero60 wr.drew) (show pendElem _ = some (.lit (.string []), []) from rfl) (key_i64 (i := m) (by omega))
      rw [look_pend hown hv, hlk] at hrun
      simp only [Option.getD_some] at hrun
      have hfld : ∀ W, (Instr.field 60 (.agg #[.string s]) 0).run Try.prog W = .ok (.string s) W := fun W => field60 s W
      obtain ⟨h4, t4⟩ := hs.setDur m s
      have e4 : ({ ({ σ with dur := flushed σ (leftC zs k) } : St) with dur := ({ σ with dur := flushed σ (leftC zs k) } : St).dur.set m s } : St) = { σ with dur := flushed σ (leftC zs (k + 1)) } := by
        show ({ σ with dur := (flushed σ (leftC zs k)).set m s } : St) = _
        rw [flushed_step hsx, leftC_step hx]
      rw [e4] at h4
      have H4 := Lib.hid h4
      have T4 := Lib.hid t4
      have HT := Lib.hid ht
      clear h4 t4 ht hs e4 hlr hv hown hL hlk hsx hgx hx hlx
      go_wp2_with fail
      go_region
      go_wp2
      go_roundw
      case rel => exact ⟨k + 1, by omega, by go_num, H4.out.keptB (drew_turns _ _), (HT.out.trans T4.out).trans (drew_turns _ _)⟩
      case measure => simp [intOf]; omega
    · have HK : Hid (k = zs.length) := by show k = zs.length; omega
      have hs' := hs
      rw [HK.out, leftC_end HZ.out] at hs'
      have c1 := hs.c1
      obtain ⟨D, hown, hL⟩ := hs.hm
      obtain ⟨w4, hrun4, hown4, hturn4⟩ := own_cleared hown
      obtain ⟨h4, t4⟩ := hs'.cleared hown4 (Nat.le_refl _) hturn4
      have HS := Lib.hid (stop_any p pd pm { σ with dur := σ.img }.firm (-1) w4 h4 (by omega) hc)
      have T4 := Lib.hid t4
      have HT := Lib.hid ht
      clear hL hown hown4 hturn4 h4 t4 hs hs' ht
      go_wp2_with (go_at_call 19; refine HS.out.mono ?_; rintro e w5 ⟨rfl, h5, t5⟩)
      go_end0
      rw [lost_is] at h5
      exact ⟨rfl, h5, (((HT1.out.mono (by simp)).trans (HT.out.mono (by simp))).trans (T4.out.mono (by simp))).trans (t5.mono (by simp))⟩

set_option maxHeartbeats 1000000 in
theorem crash_none (A : Option Addr) (n c : Nat) (w : World) : Calls Try.prog 10 #[.pointer none, .slice A n c] w fun e w' => e = .returned (.tuple #[]) ∧ w = w' := by
  go_enter Try.func10, Try.ntmps10
  go_wp2
  (try simp only [Exit.inBlock, Exit.then])
  refine bodyPost_ret (results_none rfl _ _ _) rfl ?_
  exact ⟨rfl, rfl⟩

set_option maxHeartbeats 1000000 in
theorem stop_none (n : Int) (w : World) : Calls Try.prog 19 #[.pointer none, .int .i64 n] w fun e w' => e = .returned (.tuple #[]) ∧ w = w' := by
  go_enter Try.func19, Try.ntmps19
  go_wp2
  (try simp only [Exit.inBlock, Exit.then])
  refine bodyPost_ret (results_none rfl _ _ _) rfl ?_
  exact ⟨rfl, rfl⟩
end Go.Proofs.Ytclfklpekkkkfaa
