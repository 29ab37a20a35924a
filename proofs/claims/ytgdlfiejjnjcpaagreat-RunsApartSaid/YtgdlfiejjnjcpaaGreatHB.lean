/-
  WALKS: isNone, isSome, areBlocks; slices.IndexFunc, ContainsFunc, DeleteFunc of ints by them. Conditions: at most 1000 numbers.
-/
import Derived.Test.YtgdlfiejjnjcpaaGreatHA
import Derived.Deep.RegionHeld3
import Derived.Deep.DeepMust
import Derived.Deep.DeepFit
import Derived.Lib.SliceRun
set_option linter.unusedVariables false
set_option linter.unusedSimpArgs false
set_option maxRecDepth 100000
set_option maxHeartbeats 4000000
namespace Go.Proofs.YtgdlfiejjnjcpaaGreat.Dl
open Go.RowKit
open Sl (Turns)
open Kr (crv rightK kf kb kc KBox cells3 I64 inB)

theorem some_any (x : Int) (w : World) : Calls Tryz.prog 34 #[.int .i64 x] w fun e w' => e = .returned (.bool (x != 0)) ∧ w = w' := by
  go_enter Tryz.func34, Tryz.ntmps34
  go_wp2
  go_ret
  exact ⟨rfl, rfl⟩
theorem isome_any (A : Option Addr) (n c B : Nat) (zs : List Int) (w : World) (hr : IntsAt w B A n zs) (hn : n ≤ 1000) :
    Calls Tryz.prog 64 #[.slice A n c, .func (.func 34) #[] #[]] w fun e w' => (∃ z : Int, e = .returned (.int .i64 z) ∧ (zeroB zs = true → z = -1) ∧ (zeroB zs = false → 0 ≤ z)) ∧ w = w' := by
  have HL := Lib.hid hr.len
  have HA := Lib.hid hr
  have HS := Lib.hid some_any
  clear hr
  go_enter Tryz.func64, Tryz.ntmps64
  go_wp2
  go_loop [5, 8] (fun _ i => ∃ k : Nat, k ≤ n ∧ i = .int .i64 (k : Int) ∧ Hid (∀ j, j < k → zs.getD j 0 = 0)) (fun _ i => n - (intOf i).toNat)
  case atStart => exact ⟨0, by omega, rfl, fun j hj => absurd hj (Nat.not_lt_zero _)⟩
  case round =>
    obtain ⟨k, hk, rfl, hz⟩ := hrel
    by_cases hlt : k < n
    · obtain ⟨b, o, rfl, hbB, h1⟩ := HA.out.at_ hlt
      by_cases h0 : zs.getD k 0 = 0
      · have HZ : Hid (∀ j, j < k + 1 → zs.getD j 0 = 0) := fun j hj => by
          by_cases e : j = k
          · subst e; exact h0
          · exact hz.out j (by omega)
        rw [h0] at h1
        clear h0
        go_wp2_with (go_at_call 34; refine (HS.out _ _).mono ?_; rintro e w2 ⟨rfl, rfl⟩)
        go_round
        case rel => exact ⟨k + 1, by omega, by go_num, HZ⟩
        case measure => simp [intOf]; omega
      · have HF := Lib.hid (zeroB_f (by rw [HL.out]; exact hlt) h0)
        generalize zs.getD k 0 = z at *
        have h0' : (z != 0) = true := bne_iff_ne.2 h0
        go_wp2_with (go_at_call 34; refine (HS.out _ _).mono ?_; rintro e w2 ⟨rfl, rfl⟩)
        go_ret
        exact ⟨⟨(k : Int), rfl, (fun h => by rw [HF.out] at h; cases h), fun _ => by omega⟩, rfl⟩
    · have hkn : k = n := by omega
      subst hkn
      have HT := Lib.hid (zeroB_t (zs := zs) (fun j hj => hz.out j (by rw [← HL.out]; exact hj)))
      go_wp2
      go_ret
      exact ⟨⟨_, rfl, (fun _ => rfl), fun h => by rw [HT.out] at h; cases h⟩, rfl⟩
theorem csome_any (A : Option Addr) (n c B : Nat) (zs : List Int) (w : World) (hr : IntsAt w B A n zs) (hn : n ≤ 1000) :
    Calls Tryz.prog 33 #[.slice A n c, .func (.func 34) #[] #[]] w fun e w' => e = .returned (.bool (!zeroB zs)) ∧ w = w' := by
  have HI := Lib.hid (isome_any A n c B zs w hr hn)
  clear hr
  cases hz : zeroB zs with
  | true =>
    have HZ := Lib.hid hz
    clear hz
    go_enter Tryz.func33, Tryz.ntmps33
    go_wp2_with (go_at_call 64; refine HI.out.mono ?_; rintro e w2 ⟨⟨z, rfl, hz1, hz2⟩, rfl⟩; obtain rfl := hz1 HZ.out)
    go_ret
    exact ⟨rfl, rfl⟩
  | false =>
    have HZ := Lib.hid hz
    clear hz
    go_enter Tryz.func33, Tryz.ntmps33
    go_wp2_with (go_at_call 64; refine HI.out.mono ?_; rintro e w2 ⟨⟨z, rfl, hz1, hz2⟩, rfl⟩; have hz3 := hz2 HZ.out)
    go_ret
    exact ⟨ret_bool (by simp), rfl⟩
/-! ### areBlocks -/
theorem pts_f {b : Int} {zs : List Int} {k : Nat} (hk : k < zs.length) (h : ptOk b (zs.getD k 0) = false) : ptsOk b zs = false := by
  cases hh : ptsOk b zs with
  | false => rfl
  | true =>
    unfold ptsOk at hh
    rw [List.all_eq_true] at hh
    have := hh zs[k] (List.getElem_mem hk)
    rw [show zs[k] = zs.getD k 0 by simp [List.getD, List.getElem?_eq_getElem hk], h] at this
    cases this
theorem pts_t {b : Int} {zs : List Int} (h : ∀ k, k < zs.length → ptOk b (zs.getD k 0) = true) : ptsOk b zs = true := by
  unfold ptsOk
  rw [List.all_eq_true]
  intro x hx
  obtain ⟨k, hk, rfl⟩ := List.getElem_of_mem hx
  have := h k hk
  rwa [show zs.getD k 0 = zs[k] by simp [List.getD, List.getElem?_eq_getElem hk]] at this
theorem own_pt {f b c x : Int} (hk : rightK f b c = true) (hx : x ≠ 0) : Kr.ownK f b c x = ptOk b x := by
  unfold Kr.ownK Kr.inB
  rw [hk, Bool.true_and]
  have : ptOk b x = (decide (51 ≤ x) && decide (x < b)) := by unfold ptOk; rw [beq_eq_false_iff_ne.2 hx, Bool.false_or]
  rw [this]
  congr 1
  rw [decide_eq_decide]
  omega
theorem areblocks_any (f b u : Int) (A : Option Addr) (n c B : Nat) (zs : List Int) (w : World) (hk : rightK f b u = true) (hr : IntsAt w B A n zs) (hB : B ≤ w.heap.size) (hn : n ≤ 1000) :
    Calls Tryz.prog 36 #[crv f b u, .slice A n c] w fun e w' => e = .returned (.bool (ptsOk b zs)) ∧ Below w.heap.size w w' := by
  have HX0 : Hid (KBox (w.alloc (.cells (cells3 f b u) 62)) w.heap.size f b u) := KBox.new _ _ _ _
  have HB0 : Hid (Below w.heap.size w (w.alloc (.cells (cells3 f b u) 62))) := (Below.refl _ _).alloc (Nat.le_refl _) _
  have HL := Lib.hid hr.len
  have HA := Lib.hid hr
  have HS := Lib.hid some_any
  have HO := Lib.hid (fun x W => Kr.owned_any f b u x W)
  have HP := Lib.hid (fun x (hx : x ≠ 0) => own_pt (f := f) (b := b) (c := u) hk hx)
  have HB1 := Lib.hid hB
  clear hr hk hB
  unfold crv cells3 at *
  go_enter Tryz.func36, Tryz.ntmps36
  go_wp2
  go_loopw [6, 9] (fun _ i wr => ∃ k : Nat, k ≤ n ∧ i = .int .i64 (k : Int) ∧ KBox wr w.heap.size f b u ∧ Below w.heap.size w wr ∧ Hid (∀ j, j < k → ptOk b (zs.getD j 0) = true)) (fun _ i _ => n - (intOf i).toNat)
  case atStart => exact ⟨0, by omega, rfl, HX0.out, HB0.out, fun j hj => absurd hj (Nat.not_lt_zero _)⟩
  case round =>
    obtain ⟨k, hk, rfl, hx, hb, hz⟩ := hrel
    by_cases hlt : k < n
    · obtain ⟨b', o, rfl, hbB, h1⟩ := (HA.out.below hb HB1.out).at_ hlt
      have HBW := Lib.hid hb
      have HXW := Lib.hid hx
      clear hb
      obtain ⟨y0, y1, y2⟩ := hx.row
      clear hx
      by_cases h0 : zs.getD k 0 = 0
      · have HZ : Hid (∀ j, j < k + 1 → ptOk b (zs.getD j 0) = true) := fun j hj => by
          by_cases e : j = k
          · subst e; rw [h0]; rfl
          · exact hz.out j (by omega)
        rw [h0] at h1
        clear h0 hz
        go_wp2_with (go_at_call 34; refine (HS.out _ _).mono ?_; rintro e w2 ⟨rfl, rfl⟩)
        go_roundw
        case rel => exact ⟨k + 1, by omega, by go_num, HXW.out, HBW.out, HZ⟩
        case measure => simp [intOf]; omega
      · have HG : Hid (ptOk b (zs.getD k 0) = true → ∀ j, j < k + 1 → ptOk b (zs.getD j 0) = true) := fun ht j hj => by
          by_cases e : j = k
          · subst e; exact ht
          · exact hz.out j (by omega)
        have HF := Lib.hid (fun hf => pts_f (b := b) (zs := zs) (k := k) (by rw [HL.out]; exact hlt) hf)
        generalize zs.getD k 0 = z at *
        have h0' : (z != 0) = true := bne_iff_ne.2 h0
        have HOW := Lib.hid (HO.out z wr)
        rw [HP.out z h0] at HOW
        cases hp : ptOk b z with
        | true =>
          rw [hp] at HOW
          have HG2 := Lib.hid (HG.out hp)
          clear hp HG HF hz h0
          go_wp2_with (first
            | (go_at_call 34; refine (HS.out _ _).mono ?_; rintro e w2 ⟨rfl, rfl⟩)
            | (go_at_call 46; refine HOW.out.mono ?_; rintro e w3 ⟨rfl, b3⟩))
          go_roundw
          case rel => exact ⟨k + 1, by omega, by go_num, HXW.out.below b3 HXW.out.lt, HBW.out.trans (b3.mono HBW.out.size), HG2⟩
          case measure => simp [intOf]; omega
        | false =>
          rw [hp] at HOW
          have HF2 := Lib.hid (HF.out hp)
          clear hp HG HF hz h0
          go_wp2_with (first
            | (go_at_call 34; refine (HS.out _ _).mono ?_; rintro e w2 ⟨rfl, rfl⟩)
            | (go_at_call 46; refine HOW.out.mono ?_; rintro e w3 ⟨rfl, b3⟩))
          go_ret
          exact ⟨by rw [HF2.out]; rfl, HBW.out.trans (b3.mono HBW.out.size)⟩
    · have hkn : k = n := by omega
      subst hkn
      have HT := Lib.hid (pts_t (b := b) (zs := zs) (fun j hj => hz.out j (by rw [← HL.out]; exact hj)))
      have HBW := Lib.hid hb
      clear hx hb hz
      go_wp2
      go_ret
      exact ⟨by rw [HT.out]; rfl, HBW.out⟩

/-! ### a row that is written in place -/
section
variable {w w' : World} {g cap : Nat} {l zs : List Int} {j : Nat}
end

/-! ### DeleteFunc -/
end Go.Proofs.YtgdlfiejjnjcpaaGreat.Dl
