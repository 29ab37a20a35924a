/-
  WALKS: isNone, isSome, areBlocks; slices.IndexFunc, ContainsFunc, DeleteFunc of ints by them. Conditions: at most 1000 numbers.
-/
import Derived.Test.YtppbonjhckakiaaGreatHA
import Derived.Deep.RegionHeld3
import Derived.Deep.DeepMust
import Derived.Deep.DeepFit
import Derived.Lib.SliceRun
set_option linter.unusedVariables false
set_option linter.unusedSimpArgs false
set_option maxRecDepth 100000
set_option maxHeartbeats 4000000
namespace Go.Proofs.YtppbonjhckakiaaGreat.Dl
open Go.RowKit
open Sl (Turns)
open Kr (crv rightK kf kb kc KBox cells3 I64 inB)

theorem none_any (x : Int) (w : World) : Calls Tryz.prog 83 #[.int .i64 x] w fun e w' => e = .returned (.bool (x == 0)) ∧ w = w' := by
  go_enter Tryz.func83, Tryz.ntmps83
  go_wp2
  go_ret
  exact ⟨rfl, rfl⟩
theorem some_any (x : Int) (w : World) : Calls Tryz.prog 71 #[.int .i64 x] w fun e w' => e = .returned (.bool (x != 0)) ∧ w = w' := by
  go_enter Tryz.func71, Tryz.ntmps71
  go_wp2
  go_ret
  exact ⟨rfl, rfl⟩
theorem isome_any (A : Option Addr) (n c B : Nat) (zs : List Int) (w : World) (hr : IntsAt w B A n zs) (hn : n ≤ 1000) :
    Calls Tryz.prog 125 #[.slice A n c, .func (.func 71) #[] #[]] w fun e w' => (∃ z : Int, e = .returned (.int .i64 z) ∧ (La.zeroB zs = true → z = -1) ∧ (La.zeroB zs = false → 0 ≤ z)) ∧ w = w' := by
  have HL := Lib.hid hr.len
  have HA := Lib.hid hr
  have HS := Lib.hid some_any
  clear hr
  go_enter Tryz.func125, Tryz.ntmps125
  go_wp2
  go_loop [5, 8] (fun _ i => ∃ k : Nat, k ≤ n ∧ i = .int .i64 (k : Int) ∧ Hid (∀ j, j < k → zs.getD j 0 = 0)) (fun _ i => n - (intOf i).toNat)
  case atStart => exact ⟨0, by omega, rfl, fun j hj => absurd hj (Nat.not_lt_zero _)⟩
  case round =>
    obtain ⟨k, hk, rfl, hz⟩ := hrel
    by_cases hlt : k < n
    · obtain ⟨b, o, rfl, hbB, h1⟩ := HA.out.at_ hlt
      by_cases h0 : zs.getD k 0 = 0
      · have HZ : Hid (∀ j, j < k + 1 → zs.getD j 0 = 0) := fun j hj => by
          by_cases e : j = k
          · subst e; exact h0
          · exact hz.out j (by omega)
        rw [h0] at h1
        clear h0
        go_wp2_with (go_at_call 71; refine (HS.out _ _).mono ?_; rintro e w2 ⟨rfl, rfl⟩)
        go_round
        case rel => exact ⟨k + 1, by omega, by go_num, HZ⟩
        case measure => simp [intOf]; omega
      · have HF := Lib.hid (La.zeroB_f (by rw [HL.out]; exact hlt) h0)
        generalize zs.getD k 0 = z at *
        have h0' : (z != 0) = true := bne_iff_ne.2 h0
        go_wp2_with (go_at_call 71; refine (HS.out _ _).mono ?_; rintro e w2 ⟨rfl, rfl⟩)
        go_ret
        exact ⟨⟨(k : Int), rfl, (fun h => by rw [HF.out] at h; cases h), fun _ => by omega⟩, rfl⟩
    · have hkn : k = n := by omega
      subst hkn
      have HT := Lib.hid (La.zeroB_t (zs := zs) (fun j hj => hz.out j (by rw [← HL.out]; exact hj)))
      go_wp2
      go_ret
      exact ⟨⟨_, rfl, (fun _ => rfl), fun h => by rw [HT.out] at h; cases h⟩, rfl⟩
theorem csome_any (A : Option Addr) (n c B : Nat) (zs : List Int) (w : World) (hr : IntsAt w B A n zs) (hn : n ≤ 1000) :
    Calls Tryz.prog 163 #[.slice A n c, .func (.func 71) #[] #[]] w fun e w' => e = .returned (.bool (!La.zeroB zs)) ∧ w = w' := by
  have HI := Lib.hid (isome_any A n c B zs w hr hn)
  clear hr
  cases hz : La.zeroB zs with
  | true =>
    have HZ := Lib.hid hz
    clear hz
    go_enter Tryz.func163, Tryz.ntmps163
    go_wp2_with (go_at_call 125; refine HI.out.mono ?_; rintro e w2 ⟨⟨z, rfl, hz1, hz2⟩, rfl⟩; obtain rfl := hz1 HZ.out)
    go_ret
    exact ⟨rfl, rfl⟩
  | false =>
    have HZ := Lib.hid hz
    clear hz
    go_enter Tryz.func163, Tryz.ntmps163
    go_wp2_with (go_at_call 125; refine HI.out.mono ?_; rintro e w2 ⟨⟨z, rfl, hz1, hz2⟩, rfl⟩; have hz3 := hz2 HZ.out)
    go_ret
    exact ⟨ret_bool (by simp), rfl⟩
/-- the first number that is 0. -/
theorem inone_any (A : Option Addr) (n c B : Nat) (zs : List Int) (w : World) (hr : IntsAt w B A n zs) (hn : n ≤ 1000) :
    Calls Tryz.prog 125 #[.slice A n c, .func (.func 83) #[] #[]] w fun e w' => (∃ z : Int, e = .returned (.int .i64 z) ∧ ((z = -1 ∧ ∀ j, j < n → zs.getD j 0 ≠ 0) ∨ ∃ k : Nat, z = (k : Int) ∧ k < n ∧ zs.getD k 0 = 0 ∧ ∀ j, j < k → zs.getD j 0 ≠ 0)) ∧ w = w' := by
  have HL := Lib.hid hr.len
  have HA := Lib.hid hr
  have HS := Lib.hid none_any
  clear hr
  go_enter Tryz.func125, Tryz.ntmps125
  go_wp2
  go_loop [5, 8] (fun _ i => ∃ k : Nat, k ≤ n ∧ i = .int .i64 (k : Int) ∧ Hid (∀ j, j < k → zs.getD j 0 ≠ 0)) (fun _ i => n - (intOf i).toNat)
  case atStart => exact ⟨0, by omega, rfl, fun j hj => absurd hj (Nat.not_lt_zero _)⟩
  case round =>
    obtain ⟨k, hk, rfl, hz⟩ := hrel
    by_cases hlt : k < n
    · obtain ⟨b, o, rfl, hbB, h1⟩ := HA.out.at_ hlt
      by_cases h0 : zs.getD k 0 = 0
      · have H0 := Lib.hid h0
        rw [h0] at h1
        clear h0
        go_wp2_with (go_at_call 83; refine (HS.out _ _).mono ?_; rintro e w2 ⟨rfl, rfl⟩)
        go_ret
        exact ⟨⟨_, rfl, .inr ⟨k, rfl, hlt, H0.out, hz.out⟩⟩, rfl⟩
      · have HZ : Hid (∀ j, j < k + 1 → zs.getD j 0 ≠ 0) := fun j hj => by
          by_cases e : j = k
          · subst e; exact h0
          · exact hz.out j (by omega)
        generalize zs.getD k 0 = z at *
        have h0' : (z == 0) = false := beq_eq_false_iff_ne.2 h0
        go_wp2_with (go_at_call 83; refine (HS.out _ _).mono ?_; rintro e w2 ⟨rfl, rfl⟩)
        go_round
        case rel => exact ⟨k + 1, by omega, by go_num, HZ⟩
        case measure => simp [intOf]; omega
    · have hkn : k = n := by omega
      subst hkn
      go_wp2
      go_ret
      exact ⟨⟨_, rfl, .inl ⟨rfl, hz.out⟩⟩, rfl⟩

/-! ### areBlocks -/
theorem pts_f {b : Int} {zs : List Int} {k : Nat} (hk : k < zs.length) (h : ptOk b (zs.getD k 0) = false) : ptsOk b zs = false := by
  cases hh : ptsOk b zs with
  | false => rfl
  | true =>
    unfold ptsOk at hh
    rw [List.all_eq_true] at hh
    have := hh zs[k] (List.getElem_mem hk)
    rw [show zs[k] = zs.getD k 0 by simp [List.getD, List.getElem?_eq_getElem hk], h] at this
    cases this
theorem pts_t {b : Int} {zs : List Int} (h : ∀ k, k < zs.length → ptOk b (zs.getD k 0) = true) : ptsOk b zs = true := by
  unfold ptsOk
  rw [List.all_eq_true]
  intro x hx
  obtain ⟨k, hk, rfl⟩ := List.getElem_of_mem hx
  have := h k hk
  rwa [show zs.getD k 0 = zs[k] by simp [List.getD, List.getElem?_eq_getElem hk]] at this
theorem own_pt {f b c x : Int} (hk : rightK f b c = true) (hx : x ≠ 0) : Kr.ownK f b c x = ptOk b x := by
  unfold Kr.ownK Kr.inB
  rw [hk, Bool.true_and]
  have : ptOk b x = (decide (51 ≤ x) && decide (x < b)) := by unfold ptOk; rw [beq_eq_false_iff_ne.2 hx, Bool.false_or]
  rw [this]
  congr 1
  rw [decide_eq_decide]
  omega
theorem areblocks_any (f b u : Int) (A : Option Addr) (n c B : Nat) (zs : List Int) (w : World) (hk : rightK f b u = true) (hr : IntsAt w B A n zs) (hB : B ≤ w.heap.size) (hn : n ≤ 1000) :
    Calls Tryz.prog 35 #[crv f b u, .slice A n c] w fun e w' => e = .returned (.bool (ptsOk b zs)) ∧ Below w.heap.size w w' := by
  have HX0 : Hid (KBox (w.alloc (.cells (cells3 f b u) 62)) w.heap.size f b u) := KBox.new _ _ _ _
  have HB0 : Hid (Below w.heap.size w (w.alloc (.cells (cells3 f b u) 62))) := (Below.refl _ _).alloc (Nat.le_refl _) _
  have HL := Lib.hid hr.len
  have HA := Lib.hid hr
  have HS := Lib.hid some_any
  have HO := Lib.hid (fun x W => Kr.owned_any f b u x W)
  have HP := Lib.hid (fun x (hx : x ≠ 0) => own_pt (f := f) (b := b) (c := u) hk hx)
  have HB1 := Lib.hid hB
  clear hr hk hB
  unfold crv cells3 at *
  go_enter Tryz.func35, Tryz.ntmps35
  go_wp2
  go_loopw [6, 9] (fun _ i wr => ∃ k : Nat, k ≤ n ∧ i = .int .i64 (k : Int) ∧ KBox wr w.heap.size f b u ∧ Below w.heap.size w wr ∧ Hid (∀ j, j < k → ptOk b (zs.getD j 0) = true)) (fun _ i _ => n - (intOf i).toNat)
  case atStart => exact ⟨0, by omega, rfl, HX0.out, HB0.out, fun j hj => absurd hj (Nat.not_lt_zero _)⟩
  case round =>
    obtain ⟨k, hk, rfl, hx, hb, hz⟩ := hrel
    by_cases hlt : k < n
    · obtain ⟨b', o, rfl, hbB, h1⟩ := (HA.out.below hb HB1.out).at_ hlt
      have HBW := Lib.hid hb
      have HXW := Lib.hid hx
      clear hb
      obtain ⟨y0, y1, y2⟩ := hx.row
      clear hx
      by_cases h0 : zs.getD k 0 = 0
      · have HZ : Hid (∀ j, j < k + 1 → ptOk b (zs.getD j 0) = true) := fun j hj => by
          by_cases e : j = k
          · subst e; rw [h0]; rfl
          · exact hz.out j (by omega)
        rw [h0] at h1
        clear h0 hz
        go_wp2_with (go_at_call 71; refine (HS.out _ _).mono ?_; rintro e w2 ⟨rfl, rfl⟩)
        go_roundw
        case rel => exact ⟨k + 1, by omega, by go_num, HXW.out, HBW.out, HZ⟩
        case measure => simp [intOf]; omega
      · have HG : Hid (ptOk b (zs.getD k 0) = true → ∀ j, j < k + 1 → ptOk b (zs.getD j 0) = true) := fun ht j hj => by
          by_cases e : j = k
          · subst e; exact ht
          · exact hz.out j (by omega)
        have HF := Lib.hid (fun hf => pts_f (b := b) (zs := zs) (k := k) (by rw [HL.out]; exact hlt) hf)
        generalize zs.getD k 0 = z at *
        have h0' : (z != 0) = true := bne_iff_ne.2 h0
        have HOW := Lib.hid (HO.out z wr)
        rw [HP.out z h0] at HOW
        cases hp : ptOk b z with
        | true =>
          rw [hp] at HOW
          have HG2 := Lib.hid (HG.out hp)
          clear hp HG HF hz h0
          go_wp2_with (first
            | (go_at_call 71; refine (HS.out _ _).mono ?_; rintro e w2 ⟨rfl, rfl⟩)
            | (go_at_call 47; refine HOW.out.mono ?_; rintro e w3 ⟨rfl, b3⟩))
          go_roundw
          case rel => exact ⟨k + 1, by omega, by go_num, HXW.out.below b3 HXW.out.lt, HBW.out.trans (b3.mono HBW.out.size), HG2⟩
          case measure => simp [intOf]; omega
        | false =>
          rw [hp] at HOW
          have HF2 := Lib.hid (HF.out hp)
          clear hp HG HF hz h0
          go_wp2_with (first
            | (go_at_call 71; refine (HS.out _ _).mono ?_; rintro e w2 ⟨rfl, rfl⟩)
            | (go_at_call 47; refine HOW.out.mono ?_; rintro e w3 ⟨rfl, b3⟩))
          go_ret
          exact ⟨by rw [HF2.out]; rfl, HBW.out.trans (b3.mono HBW.out.size)⟩
    · have hkn : k = n := by omega
      subst hkn
      have HT := Lib.hid (pts_t (b := b) (zs := zs) (fun j hj => hz.out j (by rw [← HL.out]; exact hj)))
      have HBW := Lib.hid hb
      clear hx hb hz
      go_wp2
      go_ret
      exact ⟨by rw [HT.out]; rfl, HBW.out⟩

/-! ### a row that is written in place -/
/-- block g is a row of cap cells; its cells from i on read as zs from i on, those below k as l. -/
structure RwAt (w : World) (g cap : Nat) (l : List Int) (zs : List Int) (j : Nat) : Prop where
  ex : ∃ cur, w.heap[g]? = some (.cells cur 3 (0, 0)) ∧ cur.size = cap ∧ (∀ t, t < l.length → cur[t]? = some (.int .i64 (l.getD t 0))) ∧ ∀ t, j ≤ t → t < zs.length → cur[t]? = some (.int .i64 (zs.getD t 0))
  hj : l.length ≤ j
  hn : zs.length ≤ cap
section
variable {w w' : World} {g cap : Nat} {l zs : List Int} {j : Nat}
theorem RwAt.lt (h : RwAt w g cap l zs j) : g < w.heap.size := by
  obtain ⟨cur, h1, _⟩ := h.ex
  exact (Array.getElem?_eq_some_iff.1 h1).1
theorem RwAt.cell (h : RwAt w g cap l zs j) {t : Nat} (h1 : j ≤ t) (h2 : t < zs.length) : w.cell? ⟨g, t, none⟩ = some (.int .i64 (zs.getD t 0)) := by
  obtain ⟨cur, e1, e2, e3, e4⟩ := h.ex
  rw [cell_of_row w g t _ 3 _ e1]
  exact e4 t h1 h2
theorem RwAt.low (h : RwAt w g cap l zs j) {t : Nat} (h1 : t < l.length) : w.cell? ⟨g, t, none⟩ = some (.int .i64 (l.getD t 0)) := by
  obtain ⟨cur, e1, e2, e3, e4⟩ := h.ex
  rw [cell_of_row w g t _ 3 _ e1]
  exact e3 t h1
theorem RwAt.is (h : RwAt w g cap l zs j) {t : Nat} (h1 : t < cap) : (w.cell? ⟨g, t, none⟩).isSome = true := by
  obtain ⟨cur, e1, e2, e3, e4⟩ := h.ex
  rw [cell_of_row w g t _ 3 _ e1, Array.getElem?_eq_getElem (by omega)]
  rfl
theorem RwAt.fz (h : RwAt w g cap l zs j) (t : Nat) : w.frozen? ⟨g, t, none⟩ = false := by
  obtain ⟨cur, e1, _⟩ := h.ex
  unfold World.frozen?; rw [e1]; simp
theorem RwAt.skip (h : RwAt w g cap l zs j) : RwAt w g cap l zs (j + 1) := by
  obtain ⟨cur, e1, e2, e3, e4⟩ := h.ex
  exact ⟨⟨cur, e1, e2, e3, fun t h1 h2 => e4 t (by omega) h2⟩, by have := h.hj; omega, h.hn⟩
theorem RwAt.drew (h : RwAt w g cap l zs j) (n : Nat) : RwAt (w.drewN n) g cap l zs j := ⟨h.ex, h.hj, h.hn⟩
theorem RwAt.put (h : RwAt w g cap l zs j) (hl : j < zs.length) (x : Int) : RwAt (w.setCell ⟨g, l.length, none⟩ (.int .i64 x)) g cap (l ++ [x]) zs (j + 1) := by
  obtain ⟨cur, e1, e2, e3, e4⟩ := h.ex
  have := h.hj
  have := h.hn
  refine ⟨⟨cur.setIfInBounds l.length (.int .i64 x), Sl.heap_setCell_same w g _ _ e1, by simp [e2], fun t h1 => ?_, fun t h1 h2 => ?_⟩, by simp; omega, h.hn⟩
  · rw [List.length_append, List.length_singleton] at h1
    rw [Array.getElem?_setIfInBounds]
    by_cases e : l.length = t
    · rw [if_pos e, if_pos (by omega)]
      subst e
      simp [List.getD]
    · rw [if_neg e, e3 t (by omega)]
      simp [List.getD, List.getElem?_append_left (show t < l.length by omega)]
  · rw [Array.getElem?_setIfInBounds, if_neg (by omega)]
    exact e4 t (by omega) h2
end

/-! ### DeleteFunc -/
/-- the numbers that aren't 0. -/
def nz (l : List Int) : List Int := l.filter fun x => decide (x ≠ 0)
theorem nz_take0 {zs : List Int} {j : Nat} (hj : j < zs.length) (h : zs.getD j 0 = 0) : nz (zs.take (j + 1)) = nz (zs.take j) := by
  unfold nz
  rw [List.take_add_one, List.filter_append]
  rw [show zs[j]? = some 0 by rw [List.getElem?_eq_getElem hj]; simp [List.getD, List.getElem?_eq_getElem hj] at h; rw [h]]
  simp
theorem nz_take1 {zs : List Int} {j : Nat} (hj : j < zs.length) (h : zs.getD j 0 ≠ 0) : nz (zs.take (j + 1)) = nz (zs.take j) ++ [zs.getD j 0] := by
  have e : zs[j]? = some (zs.getD j 0) := by simp [List.getD, List.getElem?_eq_getElem hj]
  unfold nz
  rw [List.take_add_one, List.filter_append, e]
  congr 1
  simpa using h
theorem nz_le (l : List Int) : (nz l).length ≤ l.length := List.length_filter_le _ _
theorem nz_all {zs : List Int} : ∀ j, j ≤ zs.length → (∀ t, t < j → zs.getD t 0 ≠ 0) → nz (zs.take j) = zs.take j
  | 0, _, _ => rfl
  | j + 1, hj, h => by
    rw [nz_take1 (by omega) (h j (by omega)), nz_all j (by omega) (fun t ht => h t (by omega)), List.take_add_one]
    simp [List.getD, List.getElem?_eq_getElem (show j < zs.length by omega)]
theorem turns_setCells {g : Nat} : ∀ (vs : List Value) (o : Nat) (w : World), Turns [g] w (w.setCells g o vs)
  | [], _, w => Turns.refl _ _
  | v :: r, o, w => (Turns.setCell w (by simp) v).trans (turns_setCells r (o + 1) _)
theorem typ_setCells {g : Nat} : ∀ (vs : List Value) (o : Nat) (w : World), (∃ cur, w.heap[g]? = some (.cells cur 3 (0, 0))) → ∃ cur, (w.setCells g o vs).heap[g]? = some (.cells cur 3 (0, 0))
  | [], _, w, h => h
  | v :: r, o, w, h => by
    obtain ⟨cur, h⟩ := h
    exact typ_setCells r (o + 1) _ ⟨_, Sl.heap_setCell_same w g o v h⟩
theorem RwAt.typ {w : World} {g cap : Nat} {l zs : List Int} {j : Nat} (h : RwAt w g cap l zs j) : ∃ cur, w.heap[g]? = some (.cells cur 3 (0, 0)) := by
  obtain ⟨cur, h1, _⟩ := h.ex
  exact ⟨cur, h1⟩
theorem RwAt.ints {w : World} {g cap : Nat} {l zs : List Int} {j : Nat} (h : RwAt w g cap l zs j) {w' : World} (hs : g < w'.heap.size) (hc : ∀ t, t < l.length → w'.cell? ⟨g, t, none⟩ = w.cell? ⟨g, t, none⟩) (hf : ∀ z ∈ l, La.Fit z) : IntsAt w' w'.heap.size (some ⟨g, 0, none⟩) l.length l :=
  ⟨rfl, hf, fun t ht => ⟨g, 0, rfl, hs, by rw [Nat.zero_add, hc t ht]; exact h.low ht⟩⟩
theorem RwAt.all {w : World} {g cap : Nat} {zs : List Int} (h : RwAt w g cap [] zs 0) (hf : ∀ z ∈ zs, La.Fit z) : IntsAt w w.heap.size (some ⟨g, 0, none⟩) zs.length zs :=
  ⟨rfl, hf, fun t ht => ⟨g, 0, rfl, h.lt, by rw [Nat.zero_add]; exact h.cell (by omega) ht⟩⟩
theorem RwAt.from {w : World} {g cap : Nat} {zs : List Int} (h : RwAt w g cap [] zs 0) {k : Nat} (hk : k < zs.length) : RwAt w g cap (zs.take k) zs (k + 1) := by
  obtain ⟨cur, e1, e2, e3, e4⟩ := h.ex
  refine ⟨⟨cur, e1, e2, fun t ht => ?_, fun t h1 h2 => e4 t (by omega) h2⟩, by rw [List.length_take]; omega, h.hn⟩
  rw [List.length_take] at ht
  rw [e4 t (by omega) (by omega)]
  simp [List.getD, List.getElem?_take_of_lt (show t < k by omega)]
theorem del_any (g cap : Nat) (zs : List Int) (w : World) (hr : RwAt w g cap [] zs 0) (hf : ∀ z ∈ zs, La.Fit z) (hn : zs.length ≤ 1000) (hc : cap ≤ 9223372036854775807) :
    Calls Tryz.prog 82 #[.slice (some ⟨g, 0, none⟩) zs.length cap, .func (.func 83) #[] #[]] w fun e w' => e = .returned (.slice (some ⟨g, 0, none⟩) (nz zs).length cap) ∧ IntsAt w' w'.heap.size (some ⟨g, 0, none⟩) (nz zs).length (nz zs) ∧ Turns [g] w w' ∧ ∃ cur, w'.heap[g]? = some (.cells cur 3 (0, 0)) := by
  have HI := Lib.hid (inone_any (some ⟨g, 0, none⟩) zs.length cap w.heap.size zs w (hr.all hf) hn)
  have HS := Lib.hid none_any
  have HR := Lib.hid hr
  have HF := Lib.hid hf
  have hcap := hr.hn
  have HNF : Hid (∀ z ∈ nz zs, La.Fit z) := fun z hz => hf z (List.mem_filter.1 hz).1
  have HLN := Lib.hid (nz_le zs)
  obtain ⟨n, hzn⟩ : ∃ n, zs.length = n := ⟨_, rfl⟩
  have HZN := Lib.hid hzn
  rw [hzn] at HI HLN hn hcap ⊢
  clear hr hf hzn
  have HT0 : Hid (∀ x W, Turns [x] W W) := fun x W => Turns.refl _ _
  go_enter Tryz.func82, Tryz.ntmps82
  go_wp2_with fail
  refine HI.out.mono ?_
  rintro e w2 ⟨⟨z, rfl, hz⟩, rfl⟩
  rcases hz with ⟨rfl, hz⟩ | ⟨k, rfl, hk, h0, hz⟩
  · have HA := Lib.hid (nz_all (zs := zs) n (by rw [HZN.out]; omega) hz)
    clear hz
    go_wp2
    go_ret
    have e := HA.out
    rw [← HZN.out, List.take_length] at e
    rw [e]
    exact ⟨by rw [HZN.out]; rfl, HR.out.all HF.out, Turns.refl _ _, HR.out.typ⟩
  · have HR1 := Lib.hid (HR.out.from (k := k) (by rw [HZN.out]; exact hk))
    have HL0 : Hid ((zs.take k).length = k) := by show _ = _; rw [List.length_take, HZN.out]; omega
    have HA : Hid (nz (zs.take (k + 1)) = zs.take k) := by
      show _ = _
      rw [nz_take0 (by rw [HZN.out]; exact hk) h0]
      exact nz_all k (by rw [HZN.out]; omega) hz
    clear hz h0
    have hk1 : ((k : Int) == -1) = false := by rw [beq_eq_false_iff_ne]; omega
    go_wp2
    go_loopw [5, 6, 7] (fun i j _ wr => ∃ t : Nat, k + 1 ≤ t ∧ t ≤ n ∧ j = .int .i64 (t : Int) ∧ i = .int .i64 ((nz (zs.take t)).length : Int) ∧ Hid (RwAt wr g cap (nz (zs.take t)) zs t) ∧ (nz (zs.take t)).length + 1 ≤ t ∧ Hid (Turns [g] w wr)) (fun _ j _ _ => n - (intOf j).toNat)
    case atStart => exact ⟨k + 1, by omega, by omega, by go_num, by rw [HA.out, HL0.out], by rw [HA.out]; exact HR1.out, by rw [HA.out, HL0.out]; omega, Turns.refl _ _⟩
    case round =>
      obtain ⟨t, ht1, htn, rfl, rfl, hrw, hlen, htu⟩ := hrel
      by_cases hlt : t < n
      · have hlt2 : ((t : Int) < (n : Int)) := by omega
        have hc1 := hrw.out.cell (t := t) (Nat.le_refl _) (by rw [HZN.out]; exact hlt)
        by_cases h0 : zs.getD t 0 = 0
        · have HE := Lib.hid (nz_take0 (zs := zs) (j := t) (by rw [HZN.out]; exact hlt) h0)
          rw [h0] at hc1
          clear h0
          go_wp2_with (go_at_call 83; refine (HS.out _ _).mono ?_; rintro e w3 ⟨rfl, rfl⟩)
          go_roundw
          case rel => exact ⟨t + 1, by omega, by omega, by go_num, by rw [HE.out], by show RwAt _ _ _ _ _ _; rw [HE.out]; exact hrw.out.skip, by rw [HE.out]; omega, htu.out⟩
          case measure => simp [intOf]; omega
        · have HE := Lib.hid (nz_take1 (zs := zs) (j := t) (by rw [HZN.out]; exact hlt) h0)
          have HPT := Lib.hid (hrw.out.put (by rw [HZN.out]; exact hlt) (zs.getD t 0))
          have hc2 := hrw.out.is (t := (nz (zs.take t)).length) (by omega)
          have hfz := hrw.out.fz (nz (zs.take t)).length
          generalize zs.getD t 0 = z at *
          generalize hln : (nz (zs.take t)).length = m at *
          have HLM := Lib.hid hln
          obtain ⟨old, hold⟩ := Option.isSome_iff_exists.1 hc2
          clear hc2 hln
          have h0' : (z == 0) = false := beq_eq_false_iff_ne.2 h0
          have HTU : Hid (Turns [g] w (wr.setCell ⟨g, m, none⟩ (.int .i64 z))) := htu.out.trans (Turns.setCell wr (by simp) _)
          go_wp2_with (go_at_call 83; refine (HS.out _ _).mono ?_; rintro e w3 ⟨rfl, rfl⟩)
          go_roundw
          case rel => exact ⟨t + 1, by omega, by omega, by go_num, by rw [HE.out, List.length_append, HLM.out]; go_num, by show RwAt _ _ _ _ _ _; rw [HE.out]; exact HPT.out, by rw [HE.out, List.length_append, HLM.out]; simp; omega, HTU.out⟩
          case measure => simp [intOf]; omega
      · have hend : t = n := by omega
        subst hend
        have HALL : Hid (nz (zs.take t) = nz zs) := by show _ = _; rw [← HZN.out, List.take_length]
        rw [HALL.out] at hrw hlen ⊢
        have hlt3 : ¬ ((t : Int) < (t : Int)) := by omega
        have HRW := Lib.hid hrw.out
        have HTU := Lib.hid htu.out
        have HNF2 := Lib.hid HNF.out
        have hcl : ∀ ty, (Builtin.clear_ #[27] ty #[.slice (some ⟨g, (nz zs).length, none⟩) (t - (nz zs).length) (cap - (nz zs).length)]).run Tryz.prog wr = .ok (.tuple #[]) (wr.setCells g (nz zs).length (List.replicate (t - (nz zs).length) (.int .i64 0))) :=
          fun ty => Lib.run_clear_slice wr 27 3 ty (.int .i64 0) Tryz.underlying27 (fun w => by kernel_rfl) rfl rfl g (nz zs).length _ _ (by omega) (fun j hj => hrw.out.is (by omega)) (fun j hj => hrw.out.fz _)
        have HFIN : Hid (IntsAt (wr.setCells g (nz zs).length (List.replicate (t - (nz zs).length) (.int .i64 0))) (wr.setCells g (nz zs).length (List.replicate (t - (nz zs).length) (.int .i64 0))).heap.size (some ⟨g, 0, none⟩) (nz zs).length (nz zs) ∧ Turns [g] w (wr.setCells g (nz zs).length (List.replicate (t - (nz zs).length) (.int .i64 0))) ∧ ∃ cur, (wr.setCells g (nz zs).length (List.replicate (t - (nz zs).length) (.int .i64 0))).heap[g]? = some (.cells cur 3 (0, 0))) := by
          have ht := turns_setCells (g := g) (List.replicate (t - (nz zs).length) (.int .i64 0)) (nz zs).length wr
          refine ⟨hrw.out.ints (Nat.lt_of_lt_of_le hrw.out.lt ht.size) (fun j hj => ?_) HNF.out, htu.out.trans ht, typ_setCells _ _ _ hrw.out.typ⟩
          exact World.cell?_setCells_out g _ _ _ _ (fun _ _ => .inl hj)
        generalize hm : (nz zs).length = m at *
        have HM := Lib.hid hm
        clear hrw htu hm
        go_wp2
        go_ret
        rw [HM.out]
        exact ⟨rfl, HFIN.out⟩
end Go.Proofs.YtppbonjhckakiaaGreat.Dl
