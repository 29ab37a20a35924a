/-
  WALK: the reference's Map: the map of rungs, number by number. No condition.
  WALKS: the reference's List and Direct. Conditions: a place of at most 1000.
  WALK: the reference's Double. No condition.
-/
import Derived.Test.YtppbonjhckakiaaGreatBX
namespace Go.Proofs.YtppbonjhckakiaaGreat.La
open Go.RowKit Go.Shelf

set_option maxRecDepth 100000 in
set_option maxHeartbeats 1000000 in
theorem at_all (A : Option Addr) (n c B : Nat) (zs : List Int) (i : Nat) (w : World) (hr : IntsAt w B A n zs) (hi : i ≤ 1000000) :
    Calls Tryz.prog 77 #[.slice A n c, .int .i64 (i : Int)] w fun e w' => e = .returned (.int .i64 (zs.getD i 0)) ∧ w = w' := by
  by_cases hlt : i < n
  · obtain ⟨b, o, rfl, hbB, h1⟩ := hr.at_ hlt
    generalize zs.getD i 0 = z at *
    go_enter Tryz.func77, Tryz.ntmps77
    go_wp2
    go_ret
    exact ⟨rfl, rfl⟩
  · have e : zs.getD i 0 = 0 := by
      have := hr.len
      simp [List.getD, List.getElem?_eq_none (show zs.length ≤ i by omega)]
    rw [e]
    go_enter Tryz.func77, Tryz.ntmps77
    go_wp2
    go_ret
    exact ⟨rfl, rfl⟩

end Go.Proofs.YtppbonjhckakiaaGreat.La

namespace Go.Proofs.YtppbonjhckakiaaGreat.La
open Go.RowKit Go.Shelf

def accL (zs : List Int) (f i : Nat) : List Int := (List.range i).map fun t => zs.getD (f + t) 0
set_option maxRecDepth 100000 in
theorem accL_succ (zs : List Int) (f i : Nat) : accL zs f (i + 1) = accL zs f i ++ [zs.getD (f + i) 0] := by simp [accL, List.range_succ]
set_option maxRecDepth 100000 in
theorem accL_len (zs : List Int) (f i : Nat) : (accL zs f i).length = i := by simp [accL]
def anyL (zs : List Int) (f q : Nat) : Bool := (List.range q).any fun t => zs.getD (f + t) 0 != 0
set_option maxRecDepth 100000 in
theorem anyL_succ (zs : List Int) (f q : Nat) : anyL zs f (q + 1) = (anyL zs f q || (zs.getD (f + q) 0 != 0)) := by simp [anyL, List.range_succ]
def listR (zs : List Int) (f : Nat) : Option (List Int) := if anyL zs f 8 = true then some (accL zs f 8) else none
set_option maxRecDepth 100000 in
theorem accL_piece (zs : List Int) (k : Nat) (h0 : 0 < k) (hk : k < 10) : accL zs (offP k) 8 = pieceOf zs k := by
  have hl : lenP k = 8 := by unfold lenP; rw [if_neg (by omega)]
  refine getD_ext (by rw [accL_len, pieceOf_len zs k hk, hl]) (fun j hj => ?_)
  rw [accL_len] at hj
  rw [pieceOf_get zs k j hk (by omega)]
  simp [accL, List.getD, hj]
set_option maxRecDepth 100000 in
theorem anyL_piece (zs : List Int) (k : Nat) (h0 : 0 < k) (hk : k < 10) : anyL zs (offP k) 8 = !zeroB (pieceOf zs k) := by
  have hl : lenP k = 8 := by unfold lenP; rw [if_neg (by omega)]
  cases h : zeroB (pieceOf zs k) with
  | true =>
    show anyL zs (offP k) 8 = false
    unfold anyL
    rw [List.any_eq_false]
    intro t ht
    have := zeroB_at h t
    rw [pieceOf_get zs k t hk (by rw [hl]; simpa using ht)] at this
    rw [this]
    simp
  | false =>
    show anyL zs (offP k) 8 = true
    unfold anyL
    rw [List.any_eq_true]
    have h' : ¬ ∀ j, j < (pieceOf zs k).length → (pieceOf zs k).getD j 0 = 0 := of_decide_eq_false h
    apply Classical.byContradiction
    intro hn
    apply h'
    intro j hj
    rw [pieceOf_len zs k hk] at hj
    apply Classical.byContradiction
    intro hk2
    rw [pieceOf_get zs k j hk hj] at hk2
    exact hn ⟨j, List.mem_range.2 (by omega), bne_iff_ne.2 hk2⟩
set_option maxRecDepth 100000 in
theorem listR_opt (zs : List Int) (k : Nat) (h0 : 0 < k) (hk : k < 10) : listR zs (offP k) = optP zs k := by
  unfold listR optP
  rw [anyL_piece zs k h0 hk, accL_piece zs k h0 hk]
  cases zeroB (pieceOf zs k) <;> rfl
set_option maxRecDepth 100000 in
theorem accL_fit (zs : List Int) (h : ∀ z ∈ zs, Fit z) (f i : Nat) : ∀ z ∈ accL zs f i, Fit z := by
  intro z hz
  obtain ⟨t, _, rfl⟩ := List.mem_map.1 hz
  rcases Nat.lt_or_ge (f + t) zs.length with hk | hk
  · rw [show zs.getD (f + t) 0 = zs[f + t] by simp [List.getD, List.getElem?_eq_getElem hk]]
    exact h _ (List.getElem_mem hk)
  · rw [getD_out zs _ hk]; unfold Fit; omega

/-- a list that the call made, at or beyond block base. -/
def OwnLst (base : Nat) (w : World) (v : Value) : Option (List Int) → Prop
  | none => v = nilS
  | some l => w.ownsRow base 3 1 v l.length (ints l) ∧ l ≠ [] ∧ ∀ z ∈ l, Fit z
set_option maxRecDepth 100000 in
theorem OwnLst.lst {base : Nat} {w : World} {v : Value} {o : Option (List Int)} (h : OwnLst base w v o) : LstAt w w.heap.size v o := by
  cases o with
  | none => exact h
  | some l =>
    obtain ⟨h1, h2, h3⟩ := h
    obtain ⟨g, cap, e, _, hlt⟩ := h1.form (by cases l <;> simp_all)
    obtain ⟨A, c, rfl, hc⟩ := own_slice h1
    injection e with e1 e2 e3
    subst e1
    exact ⟨_, c, rfl, hc, IntsAt.of_own h1 rfl h3⟩

set_option maxRecDepth 100000 in
set_option maxHeartbeats 4000000 in
theorem rlist_any (A : Option Addr) (n c B : Nat) (zs : List Int) (f : Nat) (w : World) (hr : IntsAt w B A n zs) (hB : B ≤ w.heap.size) (hf : f ≤ 1000) :
    Calls Tryz.prog 44 #[.slice A n c, .int .i64 (f : Int)] w fun e w' => ∃ v, e = .returned v ∧ OwnLst w.heap.size w' v (listR zs f) ∧ Below w.heap.size w w' := by
  have HFT : Hid (∀ z ∈ accL zs f 8, Fit z) := accL_fit zs (IntsAt.fit hr) f 8
  have HAT : Hid (∀ (i : Nat) (w' : World), Below w.heap.size w w' → i < 8 → Calls Tryz.prog 77 #[.slice A n c, .int .i64 ((f : Int) + (i : Int))] w' fun e w'' => e = .returned (.int .i64 (zs.getD (f + i) 0)) ∧ w' = w'') := fun i w' hb hi => by
    have := at_all A n c B zs (f + i) w' (hr.below hb hB) (by omega)
    rwa [show ((f + i : Nat) : Int) = (f : Int) + (i : Int) by omega] at this
  have HLR : Hid (listR zs f = if anyL zs f 8 = true then some (accL zs f 8) else none) := by show _ = _; rfl
  clear hr
  go_enter Tryz.func44, Tryz.ntmps44
  go_wp2
  go_loopw [5, 6, 7] (fun v sm j wr => ∃ i : Nat, i ≤ 8 ∧ j = .int .i64 (i : Int) ∧ sm = .bool (anyL zs f i) ∧ wr.ownsRow w.heap.size 3 1 v (accL zs f i).length (ints (accL zs f i)) ∧ Below w.heap.size w wr) (fun _ _ j _ => 8 - (intOf j).toNat)
  case atStart => exact ⟨0, by omega, rfl, rfl, World.ownsRow_nil _ _ _ _, Below.refl _ _⟩
  case round =>
    obtain ⟨i, hi, rfl, rfl, hown, hb⟩ := hrel
    obtain ⟨A', c', rfl, hc'⟩ := own_slice hown
    have HO := Lib.hid hown
    have HB := Lib.hid hb
    have HNS := Lib.hid (accL_succ zs f i)
    have HSS := Lib.hid (anyL_succ zs f i)
    clear hown hb hc'
    by_cases hlt : i < 8
    · have e1 : decide ((i : Int) < 8) = true := by simp; omega
      have hl1 : (accL zs f i).length ≤ 100 := by rw [accL_len]; omega
      have HC := Lib.hid (fun w' hb => HAT.out i w' hb hlt)
      generalize zs.getD (f + i) 0 = z at *
      generalize anyL zs f i = sm at *
      cases sm with
      | true =>
        go_wp2_with fail
        refine (HC.out _ HB.out).mono ?_
        rintro e w2 ⟨rfl, rfl⟩
        go_wp2_with (at_builtin; refine pushI_law rfl (.tmp 12) (.tmp 18) rfl w.heap.size _ (.slice A' (accL zs f i).length c') (accL zs f i) z rfl rfl HO.out (by omega) HB.out.size ?_; intro v' w3 hown3 hb3)
        go_roundw
        case rel => exact ⟨i + 1, by omega, by go_num, by rw [HSS.out]; rfl, by rw [HNS.out]; exact hown3, HB.out.trans hb3⟩
        case measure => simp [intOf]; omega
      | false =>
        go_wp2_with fail
        refine (HC.out _ HB.out).mono ?_
        rintro e w2 ⟨rfl, rfl⟩
        go_wp2_with (first | (at_builtin; refine pushI_law rfl (.tmp 12) (.tmp 18) rfl w.heap.size _ (.slice A' (accL zs f i).length c') (accL zs f i) z rfl rfl HO.out (by omega) HB.out.size ?_; intro v' w3 hown3 hb3) | (go_at_call 77; refine (HC.out _ (HB.out.trans hb3)).mono ?_; rintro e w4 ⟨rfl, rfl⟩))
        go_roundw
        case rel => exact ⟨i + 1, by omega, by go_num, by rw [HSS.out]; rfl, by rw [HNS.out]; exact hown3, HB.out.trans hb3⟩
        case measure => simp [intOf]; omega
    · obtain rfl : i = 8 := by omega
      rw [show ((8 : Nat) : Int) = 8 from rfl]
      cases hs : anyL zs f 8 with
      | true =>
        rw [hs] at HLR
        have HFIN : Hid (OwnLst w.heap.size wr (.slice A' (accL zs f 8).length c') (listR zs f)) := by
          show OwnLst _ _ _ _
          rw [HLR.out]
          exact ⟨HO.out, (by intro e; have := accL_len zs f 8; rw [e] at this; cases this), HFT.out⟩
        go_wp2
        go_ret
        exact ⟨_, rfl, HFIN.out, HB.out⟩
      | false =>
        rw [hs] at HLR
        have HFIN : Hid (OwnLst w.heap.size wr nilS (listR zs f)) := by
          show OwnLst _ _ _ _
          rw [HLR.out]
          rfl
        go_wp2
        go_ret
        exact ⟨_, rfl, HFIN.out, HB.out⟩

end Go.Proofs.YtppbonjhckakiaaGreat.La

namespace Go.Proofs.YtppbonjhckakiaaGreat.La
open Go.RowKit Go.Shelf

set_option maxRecDepth 100000 in
theorem OwnLst.kept {base : Nat} {w w' : World} {row : Option Nat} {v : Value} {o : Option (List Int)} (h : OwnLst base w v o) (hg : w.grownBy w' row) (hne : ∀ k cs, row = some k → w.heap[k]? ≠ some (.cells cs 3 (0, 0))) : OwnLst base w' v o := by
  cases o with
  | none => exact h
  | some l =>
    obtain ⟨h1, h2, h3⟩ := h
    refine ⟨h1.kept hg ?_, h2, h3⟩
    rcases h1.2 with ⟨rfl, _⟩ | ⟨g, cap, cur, rfl, _, hgb, _⟩
    · exact .inl rfl
    · right
      intro e
      exact hne g _ (by simpa [Value.ownBlock] using e.symm) hgb
set_option maxRecDepth 100000 in
theorem OwnLst.less {base base' : Nat} {w : World} {v : Value} {o : Option (List Int)} (h : OwnLst base w v o) (hb : base' ≤ base) : OwnLst base' w v o := by
  cases o with
  | none => exact h
  | some l =>
    obtain ⟨h1, h2, h3⟩ := h
    refine ⟨⟨h1.1, ?_⟩, h2, h3⟩
    rcases h1.2 with h | ⟨g, cap, cur, e, hgb, r⟩
    · exact .inl h
    · exact .inr ⟨g, cap, cur, e, by omega, r⟩
set_option maxRecDepth 100000 in
theorem OwnLst.below {base C : Nat} {w w' : World} {v : Value} {o : Option (List Int)} (h : OwnLst base w v o) (hb : Below C w w') (hC : w.heap.size ≤ C) : OwnLst base w' v o :=
  h.kept (row := none) ⟨hb.os, hb.tape, hb.output, hb.size, fun k hk _ => hb.block k (by omega)⟩ (fun _ _ e => by cases e)
set_option maxRecDepth 100000 in
theorem OwnLst.form {base : Nat} {w : World} {v : Value} {o : Option (List Int)} (h : OwnLst base w v o) : ∃ A c, v = .slice A (o.getD []).length c := by
  cases o with
  | none => exact ⟨none, 0, h⟩
  | some l =>
    obtain ⟨A, c, e, _⟩ := own_slice h.1
    exact ⟨A, c, e⟩
set_option maxRecDepth 100000 in
/-- 'append(s, l)' of a list, for the walk to take. -/
theorem pushL_law {ops : Array Oper} {rest : List Oper} {o : Oper} {a : Act} {Q : Exit → Act → World → Prop} (hgd : o.guard = none) (s x : Operand)
    (ho : o.op = .call { callee := .builtin .append, args := #[s, x], argTypes := #[22, 22] })
    (base : Nat) (W : World) (v : Value) (us : List Value) (A : Option Addr) (n c : Nat) (hs : a.eval s = v) (hx : a.eval x = .slice (some ⟨W.heap.size, 0, none⟩) 1 1)
    (hown : W.ownsRow base 27 1 v us.length us) (hl : us.length ≤ 1000) (hbase : base ≤ W.heap.size)
    (h : ∀ v' w', w'.ownsRow base 27 1 v' (us ++ [Value.slice A n c]).length (us ++ [Value.slice A n c]) → Below base W w' → (∀ u o, OwnLst base W u o → OwnLst base w' u o) → wpList Tryz.prog ops Q rest (a.put o.dst v') w') :
    wpList Tryz.prog ops Q (o :: rest) a (W.alloc (.cells #[.slice A n c] 27)) := by
  obtain ⟨i0, hi, hz0, hz1, hz2⟩ := info_parts info22
  refine wpList_append_own _ hgd s x 22 ho base 27 i0 _ 1 24 Tryz.underlying22 hi hz0 hz1 hz2 rfl (by decide) v us.length us hs (hown.alloc _) ⟨W.heap.size, 0, none⟩ 1 1 [.slice A n c] hx rfl
    (World.news_of_block (heap_alloc_new W _)) (by simp [Value.oneCell']) (by unfold maxLen; omega) (by omega) (by simp; omega) ?_
  intro v' w' hown' hg _
  refine h v' w' ?_ ?_ ?_
  · rw [List.length_append]; exact hown'
  · exact (((Below.refl base W).alloc hbase _).grown hg (by simp; omega) (fun k hk => (hown.lt k hk).1))
  · intro u o hu
    refine ((hu.below ((Below.refl W.heap.size W).alloc (Nat.le_refl _) _) (Nat.le_refl _)).kept hg (fun k cs e hc => ?_))
    rcases (hown.alloc (.cells #[.slice A n c] 27)).2 with ⟨rfl, _⟩ | ⟨g, cap, cur, rfl, _, hgb, _⟩
    · simp [Value.ownBlock] at e
    · have e' : g = k := by simpa [Value.ownBlock] using e
      subst e'
      rw [hgb] at hc
      simp at hc
/-- the lists that have come. -/
def rowsTo (zs : List Int) (base : Nat) (w : World) (us : List Value) (i : Nat) : Prop := us.length = i ∧ ∀ j, j < i → OwnLst base w (us.getD j nilS) (optP zs (j + 2))
def anyD (zs : List Int) (i : Nat) : Bool := (List.range i).any fun j => (optP zs (j + 2)).isSome
set_option maxRecDepth 100000 in
theorem anyD_succ (zs : List Int) (i : Nat) : anyD zs (i + 1) = (anyD zs i || (optP zs (i + 2)).isSome) := by simp [anyD, List.range_succ]

set_option maxRecDepth 100000 in
set_option maxHeartbeats 4000000 in
theorem rdouble_any (A : Option Addr) (n c B : Nat) (zs : List Int) (w : World) (hr : IntsAt w B A n zs) (hB : B ≤ w.heap.size) :
    Calls Tryz.prog 45 #[.slice A n c] w fun e w' => ∃ A' c', e = .returned (.slice A' (dblOf zs).length c') ∧ ListsAt w' w'.heap.size A' (dblOf zs).length (dblOf zs) ∧ Below w.heap.size w w' := by
  have HLI : Hid (∀ (i : Nat) (w' : World), Below w.heap.size w w' → i < 8 → Calls Tryz.prog 44 #[.slice A n c, .int .i64 (12 + 8 * (i : Int))] w' fun e w'' => ∃ v, e = .returned v ∧ OwnLst w'.heap.size w'' v (optP zs (i + 2)) ∧ Below w'.heap.size w' w'') := fun i w' hb hi => by
    have := rlist_any A n c B zs (offP (i + 2)) w' (hr.below hb hB) (Nat.le_trans hB hb.size) (by have := offP_lt (i + 2) (by omega); omega)
    rw [listR_opt zs (i + 2) (by omega) (by omega)] at this
    rwa [show ((offP (i + 2) : Nat) : Int) = 12 + 8 * (i : Int) by simp [offP]; omega] at this
  clear hr
  go_enter Tryz.func45, Tryz.ntmps45
  go_wp2
  go_loopw [3, 4, 5] (fun v sm j wr => ∃ (i : Nat) (us : List Value), i ≤ 8 ∧ j = .int .i64 (i : Int) ∧ sm = .bool (anyD zs i) ∧ wr.ownsRow w.heap.size 27 1 v us.length us ∧ rowsTo zs w.heap.size wr us i ∧ Below w.heap.size w wr) (fun _ _ j _ => 8 - (intOf j).toNat)
  case atStart => exact ⟨0, [], by omega, rfl, rfl, World.ownsRow_nil _ _ _ _, ⟨rfl, fun _ h => absurd h (Nat.not_lt_zero _)⟩, Below.refl _ _⟩
  case round =>
    obtain ⟨i, us, hi, rfl, rfl, hown, hrows, hb⟩ := hrel
    obtain ⟨A', c', rfl, hc'⟩ := own_slice hown
    have HO := Lib.hid hown
    have HB := Lib.hid hb
    have HRW := Lib.hid hrows
    have HSS := Lib.hid (anyD_succ zs i)
    have hul : us.length = i := hrows.1
    clear hown hb hc' hrows
    by_cases hlt : i < 8
    · have e1 : decide ((i : Int) < 8) = true := by simp; omega
      have HC := Lib.hid (HLI.out i wr HB.out hlt)
      go_wp2_with fail
      refine HC.out.mono ?_
      rintro e w2 ⟨v, rfl, hv, b2⟩
      obtain ⟨Av, cv, rfl⟩ := hv.form
      have HV := Lib.hid (hv.less HB.out.size)
      have HO2 : Hid (w2.ownsRow w.heap.size 27 1 (.slice A' us.length c') us.length us) := by
        show w2.ownsRow _ _ _ _ _ _
        refine HO.out.kept (row := none) ⟨b2.os, b2.tape, b2.output, b2.size, fun k hk _ => b2.block k hk⟩ ?_
        rcases HO.out.2 with ⟨e, _⟩ | ⟨g, cap, cur, e, _⟩
        · exact .inl (by rw [e]; rfl)
        · exact .inr (by rw [e]; simp [Value.ownBlock])
      have HRW2 : Hid (rowsTo zs w.heap.size w2 us i) := ⟨HRW.out.1, fun j hj => (HRW.out.2 j hj).below b2 (Nat.le_refl _)⟩
      have HB2 := Lib.hid (HB.out.trans (b2.mono HB.out.size))
      have HLEN : Hid (((optP zs (i + 2)).getD []).length = if (optP zs (i + 2)).isSome = true then 8 else 0) := by
        show _ = _
        rw [optP_len zs (i + 2) (by omega), show lenP (i + 2) = 8 from lenP_succ _]
        unfold optP
        cases zeroB (pieceOf zs (i + 2)) <;> rfl
      rw [HLEN.out]
      rw [HLEN.out] at HV
      clear hv b2 HC
      generalize anyD zs i = sm at *
      have fin : ∀ (w3 : World), rowsTo zs w.heap.size w3 us i → OwnLst w.heap.size w3 (.slice Av (if (optP zs (i + 2)).isSome = true then 8 else 0) cv) (optP zs (i + 2)) → rowsTo zs w.heap.size w3 (us ++ [.slice Av (if (optP zs (i + 2)).isSome = true then 8 else 0) cv]) (i + 1) := fun w3 h1 h2 => by
        refine ⟨by simp [hul], fun j hj => ?_⟩
        by_cases e : j = i
        · subst e
          have e1 : (us ++ [Value.slice Av (if (optP zs (j + 2)).isSome = true then 8 else 0) cv]).getD j nilS = Value.slice Av (if (optP zs (j + 2)).isSome = true then 8 else 0) cv := by simp [List.getD, ← hul]
          rw [e1]
          exact h2
        · have e1 : (us ++ [Value.slice Av (if (optP zs (i + 2)).isSome = true then 8 else 0) cv]).getD j nilS = us.getD j nilS := by
            simp only [List.getD]
            rw [List.getElem?_append_left (by omega)]
          rw [e1]
          exact h1.2 j (by omega)
      have HFIN := Lib.hid fin
      clear fin
      generalize hbs : (optP zs (i + 2)).isSome = bs at *
      clear hbs HLEN
      cases sm <;> cases bs
      · simp only [Bool.false_eq_true, if_false] at HV HFIN ⊢
        go_wp2_with (at_builtin; refine pushL_law rfl (.tmp 16) (.tmp 18) rfl w.heap.size _ (.slice A' us.length c') us Av 0 cv rfl rfl HO2.out (by omega) HB2.out.size ?_; intro v' w3 hown3 hb3 hk3; have HO3 := Lib.hid hown3; have HB3 := Lib.hid hb3; have HK3 := Lib.hid hk3; clear hown3 hb3 hk3)
        go_roundw
        case rel => exact ⟨i + 1, _, by omega, by go_num, by rw [HSS.out]; rfl, HO3.out, HFIN.out w3 ⟨HRW2.out.1, fun j hj => HK3.out _ _ (HRW2.out.2 j hj)⟩ (HK3.out _ _ HV.out), HB2.out.trans HB3.out⟩
        case measure => simp [intOf]; omega
      · simp only [if_true] at HV HFIN ⊢
        go_wp2_with (at_builtin; refine pushL_law rfl (.tmp 16) (.tmp 18) rfl w.heap.size _ (.slice A' us.length c') us Av 8 cv rfl rfl HO2.out (by omega) HB2.out.size ?_; intro v' w3 hown3 hb3 hk3; have HO3 := Lib.hid hown3; have HB3 := Lib.hid hb3; have HK3 := Lib.hid hk3; clear hown3 hb3 hk3)
        go_roundw
        case rel => exact ⟨i + 1, _, by omega, by go_num, by rw [HSS.out]; rfl, HO3.out, HFIN.out w3 ⟨HRW2.out.1, fun j hj => HK3.out _ _ (HRW2.out.2 j hj)⟩ (HK3.out _ _ HV.out), HB2.out.trans HB3.out⟩
        case measure => simp [intOf]; omega
      · simp only [Bool.false_eq_true, if_false] at HV HFIN ⊢
        go_wp2_with (at_builtin; refine pushL_law rfl (.tmp 16) (.tmp 18) rfl w.heap.size _ (.slice A' us.length c') us Av 0 cv rfl rfl HO2.out (by omega) HB2.out.size ?_; intro v' w3 hown3 hb3 hk3; have HO3 := Lib.hid hown3; have HB3 := Lib.hid hb3; have HK3 := Lib.hid hk3; clear hown3 hb3 hk3)
        go_roundw
        case rel => exact ⟨i + 1, _, by omega, by go_num, by rw [HSS.out]; rfl, HO3.out, HFIN.out w3 ⟨HRW2.out.1, fun j hj => HK3.out _ _ (HRW2.out.2 j hj)⟩ (HK3.out _ _ HV.out), HB2.out.trans HB3.out⟩
        case measure => simp [intOf]; omega
      · simp only [if_true] at HV HFIN ⊢
        go_wp2_with (at_builtin; refine pushL_law rfl (.tmp 16) (.tmp 18) rfl w.heap.size _ (.slice A' us.length c') us Av 8 cv rfl rfl HO2.out (by omega) HB2.out.size ?_; intro v' w3 hown3 hb3 hk3; have HO3 := Lib.hid hown3; have HB3 := Lib.hid hb3; have HK3 := Lib.hid hk3; clear hown3 hb3 hk3)
        go_roundw
        case rel => exact ⟨i + 1, _, by omega, by go_num, by rw [HSS.out]; rfl, HO3.out, HFIN.out w3 ⟨HRW2.out.1, fun j hj => HK3.out _ _ (HRW2.out.2 j hj)⟩ (HK3.out _ _ HV.out), HB2.out.trans HB3.out⟩
        case measure => simp [intOf]; omega
    · obtain rfl : i = 8 := by omega
      rw [show ((8 : Nat) : Int) = 8 from rfl]
      have hany : anyD zs 8 = anyB (fun j => optP zs (j + 2)) := rfl
      have hdl : (dblOf zs).length = if anyB (fun j => optP zs (j + 2)) = true then 8 else 0 := dblL_len _
      rw [hany]
      cases hs : anyB (fun j => optP zs (j + 2)) with
      | true =>
        rw [hs] at hdl
        have HDL : Hid ((dblOf zs).length = 8) := hdl
        have HFIN : Hid (ListsAt wr wr.heap.size A' 8 (dblOf zs)) := by
          refine ⟨HDL.out, fun k hk => ?_⟩
          obtain ⟨g, cap, e, _, hlt⟩ := HO.out.form (by omega)
          injection e with e1 e2 e3
          subst e1
          have hcell := HO.out.cells (g := g) rfl k (us.getD k nilS) (by simp [List.getD, List.getElem?_eq_getElem (show k < us.length by omega)])
          rw [Go.WideShapes.add_plain] at hcell
          refine ⟨g, 0, _, rfl, hlt, hcell, ?_⟩
          rw [show (dblOf zs).getD k none = optP zs (k + 2) from dblL_get _ k hk]
          exact (HRW.out.2 k hk).lst
        clear hs hdl hany
        go_wp2
        go_ret
        exact ⟨A', c', by rw [HDL.out, ← hul]; rfl, by rw [HDL.out]; exact HFIN.out, HB.out⟩
      | false =>
        rw [hs] at hdl
        have HDL : Hid ((dblOf zs).length = 0) := hdl
        have HD0 : Hid (dblOf zs = []) := List.eq_nil_of_length_eq_zero HDL.out
        clear hs hdl hany
        go_wp2
        go_ret
        exact ⟨none, 0, by rw [HD0.out]; rfl, by rw [HD0.out]; exact ListsAt.nil _ _ _, HB.out⟩
end Go.Proofs.YtppbonjhckakiaaGreat.La
