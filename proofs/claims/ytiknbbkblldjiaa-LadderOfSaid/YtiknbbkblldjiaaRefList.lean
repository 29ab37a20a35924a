/-
  WALKS: the reference's List and Direct. Conditions: a place of at most 1000.
-/
import Derived.Test.YtiknbbkblldjiaaRefMap
import Derived.Test.YtiknbbkblldjiaaBack
namespace Go.Proofs.Ytiknbbkblldjiaa
open Go.RowKit Go.Shelf

def accL (zs : List Int) (f i : Nat) : List Int := (List.range i).map fun t => zs.getD (f + t) 0
theorem accL_succ (zs : List Int) (f i : Nat) : accL zs f (i + 1) = accL zs f i ++ [zs.getD (f + i) 0] := by simp [accL, List.range_succ]
theorem accL_len (zs : List Int) (f i : Nat) : (accL zs f i).length = i := by simp [accL]
def anyL (zs : List Int) (f q : Nat) : Bool := (List.range q).any fun t => zs.getD (f + t) 0 != 0
theorem anyL_succ (zs : List Int) (f q : Nat) : anyL zs f (q + 1) = (anyL zs f q || (zs.getD (f + q) 0 != 0)) := by simp [anyL, List.range_succ]
def listR (zs : List Int) (f : Nat) : Option (List Int) := if anyL zs f 8 = true then some (accL zs f 8) else none
theorem accL_piece (zs : List Int) (k : Nat) (h0 : 0 < k) (hk : k < 10) : accL zs (offP k) 8 = pieceOf zs k := by
  have hl : lenP k = 8 := by unfold lenP; rw [if_neg (by omega)]
  refine getD_ext (by rw [accL_len, pieceOf_len zs k hk, hl]) (fun j hj => ?_)
  rw [accL_len] at hj
  rw [pieceOf_get zs k j hk (by omega)]
  simp [accL, List.getD, hj]
theorem anyL_piece (zs : List Int) (k : Nat) (h0 : 0 < k) (hk : k < 10) : anyL zs (offP k) 8 = !zeroB (pieceOf zs k) := by
  have hl : lenP k = 8 := by unfold lenP; rw [if_neg (by omega)]
  cases h : zeroB (pieceOf zs k) with
  | true =>
    show anyL zs (offP k) 8 = false
    unfold anyL
    rw [List.any_eq_false]
    intro t ht
    have := zeroB_at h t
    rw [pieceOf_get zs k t hk (by rw [hl]; simpa using ht)] at this
    rw [this]
    simp
  | false =>
    show anyL zs (offP k) 8 = true
    unfold anyL
    rw [List.any_eq_true]
    have h' : ¬ ∀ j, j < (pieceOf zs k).length → (pieceOf zs k).getD j 0 = 0 := of_decide_eq_false h
    apply Classical.byContradiction
    intro hn
    apply h'
    intro j hj
    rw [pieceOf_len zs k hk] at hj
    apply Classical.byContradiction
    intro hk2
    rw [pieceOf_get zs k j hk hj] at hk2
    exact hn ⟨j, List.mem_range.2 (by omega), bne_iff_ne.2 hk2⟩
theorem listR_opt (zs : List Int) (k : Nat) (h0 : 0 < k) (hk : k < 10) : listR zs (offP k) = optP zs k := by
  unfold listR optP
  rw [anyL_piece zs k h0 hk, accL_piece zs k h0 hk]
  cases zeroB (pieceOf zs k) <;> rfl
theorem accL_fit (zs : List Int) (h : ∀ z ∈ zs, Fit z) (f i : Nat) : ∀ z ∈ accL zs f i, Fit z := by
  intro z hz
  obtain ⟨t, _, rfl⟩ := List.mem_map.1 hz
  rcases Nat.lt_or_ge (f + t) zs.length with hk | hk
  · rw [show zs.getD (f + t) 0 = zs[f + t] by simp [List.getD, List.getElem?_eq_getElem hk]]
    exact h _ (List.getElem_mem hk)
  · rw [getD_out zs _ hk]; unfold Fit; omega

/-- a list that the call made, at or beyond block base. -/
def OwnLst (base : Nat) (w : World) (v : Value) : Option (List Int) → Prop
  | none => v = nilS
  | some l => w.ownsRow base 3 1 v l.length (ints l) ∧ l ≠ [] ∧ ∀ z ∈ l, Fit z
theorem OwnLst.lst {base : Nat} {w : World} {v : Value} {o : Option (List Int)} (h : OwnLst base w v o) : LstAt w w.heap.size v o := by
  cases o with
  | none => exact h
  | some l =>
    obtain ⟨h1, h2, h3⟩ := h
    obtain ⟨g, cap, e, _, hlt⟩ := h1.form (by cases l <;> simp_all)
    obtain ⟨A, c, rfl, hc⟩ := own_slice h1
    injection e with e1 e2 e3
    subst e1
    exact ⟨_, c, rfl, hc, IntsAt.of_own h1 rfl h3⟩

set_option maxHeartbeats 4000000 in
theorem rlist_any (A : Option Addr) (n c B : Nat) (zs : List Int) (f : Nat) (w : World) (hr : IntsAt w B A n zs) (hB : B ≤ w.heap.size) (hf : f ≤ 1000) :
    Calls Try.prog 14 #[.slice A n c, .int .i64 (f : Int)] w fun e w' => ∃ v, e = .returned v ∧ OwnLst w.heap.size w' v (listR zs f) ∧ Below w.heap.size w w' := by
  have HFT : Hid (∀ z ∈ accL zs f 8, Fit z) := accL_fit zs hr.fit f 8
  have HAT : Hid (∀ (i : Nat) (w' : World), Below w.heap.size w w' → i < 8 → Calls Try.prog 27 #[.slice A n c, .int .i64 ((f : Int) + (i : Int))] w' fun e w'' => e = .returned (.int .i64 (zs.getD (f + i) 0)) ∧ w' = w'') := fun i w' hb hi => by
    have := at_all A n c B zs (f + i) w' (hr.below hb hB) (by omega)
    rwa [show ((f + i : Nat) : Int) = (f : Int) + (i : Int) by omega] at this
  have HLR : Hid (listR zs f = if anyL zs f 8 = true then some (accL zs f 8) else none) := by show _ = _; rfl
  clear hr
  go_enter Try.func14, Try.ntmps14
  go_wp2
  go_loopw [5, 6, 7] (fun v sm j wr => ∃ i : Nat, i ≤ 8 ∧ j = .int .i64 (i : Int) ∧ sm = .bool (anyL zs f i) ∧ wr.ownsRow w.heap.size 3 1 v (accL zs f i).length (ints (accL zs f i)) ∧ Below w.heap.size w wr) (fun _ _ j _ => 8 - (intOf j).toNat)
  case atStart => exact ⟨0, by omega, rfl, rfl, World.ownsRow_nil _ _ _ _, Below.refl _ _⟩
  case round =>
    obtain ⟨i, hi, rfl, rfl, hown, hb⟩ := hrel
    obtain ⟨A', c', rfl, hc'⟩ := own_slice hown
    have HO := Lib.hid hown
    have HB := Lib.hid hb
    have HNS := Lib.hid (accL_succ zs f i)
    have HSS := Lib.hid (anyL_succ zs f i)
    clear hown hb hc'
    by_cases hlt : i < 8
    · have e1 : decide ((i : Int) < 8) = true := by simp; omega
      have hl1 : (accL zs f i).length ≤ 100 := by rw [accL_len]; omega
      have HC := Lib.hid (fun w' hb => HAT.out i w' hb hlt)
      generalize zs.getD (f + i) 0 = z at *
      generalize anyL zs f i = sm at *
      cases sm with
      | true =>
        go_wp2_with fail
        refine (HC.out _ HB.out).mono ?_
        rintro e w2 ⟨rfl, rfl⟩
        go_wp2_with (at_builtin; refine pushI_law rfl (.tmp 12) (.tmp 18) rfl w.heap.size _ (.slice A' (accL zs f i).length c') (accL zs f i) z rfl rfl HO.out (by omega) HB.out.size ?_; intro v' w3 hown3 hb3)
        go_roundw
        case rel => exact ⟨i + 1, by omega, by go_num, by rw [HSS.out]; rfl, by rw [HNS.out]; exact hown3, HB.out.trans hb3⟩
        case measure => simp [intOf]; omega
      | false =>
        go_wp2_with fail
        refine (HC.out _ HB.out).mono ?_
        rintro e w2 ⟨rfl, rfl⟩
        go_wp2_with (first | (at_builtin; refine pushI_law rfl (.tmp 12) (.tmp 18) rfl w.heap.size _ (.slice A' (accL zs f i).length c') (accL zs f i) z rfl rfl HO.out (by omega) HB.out.size ?_; intro v' w3 hown3 hb3) | (go_at_call 27; refine (HC.out _ (HB.out.trans hb3)).mono ?_; rintro e w4 ⟨rfl, rfl⟩))
        go_roundw
        case rel => exact ⟨i + 1, by omega, by go_num, by rw [HSS.out]; rfl, by rw [HNS.out]; exact hown3, HB.out.trans hb3⟩
        case measure => simp [intOf]; omega
    · obtain rfl : i = 8 := by omega
      rw [show ((8 : Nat) : Int) = 8 from rfl]
      cases hs : anyL zs f 8 with
      | true =>
        rw [hs] at HLR
        have HFIN : Hid (OwnLst w.heap.size wr (.slice A' (accL zs f 8).length c') (listR zs f)) := by
          show OwnLst _ _ _ _
          rw [HLR.out]
          exact ⟨HO.out, (by intro e; have := accL_len zs f 8; rw [e] at this; cases this), HFT.out⟩
        go_wp2
        go_ret
        exact ⟨_, rfl, HFIN.out, HB.out⟩
      | false =>
        rw [hs] at HLR
        have HFIN : Hid (OwnLst w.heap.size wr nilS (listR zs f)) := by
          show OwnLst _ _ _ _
          rw [HLR.out]
          rfl
        go_wp2
        go_ret
        exact ⟨_, rfl, HFIN.out, HB.out⟩

set_option maxHeartbeats 2000000 in
theorem rdirect_any (A : Option Addr) (n c B : Nat) (zs : List Int) (w : World) (hr : IntsAt w B A n zs) :
    Calls Try.prog 13 #[.slice A n c] w fun e w' => ∃ g, e = .returned (.slice (some ⟨g, 0, none⟩) 4 4) ∧ IntsAt w' w'.heap.size (some ⟨g, 0, none⟩) 4 (pieceOf zs 0) ∧ Below w.heap.size w w' := by
  have H0 := Lib.hid (at_all A n c B zs 0 w hr (by omega))
  have H1 := Lib.hid (at_all A n c B zs 1 w hr (by omega))
  have H2 := Lib.hid (at_all A n c B zs 2 w hr (by omega))
  have H3 := Lib.hid (at_all A n c B zs 3 w hr (by omega))
  have HP : Hid (pieceOf zs 0 = [zs.getD 0 0, zs.getD 1 0, zs.getD 2 0, zs.getD 3 0]) := by
    show _ = _
    refine getD_ext (by rw [pieceOf_len zs 0 (by omega)]; rfl) (fun j hj => ?_)
    rw [pieceOf_len zs 0 (by omega)] at hj
    rw [pieceOf_get zs 0 j (by omega) hj]
    have hj4 : j < 4 := by simpa [lenP] using hj
    rcases j with _ | _ | _ | _ | j
    · rfl
    · rfl
    · rfl
    · rfl
    · omega
  have HF := Lib.hid (pieceOf_fit zs hr.fit 0)
  rw [HP.out] at HF ⊢
  clear hr HP
  rw [show ((0 : Nat) : Int) = 0 from rfl] at H0
  rw [show ((1 : Nat) : Int) = 1 from rfl] at H1
  rw [show ((2 : Nat) : Int) = 2 from rfl] at H2
  rw [show ((3 : Nat) : Int) = 3 from rfl] at H3
  generalize zs.getD 0 0 = z0 at *
  generalize zs.getD 1 0 = z1 at *
  generalize zs.getD 2 0 = z2 at *
  generalize zs.getD 3 0 = z3 at *
  go_enter Try.func13, Try.ntmps13
  go_wp2_with fail
  refine H0.out.mono ?_
  rintro e w1 ⟨rfl, rfl⟩
  go_wp2_with fail
  refine H1.out.mono ?_
  rintro e w1 ⟨rfl, rfl⟩
  go_wp2_with fail
  refine H2.out.mono ?_
  rintro e w1 ⟨rfl, rfl⟩
  go_wp2_with fail
  refine H3.out.mono ?_
  rintro e w1 ⟨rfl, rfl⟩
  go_wp2
  go_ret
  refine ⟨w.heap.size, rfl, ?_, (Below.refl _ w).alloc (Nat.le_refl _) _⟩
  have := (IntRow.new w [z0, z1, z2, z3])
  exact this.ints HF.out this.lt
end Go.Proofs.Ytiknbbkblldjiaa
