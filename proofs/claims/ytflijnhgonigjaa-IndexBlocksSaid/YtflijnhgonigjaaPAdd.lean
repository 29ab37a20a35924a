/-
  WALK: Add. Conditions: at most 10000 pages, at most 100000 entries in all.
-/
import Derived.Test.YtflijnhgonigjaaPSplit
import Derived.Test.YtflijnhgonigjaaPPos
import Derived.Test.YtflijnhgonigjaaPConcat
set_option linter.unusedVariables false
namespace Go.Proofs.Ytflijnhgonigjaa
open Go.RowKit

def RetAP (w : World) (r : Pg × Int) (e : Ending) (w' : World) : Prop :=
  ∃ A c, e = .returned (.tuple #[.slice A r.1.length c, .int .i64 r.2]) ∧ r.1.length ≤ c ∧ PgsAt w' w'.heap.size A r.1.length r.1 ∧ Below w.heap.size w w'
theorem RetAP.err (w : World) (z : Int) {w' : World} (hb : Below w.heap.size w w') : RetAP w ([], z) (.returned (.tuple #[.slice none 0 0, .int .i64 z])) w' := ⟨none, 0, rfl, Nat.le_refl _, PgsAt.nil _ _ _, hb⟩
theorem flat_ge (p : Pg) {l : List En} (h : l ∈ p) : l.length ≤ p.flatten.length := by
  exact (List.sublist_flatten_of_mem h).length_le

section
variable {p : Pg} {s : ByteArray} {n : Int}
theorem addP_1 (h : rightP p = false) : addP p s n = ([], 1) := by unfold addP; rw [if_neg]; simp [h]
theorem addP_2 (h : nodeB n = false) : addP p s n = ([], 1) := by unfold addP; rw [if_neg]; simp [h]
theorem addP_3 (h : rightP p = true) (hn : nodeB n = true) (hs : rightB s = false) : addP p s n = ([], 4) := by unfold addP; rw [if_pos ⟨h, hn⟩, if_neg]; simp [hs]
theorem addP_4 (h : rightP p = true) (hn : nodeB n = true) (hs : rightB s = true) (hh : hasL p.flatten s = true) : addP p s n = ([], 6) := by unfold addP; rw [if_pos ⟨h, hn⟩, if_pos hs, if_pos hh]
theorem addP_5 (h : rightP p = true) (hn : nodeB n = true) (hs : rightB s = true) (hh : hasL p.flatten s = false) (hl : p.flatten.length = 160) : addP p s n = ([], 12) := by
  unfold addP; rw [if_pos ⟨h, hn⟩, if_pos hs, hh, if_neg (by decide), if_pos hl]
theorem addP_6 (h : rightP p = true) (hn : nodeB n = true) (hs : rightB s = true) (hh : hasL p.flatten s = false) (hl : p.flatten.length ≠ 160) (hp : p ≠ []) :
    addP p s n = (putP p (atP p s) (putL (p.getD (atP p s) []) (kL (p.getD (atP p s) []) s) ⟨s, n⟩), 0) := by
  unfold addP; rw [if_pos ⟨h, hn⟩, if_pos hs, hh, if_neg (by decide), if_neg hl, if_neg hp]
end
theorem addP_nil {s : ByteArray} {n : Int} (hn : nodeB n = true) (hs : rightB s = true) : addP [] s n = ([[⟨s, n⟩]], 0) := by
  unfold addP; rw [if_pos ⟨rightP_nil, hn⟩, if_pos hs]; rfl

set_option maxRecDepth 100000 in
set_option maxHeartbeats 4000000 in
theorem add_err (A : Option Addr) (n c B : Nat) (p : Pg) (s : ByteArray) (z : Int) (w : World) (hA : PgsAt w B A n p) (hB : B ≤ w.heap.size) (hn : n ≤ 10000) (hm : p.flatten.length ≤ 100000)
    (hno : ¬ (rightP p = true ∧ nodeB z = true ∧ rightB s = true ∧ hasL p.flatten s = false ∧ p.flatten.length ≠ 160)) :
    Calls Try.prog 20 #[.slice A n c, .string s, .int .i64 z] w (RetAP w (addP p s z)) := by
  have HR := Lib.hid (iright_any A n c B p w hA hB (by omega) (fun l hl => Nat.le_trans (flat_ge p hl) hm))
  have HNS := Lib.hid (fun W => right_any s W)
  have HND := Lib.hid (fun W => isNode_any z W)
  cases hr : rightP p with
  | false =>
    have HP := Lib.hid (addP_1 (s := s) (n := z) hr)
    rw [hr] at HR
    clear hr hA hno
    rw [HP.out]
    go_enter Try.func20, Try.ntmps20
    go_wp2_with fail
    refine HR.out.mono ?_
    rintro e w1 ⟨rfl, b1⟩
    go_wp2
    go_ret2
    exact RetAP.err w 1 b1
  | true =>
    cases hnz : nodeB z with
    | false =>
      have HP := Lib.hid (addP_2 (p := p) (s := s) hnz)
      rw [hr] at HR
      rw [hnz] at HND
      clear hr hA hno hnz
      rw [HP.out]
      go_enter Try.func20, Try.ntmps20
      go_wp2_with fail
      refine HR.out.mono ?_
      rintro e w1 ⟨rfl, b1⟩
      go_wp2_with fail
      refine (HND.out _).mono ?_
      rintro e w2 ⟨rfl, rfl⟩
      go_wp2
      go_ret2
      exact RetAP.err w 1 b1
    | true =>
      cases hs : rightB s with
      | false =>
        have HP := Lib.hid (addP_3 hr hnz hs)
        rw [hr] at HR
        rw [hnz] at HND
        rw [hs] at HNS
        clear hr hA hno hnz hs
        rw [HP.out]
        go_enter Try.func20, Try.ntmps20
        go_wp2_with fail
        refine HR.out.mono ?_
        rintro e w1 ⟨rfl, b1⟩
        go_wp2_with fail
        refine (HND.out _).mono ?_
        rintro e w2 ⟨rfl, rfl⟩
        go_wp2_with fail
        refine (HNS.out _).mono ?_
        rintro e w3 ⟨rfl, b3⟩
        go_wp2
        go_ret2
        exact RetAP.err w 4 (b1.trans (b3.mono b1.size))
      | true =>
        have hp : p ≠ [] := by
          rintro rfl
          exact hno ⟨hr, hnz, hs, rfl, by simp⟩
        have HPL := Lib.hid (fun W (hW : Below w.heap.size w W) => place_any A n c B p s W (hA.below hW hB) (Nat.le_trans hB hW.size) (by omega) hr hp)
        have HAL := Lib.hid (fun W (hW : Below w.heap.size w W) => all_any A n c B p W (hA.below hW hB) (Nat.le_trans hB hW.size) (by omega) hm)
        have HFT := Lib.hid hA.fit
        cases hh : hasL p.flatten s with
        | true =>
          have HP := Lib.hid (addP_4 hr hnz hs hh)
          rw [hr] at HR
          rw [hnz] at HND
          rw [hs] at HNS
          rw [hh] at HPL
          clear hr hA hno hnz hs hh HAL
          rw [HP.out]
          generalize kL (p.getD (atP p s) []) s = k at *
          generalize atP p s = at0 at *
          go_enter Try.func20, Try.ntmps20
          go_wp2_with fail
          refine HR.out.mono ?_
          rintro e w1 ⟨rfl, b1⟩
          go_wp2_with fail
          refine (HND.out _).mono ?_
          rintro e w2 ⟨rfl, rfl⟩
          go_wp2_with fail
          refine (HNS.out _).mono ?_
          rintro e w3 ⟨rfl, b3⟩
          have B3 := Lib.hid (b1.trans (b3.mono b1.size))
          clear b1 b3
          go_wp2_with fail
          refine (HPL.out w3 B3.out).mono ?_
          rintro e w4 ⟨rfl, b4⟩
          go_wp2
          go_ret2
          exact RetAP.err w 6 (B3.out.trans (b4.mono B3.out.size))
        | false =>
          have hl : p.flatten.length = 160 := by
            rcases Nat.decEq p.flatten.length 160 with h | h
            · exact absurd ⟨hr, hnz, hs, hh, h⟩ hno
            · exact h
          have HP := Lib.hid (addP_5 hr hnz hs hh hl)
          have HLL := Lib.hid hl
          rw [hr] at HR
          rw [hnz] at HND
          rw [hs] at HNS
          rw [hh] at HPL
          clear hr hA hno hnz hs hh hl
          rw [HP.out]
          generalize kL (p.getD (atP p s) []) s = k at *
          generalize atP p s = at0 at *
          generalize p.flatten = fl at *
          go_enter Try.func20, Try.ntmps20
          go_wp2_with fail
          refine HR.out.mono ?_
          rintro e w1 ⟨rfl, b1⟩
          go_wp2_with fail
          refine (HND.out _).mono ?_
          rintro e w2 ⟨rfl, rfl⟩
          go_wp2_with fail
          refine (HNS.out _).mono ?_
          rintro e w3 ⟨rfl, b3⟩
          have B3 := Lib.hid (b1.trans (b3.mono b1.size))
          clear b1 b3
          go_wp2_with fail
          refine (HPL.out w3 B3.out).mono ?_
          rintro e w4 ⟨rfl, b4⟩
          have B4 := Lib.hid (B3.out.trans (b4.mono B3.out.size))
          clear b4
          go_wp2_with fail
          refine (HAL.out w4 B4.out).mono ?_
          intro e w5 hr5
          obtain ⟨A5, c5, rfl, -, -, b5⟩ := hr5.ens HFT.out
          rw [HLL.out]
          go_wp2
          go_ret2
          exact RetAP.err w 12 (B4.out.trans (b5.mono B4.out.size))

theorem En.fitOf {s : ByteArray} {z : Int} (hs : s.size ≤ 140737488355328) (hz : nodeB z = true) : (⟨s, z⟩ : En).fit := by
  rw [nodeB_iff] at hz
  exact ⟨hs, by show Fit z; constructor <;> omega⟩
theorem rightB_size {s : ByteArray} (h : rightB s = true) : s.size ≤ 11 := by
  have := rightL_len h
  simpa using this.2

theorem PvAt.set {w : World} {B : Nat} {vs : List Value} {p : Pg} {x : Value} {l : List En} (h : PvAt w B vs p) (hx : SlX w B x l) (i : Nat) : PvAt w B (vs.set i x) (p.set i l) := by
  refine ⟨by rw [List.length_set, List.length_set, h.1], fun k hk => ?_⟩
  rw [List.length_set] at hk
  by_cases e : i = k
  · subst e
    rw [List.getElem?_set_self (by rw [h.1]; exact hk)]
    have : (p.set i l).getD i [] = l := by simp [List.getD, hk]
    rw [this]
    exact ⟨x, rfl, hx⟩
  · have : (p.set i l).getD k [] = p.getD k [] := by simp [List.getD, List.getElem?_set_ne e]
    rw [List.getElem?_set_ne e, this]
    exact h.2 k hk
/-- a page stored in a row of pages of the call's own. -/
theorem store_page {w8 w9 : World} {G0 N i c9 : Nat} {p : Pg} {vs : List Value} {l' : List En} (hov : w8.ownsRow G0 27 1 (rowV G0 p.length) p.length vs) (htv : TightV w8 (G0 + 1) vs p) (hf : ∀ l ∈ p, ∀ e ∈ l, e.fit) (hf' : ∀ e ∈ l', e.fit)
    (hb : Below w8.heap.size w8 w9) (hN : w8.heap.size ≤ N) (hN9 : N < w9.heap.size) (hcl : CellsAt w9 N 0 (ensCells l')) (hc : l'.length ≤ c9) :
    CellsAt (w9.setCell ⟨G0, i, none⟩ (.slice (some ⟨N, 0, none⟩) l'.length c9)) G0 0 (vs.set i (.slice (some ⟨N, 0, none⟩) l'.length c9)) ∧
    PvAt (w9.setCell ⟨G0, i, none⟩ (.slice (some ⟨N, 0, none⟩) l'.length c9)) (w9.setCell ⟨G0, i, none⟩ (.slice (some ⟨N, 0, none⟩) l'.length c9)).heap.size (vs.set i (.slice (some ⟨N, 0, none⟩) l'.length c9)) (p.set i l') ∧
    G0 < (w9.setCell ⟨G0, i, none⟩ (.slice (some ⟨N, 0, none⟩) l'.length c9)).heap.size := by
  have hG := (hov.lt G0 rfl).2
  have hov9 := own_below hov hb (Nat.le_refl _)
  obtain ⟨s1, s2⟩ := hov9.stored i (.slice (some ⟨N, 0, none⟩) l'.length c9)
  have ht := (htv.below hb).kept s2 (fun g hg => by injection hg with hg; omega)
  have hsz := s2.size
  have hclW := CellsAt.keep (w' := w9.setCell ⟨G0, i, none⟩ (.slice (some ⟨N, 0, none⟩) l'.length c9)) hcl (fun j => s2.cell_far ⟨N, j, none⟩ (by show N < _; omega) (fun e => by
    have e2 : N = G0 := by injection e
    omega))
  have hNW : N < (w9.setCell ⟨G0, i, none⟩ (.slice (some ⟨N, 0, none⟩) l'.length c9)).heap.size := Nat.lt_of_lt_of_le hN9 hsz
  exact ⟨CellsAt.of_own s1, (ht.pv hf).set ⟨_, _, rfl, hc, ens_cells hclW hNW hf'⟩ i, Nat.lt_of_lt_of_le hG (Nat.le_trans hN (Nat.le_of_lt hNW))⟩
theorem RetIns.len {w : World} {l : List En} {k : Nat} {x : En} {e : Ending} {w' : World} (h : RetIns w l k x e w') {m : Nat} (hm : (putL l k x).length = m) (hk : k ≤ l.length) :
    ∃ c, e = .returned (.slice (some ⟨w.heap.size, 0, none⟩) m c) ∧ m ≤ c ∧ CellsAt w' w.heap.size 0 (ensCells (putL l k x)) ∧ w.heap.size < w'.heap.size ∧ Below w.heap.size w w' := by
  obtain ⟨c, rfl, h1, h2, h3, h4⟩ := h
  rw [putL_len l hk] at hm
  subst hm
  exact ⟨c, rfl, h1, h2, h3, h4⟩
theorem putP_set {p : Pg} {i : Nat} (hi : i < p.length) {l : List En} (h : l.length ≠ 10) : p.set i l = putP p i l := by unfold putP; rw [if_neg h, set_split hi]
theorem putP_split {p : Pg} {i : Nat} (hi : i < p.length) {l : List En} (h : l.length = 10) : (p.set i l).take i ++ (((p.set i l).getD i []).take 5 :: ((p.set i l).getD i []).drop 5 :: (p.set i l).drop (i + 1)) = putP p i l := by
  unfold putP
  rw [if_pos h]
  have e1 : (p.set i l).take i = p.take i := by rw [set_split hi, List.take_left' (by rw [List.length_take]; omega)]
  have e2 : (p.set i l).drop (i + 1) = p.drop (i + 1) := by
    rw [set_split hi, show p.take i ++ l :: p.drop (i + 1) = (p.take i ++ [l]) ++ p.drop (i + 1) by simp, List.drop_left' (by rw [List.length_append, List.length_take]; simp; omega)]
  have e3 : (p.set i l).getD i [] = l := by simp [List.getD, hi]
  rw [e1, e2, e3]
theorem insert_any (g vb vc k : Nat) (l : List En) (x : En) (w : World) (hl : l.length ≤ 100000) (hk : k ≤ l.length) (hcs : CellsAt w g 0 (ensCells l)) (hvs : CellsAt w vb 0 (enCells x)) :
    Calls Try.prog 43 #[rowV g l.length, .int .i64 k, .slice (some ⟨vb, 0, none⟩) 1 vc] w (RetIns w l k x) := by
  rcases Nat.lt_or_ge k l.length with h | h
  · exact insert_mid g vb vc k l x w hl h hcs hvs
  · obtain rfl : k = l.length := by omega
    exact insert_end g vb vc l x w hl hcs hvs
theorem one_page {w w8 : World} {s : ByteArray} {z : Int} (hf : (⟨s, z⟩ : En).fit) (hb : Below w.heap.size w w8) :
    RetAP w ([[⟨s, z⟩]], 0) (.returned (.tuple #[.slice (some ⟨w8.heap.size + 1, 0, none⟩) 1 1, .int .i64 0])) ((w8.alloc (.cells #[.string s, .int .i64 z] 47)).alloc (.cells #[.slice (some ⟨w8.heap.size, 0, none⟩) 1 1] 27)) := by
  obtain ⟨W9, h9⟩ : ∃ W9, W9 = w8.alloc (.cells #[.string s, .int .i64 z] 47) := ⟨_, rfl⟩
  have hs9 : W9.heap.size = w8.heap.size + 1 := by rw [h9]; simp
  have hb9 : Below w8.heap.size w8 W9 := by rw [h9]; exact (Below.refl _ _).alloc (Nat.le_refl _) _
  have hc9 : CellsAt W9 w8.heap.size 0 (ensCells [⟨s, z⟩]) := fun j u hj => by
    rw [Nat.zero_add, h9]
    exact cell_new w8 _ 47 j (by rw [List.getElem?_toArray]; exact hj)
  have hE9 := ens_cells hc9 (by omega) (fun e he => by
    rw [List.mem_singleton] at he
    rw [he]; exact hf)
  rw [← h9]
  have hb10 : Below W9.heap.size W9 (W9.alloc (.cells #[.slice (some ⟨w8.heap.size, 0, none⟩) 1 1] 27)) := (Below.refl _ _).alloc (Nat.le_refl _) _
  have hc10 : CellsAt (W9.alloc (.cells #[.slice (some ⟨w8.heap.size, 0, none⟩) 1 1] 27)) (w8.heap.size + 1) 0 [.slice (some ⟨w8.heap.size, 0, none⟩) 1 1] := fun j u hj => by
    rw [Nat.zero_add, ← hs9]
    exact cell_new W9 _ 27 j (by rw [List.getElem?_toArray]; exact hj)
  have hp : PvAt W9 W9.heap.size [.slice (some ⟨w8.heap.size, 0, none⟩) 1 1] [[⟨s, z⟩]] := PvAt.cons ⟨_, 1, rfl, Nat.le_refl _, hE9⟩ (PvAt.nil _ _)
  exact ⟨_, 1, rfl, Nat.le_refl _, (hp.below hb10 (Nat.le_refl _)).pgs hc10 (by simp; omega), (hb.trans (hb9.mono hb.size)).trans (hb10.mono (by rw [hs9]; have := hb.size; omega))⟩

set_option maxRecDepth 100000 in
set_option maxHeartbeats 4000000 in
theorem add_nil (A : Option Addr) (c B : Nat) (s : ByteArray) (z : Int) (w : World) (hB : B ≤ w.heap.size) (hnz : nodeB z = true) (hs : rightB s = true) :
    Calls Try.prog 20 #[.slice A 0 c, .string s, .int .i64 z] w (RetAP w ([[⟨s, z⟩]], 0)) := by
  have hA : PgsAt w B A 0 [] := PgsAt.nil _ _ _
  have HR := Lib.hid (iright_any A 0 c B [] w hA hB (by omega) (fun l hl => by simp at hl))
  have HNS := Lib.hid (fun W => right_any s W)
  have HND := Lib.hid (fun W => isNode_any z W)
  have HAL := Lib.hid (fun W (hW : Below w.heap.size w W) => all_any A 0 c B [] W (hA.below hW hB) (Nat.le_trans hB hW.size) (by omega) (by simp))
  have HSZ := Lib.hid (rightB_size hs)
  have HFIT := Lib.hid (En.fitOf (s := s) (z := z) (by have := rightB_size hs; omega) hnz)
  have HCP := Lib.hid (fun W (hW : Below w.heap.size w W) => cloneP_any A 0 c B [] W (hA.below hW hB) (Nat.le_trans hB hW.size) (by omega) (fun l hl => by simp at hl))
  rw [rightP_nil] at HR
  rw [hnz] at HND
  rw [hs] at HNS
  rw [show ([] : Pg).flatten = [] from rfl] at HAL
  clear hA hnz hs
  go_enter Try.func20, Try.ntmps20
  go_wp2_with fail
  refine HR.out.mono ?_
  rintro e w1 ⟨rfl, b1⟩
  go_wp2_with fail
  refine (HND.out _).mono ?_
  rintro e w2 ⟨rfl, rfl⟩
  go_wp2_with fail
  refine (HNS.out _).mono ?_
  rintro e w3 ⟨rfl, b3⟩
  have B3 := Lib.hid (b1.trans (b3.mono b1.size))
  clear b1 b3
  go_wp2_with fail
  refine (place_nil A c s w3).mono ?_
  rintro e w4 ⟨rfl, b4⟩
  have B4 := Lib.hid (B3.out.trans (b4.mono B3.out.size))
  clear b4
  go_wp2_with fail
  refine (HAL.out w4 B4.out).mono ?_
  intro e w5 hr5
  obtain ⟨A5, c5, rfl, -, -, b5⟩ := hr5.ens (fun e he => by simp at he)
  have B5 := Lib.hid (B4.out.trans (b5.mono B4.out.size))
  clear b5 hr5
  rw [show ([] : List En).length = 0 from rfl]
  go_wp2_with fail
  refine (clone_any s w5 (by have := HSZ.out; omega)).mono ?_
  rintro e w6 ⟨rfl, b6⟩
  have B6 := Lib.hid (B5.out.trans (b6.mono B5.out.size))
  clear b6
  have B7 : Hid (Below w.heap.size w (w6.alloc (.cells #[.string s, .int .i64 z] 47))) := B6.out.alloc B6.out.size _
  have e0 : (w6.alloc (.cells #[.string s, .int .i64 z] 47)).cell? ⟨w6.heap.size, 0, none⟩ = some (.string s) := cell_new w6 _ 47 0 rfl
  have e1 : (w6.alloc (.cells #[.string s, .int .i64 z] 47)).cell? ⟨w6.heap.size, 1, none⟩ = some (.int .i64 z) := cell_new w6 _ 47 1 rfl
  have HE0 := Lib.hid e0
  have HE1 := Lib.hid e1
  clear e0 e1
  go_wp2_with fail
  refine (HCP.out _ B7.out).mono ?_
  rintro e w8 ⟨vs, rfl, -, -, b8⟩
  have e0 := bcell b8 HE0.out (by simp)
  have e1 := bcell b8 HE1.out (by simp)
  have B8 := Lib.hid (B7.out.trans (b8.mono B7.out.size))
  clear b8
  rw [show ([] : Pg).length = 0 from rfl]
  go_wp2
  go_ret2
  exact one_page HFIT.out B8.out

set_option maxRecDepth 100000 in
set_option maxHeartbeats 8000000 in
theorem add_some (A : Option Addr) (n c B : Nat) (p : Pg) (s : ByteArray) (z : Int) (w : World) (hA : PgsAt w B A n p) (hB : B ≤ w.heap.size) (hn : n ≤ 10000) (hm : p.flatten.length ≤ 100000)
    (hr : rightP p = true) (hnz : nodeB z = true) (hs : rightB s = true) (hh : hasL p.flatten s = false) (hl : p.flatten.length ≠ 160) (hp : p ≠ []) :
    Calls Try.prog 20 #[.slice A n c, .string s, .int .i64 z] w (RetAP w (putP p (atP p s) (putL (p.getD (atP p s) []) (kL (p.getD (atP p s) []) s) ⟨s, z⟩), 0)) := by
  have hml : ∀ l ∈ p, l.length ≤ 100000 := fun l hl => Nat.le_trans (flat_ge p hl) hm
  have hat := atP_lt hp s
  have hpl := hA.len
  have hl9 := right_len' hr hat
  have hkl := kL_le (p.getD (atP p s) []) s
  have HR := Lib.hid (iright_any A n c B p w hA hB (by omega) hml)
  have HNS := Lib.hid (fun W => right_any s W)
  have HND := Lib.hid (fun W => isNode_any z W)
  have HPL := Lib.hid (fun W (hW : Below w.heap.size w W) => place_any A n c B p s W (hA.below hW hB) (Nat.le_trans hB hW.size) (by omega) hr hp)
  have HAL := Lib.hid (fun W (hW : Below w.heap.size w W) => all_any A n c B p W (hA.below hW hB) (Nat.le_trans hB hW.size) (by omega) hm)
  have HCP := Lib.hid (fun W (hW : Below w.heap.size w W) => cloneP_any A n c B p W (hA.below hW hB) (Nat.le_trans hB hW.size) (by omega) hml)
  have HFT := Lib.hid hA.fit
  have HFS := Lib.hid hA.fits
  have HSZ := Lib.hid (rightB_size hs)
  have HFIT := Lib.hid (En.fitOf (s := s) (z := z) (by have := rightB_size hs; omega) hnz)
  have HPN := Lib.hid hpl
  rw [hr] at HR
  rw [hnz] at HND
  rw [hs] at HNS
  rw [hh] at HPL
  rw [hpl] at hat
  clear hA hnz hs hr hh hpl hml hm
  generalize hk : kL (p.getD (atP p s) []) s = k at *
  generalize hat0 : atP p s = i at *
  clear hk hat0
  generalize hfl : p.flatten = fl at *
  clear hfl
  generalize hln : fl.length = fn at *
  have hl160 : ((fn : Int) == 160) = false := by rw [beq_eq_false_iff_ne]; omega
  have hn0 : ((n : Int) == 0) = false := by rw [beq_eq_false_iff_ne]; omega
  have HLN := Lib.hid hln
  clear hln
  go_enter Try.func20, Try.ntmps20
  go_wp2_with fail
  refine HR.out.mono ?_
  rintro e w1 ⟨rfl, b1⟩
  go_wp2_with fail
  refine (HND.out _).mono ?_
  rintro e w2 ⟨rfl, rfl⟩
  go_wp2_with fail
  refine (HNS.out _).mono ?_
  rintro e w3 ⟨rfl, b3⟩
  have B3 := Lib.hid (b1.trans (b3.mono b1.size))
  clear b1 b3
  go_wp2_with fail
  refine (HPL.out w3 B3.out).mono ?_
  rintro e w4 ⟨rfl, b4⟩
  have B4 := Lib.hid (B3.out.trans (b4.mono B3.out.size))
  clear b4
  go_wp2_with fail
  refine (HAL.out w4 B4.out).mono ?_
  intro e w5 hr5
  obtain ⟨A5, c5, rfl, -, -, b5⟩ := hr5.ens HFT.out
  have B5 := Lib.hid (B4.out.trans (b5.mono B4.out.size))
  clear b5 hr5
  rw [HLN.out]
  go_wp2_with fail
  refine (clone_any s w5 (by have := HSZ.out; omega)).mono ?_
  rintro e w6 ⟨rfl, b6⟩
  have B6 := Lib.hid (B5.out.trans (b6.mono B5.out.size))
  clear b6
  have B7 : Hid (Below w.heap.size w (w6.alloc (.cells #[.string s, .int .i64 z] 47))) := B6.out.alloc B6.out.size _
  have e0 : (w6.alloc (.cells #[.string s, .int .i64 z] 47)).cell? ⟨w6.heap.size, 0, none⟩ = some (.string s) := cell_new w6 _ 47 0 rfl
  have e1 : (w6.alloc (.cells #[.string s, .int .i64 z] 47)).cell? ⟨w6.heap.size, 1, none⟩ = some (.int .i64 z) := cell_new w6 _ 47 1 rfl
  have HE0 := Lib.hid e0
  have HE1 := Lib.hid e1
  clear e0 e1
  go_wp2_with fail
  refine (HCP.out _ B7.out).mono ?_
  rintro e w8 ⟨vs, rfl, hov, htv, b8⟩
  have hs7 : (w6.alloc (.cells #[.string s, .int .i64 z] 47)).heap.size = w6.heap.size + 1 := by simp
  have B8 := Lib.hid (B7.out.trans (b8.mono B7.out.size))
  have HE08 := Lib.hid (bcell b8 HE0.out (by simp))
  have HE18 := Lib.hid (bcell b8 HE1.out (by simp))
  rw [hs7] at hov htv
  have hilen : i < p.length := by rw [HPN.out]; exact hat
  obtain ⟨gi, hvi, hgi, hoi⟩ := htv.2.1 i hilen
  have hgi8 := (hoi.lt gi rfl).2
  have hG8 := (hov.lt (w6.heap.size + 1) rfl).2
  have hcv := CellsAt.of_own hov
  have hcg := CellsAt.of_own hoi
  have KS := Lib.hid (fun W (hW : Below w8.heap.size w8 W) => show W.cell? ⟨w6.heap.size + 1, i, none⟩ = some (rowV gi (p.getD i []).length) from (hW.cell (p := ⟨w6.heap.size + 1, i, none⟩) hG8).trans (by have := hcv i _ hvi; rwa [Nat.zero_add] at this))
  have KF := Lib.hid (fun W (hW : Below w8.heap.size w8 W) => show W.frozen? ⟨w6.heap.size + 1, i, none⟩ = false from (hW.frozen (p := ⟨w6.heap.size + 1, i, none⟩) hG8).trans (hov.frozenAt i))
  have KI := Lib.hid (fun W (hW : Below w8.heap.size w8 W) vb (hvb : CellsAt W vb 0 (enCells ⟨s, z⟩)) => insert_any gi vb 1 k (p.getD i []) ⟨s, z⟩ W (by omega) hkl (hcg.below hW hgi8) hvb)
  have HVL : Hid (vs.length = n) := by show _ = _; rw [htv.1]; exact HPN.out
  have HFP : Hid (∀ e ∈ p.getD i [], e.fit) := by
    rw [pg_getD hilen]; exact HFS.out _ (List.getElem_mem _)
  have d0 : w8.drew.cell? ⟨w6.heap.size, 0, none⟩ = some (.string s) := HE08.out
  have d1 : w8.drew.cell? ⟨w6.heap.size, 1, none⟩ = some (.int .i64 z) := HE18.out
  have S0 := Lib.hid (And.intro (KS.out w8.drew ⟨rfl, rfl, rfl, Nat.le_refl _, fun _ _ => rfl⟩) (And.intro d0 d1))
  have hin : (i : Int) < (n : Int) := by omega
  have HOV := Lib.hid hov
  have HTV := Lib.hid htv
  have HKL := Lib.hid hkl
  obtain ⟨m, hm⟩ : ∃ m, (putL (p.getD i []) k ⟨s, z⟩).length = m := ⟨_, rfl⟩
  have HM := Lib.hid hm
  have hm10 : 1 ≤ m ∧ m ≤ 10 := by rw [putL_len _ hkl] at hm; omega
  clear hov htv b8 hoi hcv hcg hvi d0 d1 hm
  rw [HPN.out]
  have hE8 : w6.heap.size < w8.heap.size := by omega
  have HBA : Hid (Below w8.heap.size w8 (w8.alloc (.cells #[.string s, .int .i64 z] 47)).drew) := by
    have h := (Below.refl w8.heap.size w8).alloc (Nat.le_refl _) (.cells #[.string s, .int .i64 z] 47)
    exact ⟨h.os, h.tape, h.output, h.size, h.block⟩
  have HVB : Hid (CellsAt (w8.alloc (.cells #[.string s, .int .i64 z] 47)).drew w8.heap.size 0 (enCells ⟨s, z⟩)) := fun j u hj => by
    rw [Nat.zero_add]
    exact cell_new w8 _ 47 j (by rw [List.getElem?_toArray]; exact hj)
  have HSA : Hid ((w8.alloc (.cells #[.string s, .int .i64 z] 47)).drew.heap.size = w8.heap.size + 1) := by
    show (w8.alloc (.cells #[.string s, .int .i64 z] 47)).heap.size = _
    simp
  generalize hlen : (p.getD i []).length = len at *
  have HLEN := Lib.hid hlen
  clear hlen
  go_wp2_with fail
  have c57 := KS.out w8.drew ⟨rfl, rfl, rfl, Nat.le_refl _, fun _ _ => rfl⟩
  have c58 := KS.out (w8.alloc (.cells #[.string s, .int .i64 z] 47)).drew HBA.out
  have c59 : w8.drew.cell? ⟨w6.heap.size, 0, none⟩ = some (.string s) := HE08.out
  have c60 : w8.drew.cell? ⟨w6.heap.size, 1, none⟩ = some (.int .i64 z) := HE18.out
  go_region_with ((go_at_call 43; refine (KI.out _ HBA.out w8.heap.size HVB.out).mono ?_; intro e w9 hr9; obtain ⟨c9, rfl, hc9, hcl9, hsz9, b9⟩ := hr9.len HM.out (by rw [HLEN.out]; exact HKL.out); have B9 : Hid (Below w8.heap.size w8 w9) := HBA.out.trans (b9.mono HBA.out.size); have g1 := KS.out w9 B9.out; have g2 := KF.out w9 B9.out))
  all_goals
    have hN9 : (w8.alloc (.cells #[.string s, .int .i64 z] 47)).drew.heap.size = w8.heap.size + 1 := HSA.out
    rw [hN9] at hcl9 hsz9
    have hfl' : ∀ e ∈ putL (p.getD i []) k ⟨s, z⟩, e.fit := fun e he => by
      unfold putL at he
      rcases List.mem_append.1 he with he | he
      · exact HFP.out e (List.mem_of_mem_take he)
      · rcases List.mem_cons.1 he with rfl | he
        · exact HFIT.out
        · exact HFP.out e (List.mem_of_mem_drop he)
    have hst := store_page (i := i) HOV.out HTV.out HFS.out hfl' B9.out (Nat.le_succ _) hsz9 hcl9 (by rw [HM.out]; exact hc9)
    rw [HM.out] at hst
    have HST := Lib.hid hst
    have HBW : Hid (Below w.heap.size w (w9.setCell ⟨w6.heap.size + 1, i, none⟩ (.slice (some ⟨w8.heap.size + 1, 0, none⟩) m c9))) := (B8.out.trans (B9.out.mono B8.out.size)).setCell (by have := B6.out.size; show _ ≤ w6.heap.size + 1; omega) _
    have hcx : (w9.setCell ⟨w6.heap.size + 1, i, none⟩ (.slice (some ⟨w8.heap.size + 1, 0, none⟩) m c9)).cell? ⟨w6.heap.size + 1, i, none⟩ = some (.slice (some ⟨w8.heap.size + 1, 0, none⟩) m c9) := by
      have := hst.1 i (.slice (some ⟨w8.heap.size + 1, 0, none⟩) m c9) (List.getElem?_set_self (by rw [HVL.out]; exact hat))
      rwa [Nat.zero_add] at this
    clear hst hcl9 hsz9 b9 hr9 g1 g2 c57 c58 c59 c60 hN9 hfl'
    generalize w9.setCell ⟨w6.heap.size + 1, i, none⟩ (.slice (some ⟨w8.heap.size + 1, 0, none⟩) m c9) = W at *
    by_cases h9 : m = 10
    · have HSP := Lib.hid (split_any (w6.heap.size + 1) i n W.heap.size (p.set i (putL (p.getD i []) k ⟨s, z⟩)) _ W HST.out.1 HST.out.2.2 HST.out.2.1 (by rw [List.length_set]; exact HPN.out) hat (by omega) (by
        have : (p.set i (putL (p.getD i []) k ⟨s, z⟩)).getD i [] = putL (p.getD i []) k ⟨s, z⟩ := by simp [List.getD, show i < p.length by rw [HPN.out]; exact hat]
        rw [this, HM.out]; exact h9))
      rw [putP_split (by rw [HPN.out]; exact hat) (by rw [HM.out]; exact h9)] at HSP
      have x1 : (9 : Int) < (m : Int) := by omega
      clear h9
      generalize putP p i (putL (p.getD i []) k ⟨s, z⟩) = res at *
      go_wp2_with fail
      refine HSP.out.mono ?_
      intro e w10 hr
      obtain ⟨A5, c5, rfl, h1, h2, h3⟩ := hr
      have H2 := Lib.hid h2
      have HB10 := Lib.hid (HBW.out.trans (h3.mono HBW.out.size))
      clear h2 h3 HSP
      go_wp2
      go_ret2
      exact ⟨A5, c5, rfl, h1, H2.out, HB10.out⟩
    · have HPS := Lib.hid (putP_set (p := p) (i := i) (by rw [HPN.out]; exact hat) (l := putL (p.getD i []) k ⟨s, z⟩) (by rw [HM.out]; exact h9))
      have HFIN : Hid (RetAP w (putP p i (putL (p.getD i []) k ⟨s, z⟩), 0) (.returned (.tuple #[rowV (w6.heap.size + 1) n, .int .i64 0])) W) := by
        show RetAP _ _ _ _
        rw [← HPS.out]
        have hln : (p.set i (putL (p.getD i []) k ⟨s, z⟩)).length = n := by rw [List.length_set]; exact HPN.out
        have hpg := HST.out.2.1.pgs HST.out.1 HST.out.2.2
        refine ⟨some ⟨w6.heap.size + 1, 0, none⟩, n, ?_, ?_, hpg, HBW.out⟩
        · show _ = Ending.returned (.tuple #[.slice _ (p.set i (putL (p.getD i []) k ⟨s, z⟩)).length n, .int .i64 0])
          rw [hln]
        · show (p.set i (putL (p.getD i []) k ⟨s, z⟩)).length ≤ n
          omega
      have x1 : ¬ (9 : Int) < (m : Int) := by omega
      clear h9 HPS
      generalize putP p i (putL (p.getD i []) k ⟨s, z⟩) = res at *
      go_wp2
      go_ret2
      exact HFIN.out

theorem add_any (A : Option Addr) (n c B : Nat) (p : Pg) (s : ByteArray) (z : Int) (w : World) (hA : PgsAt w B A n p) (hB : B ≤ w.heap.size) (hn : n ≤ 10000) (hm : p.flatten.length ≤ 100000) :
    Calls Try.prog 20 #[.slice A n c, .string s, .int .i64 z] w (RetAP w (addP p s z)) := by
  by_cases h : rightP p = true ∧ nodeB z = true ∧ rightB s = true ∧ hasL p.flatten s = false ∧ p.flatten.length ≠ 160
  · obtain ⟨h1, h2, h3, h4, h5⟩ := h
    by_cases hp : p = []
    · subst hp
      obtain rfl : n = 0 := hA.len.symm
      rw [addP_nil h2 h3]
      exact add_nil A c B s z w hB h2 h3
    · rw [addP_6 h1 h2 h3 h4 h5 hp]
      exact add_some A n c B p s z w hA hB hn hm h1 h2 h3 h4 h5 hp
  · exact add_err A n c B p s z w hA hB hn hm h
end Go.Proofs.Ytflijnhgonigjaa
