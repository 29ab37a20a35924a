/-
  WALK: Drop. Conditions: at most 10000 pages, at most 100000 entries in all.
-/
import Derived.Test.YtflijnhgonigjaaPJoin
set_option linter.unusedVariables false
namespace Go.Proofs.Ytflijnhgonigjaa
open Go.RowKit

def RetDP (w : World) (r : Pg × Int × Int) (e : Ending) (w' : World) : Prop :=
  ∃ A c, e = .returned (.tuple #[.slice A r.1.length c, .int .i64 r.2.1, .int .i64 r.2.2]) ∧ r.1.length ≤ c ∧ PgsAt w' w'.heap.size A r.1.length r.1 ∧ Below w.heap.size w w'
theorem RetDP.err (w : World) (z : Int) {w' : World} (hb : Below w.heap.size w w') : RetDP w ([], 0, z) (.returned (.tuple #[.slice none 0 0, .int .i64 0, .int .i64 z])) w' := ⟨none, 0, rfl, Nat.le_refl _, PgsAt.nil _ _ _, hb⟩
theorem dropP_1 {p : Pg} {s : ByteArray} (h : rightP p = false) : dropP p s = ([], 0, 1) := by unfold dropP; rw [if_neg]; simp [h]
theorem dropP_2 {p : Pg} {s : ByteArray} (h : rightP p = true) (hh : hasL p.flatten s = false) : dropP p s = ([], 0, 5) := by unfold dropP; rw [if_pos h, if_neg]; simp [hh]
theorem dropP_3 {p : Pg} {s : ByteArray} (h : rightP p = true) (hh : hasL p.flatten s = true) : dropP p s = (shrinkP p (atP p s) (cutL (p.getD (atP p s) []) (kL (p.getD (atP p s) []) s)), ((p.getD (atP p s) []).getD (kL (p.getD (atP p s) []) s) En.z).nd, 0) := by
  unfold dropP; rw [if_pos h, if_pos hh, node_at h hh]

set_option maxRecDepth 100000 in
set_option maxHeartbeats 4000000 in
theorem drop_err (A : Option Addr) (n c B : Nat) (p : Pg) (s : ByteArray) (w : World) (hA : PgsAt w B A n p) (hB : B ≤ w.heap.size) (hn : n ≤ 10000) (hm : p.flatten.length ≤ 100000)
    (hno : ¬ (rightP p = true ∧ hasL p.flatten s = true)) :
    Calls Try.prog 22 #[.slice A n c, .string s] w (RetDP w (dropP p s)) := by
  have HR := Lib.hid (iright_any A n c B p w hA hB (by omega) (fun l hl => Nat.le_trans (flat_ge p hl) hm))
  cases hr : rightP p with
  | false =>
    have HP := Lib.hid (dropP_1 (s := s) hr)
    rw [hr] at HR
    clear hr hA hno
    rw [HP.out]
    go_enter Try.func22, Try.ntmps22
    go_wp2_with fail
    refine HR.out.mono ?_
    rintro e w1 ⟨rfl, b1⟩
    go_wp2
    go_ret3
    exact RetDP.err w 1 b1
  | true =>
    have hh : hasL p.flatten s = false := by
      cases h : hasL p.flatten s with
      | false => rfl
      | true => exact absurd ⟨hr, h⟩ hno
    have HP := Lib.hid (dropP_2 hr hh)
    rw [hr] at HR
    rw [HP.out]
    by_cases hp : p = []
    · subst hp
      obtain rfl : n = 0 := hA.len.symm
      clear hA hno hr hh HP
      go_enter Try.func22, Try.ntmps22
      go_wp2_with fail
      refine HR.out.mono ?_
      rintro e w1 ⟨rfl, b1⟩
      go_wp2_with fail
      refine (place_nil A c s w1).mono ?_
      rintro e w2 ⟨rfl, b2⟩
      go_wp2
      go_ret3
      exact RetDP.err w 5 (b1.trans (b2.mono b1.size))
    · have HPL := Lib.hid (fun W (hW : Below w.heap.size w W) => place_any A n c B p s W (hA.below hW hB) (Nat.le_trans hB hW.size) (by omega) hr hp)
      rw [hh] at HPL
      clear hA hno hr hh hp HP
      generalize kL (p.getD (atP p s) []) s = k at *
      generalize atP p s = at0 at *
      go_enter Try.func22, Try.ntmps22
      go_wp2_with fail
      refine HR.out.mono ?_
      rintro e w1 ⟨rfl, b1⟩
      go_wp2_with fail
      refine (HPL.out w1 b1).mono ?_
      rintro e w2 ⟨rfl, b2⟩
      go_wp2
      go_ret3
      exact RetDP.err w 5 (b1.trans (b2.mono b1.size))

/-- one page of a row of pages of the call's own made shorter, and stored. -/
theorem cut_page {w5 w6 : World} {G0 i gi m' len : Nat} {p : Pg} {vs : List Value} {l' : List En} (hov : w5.ownsRow G0 27 1 (rowV G0 p.length) p.length vs) (htv : TightV w5 (G0 + 1) vs p) (hf : ∀ l ∈ p, ∀ e ∈ l, e.fit) (hf' : ∀ e ∈ l', e.fit)
    (hi : i < p.length) (hvi : vs[i]? = some (rowV gi len)) (hgi : G0 + 1 ≤ gi) (hg56 : w5.grownBy w6 (some gi)) (hcl : CellsAt w6 gi 0 (ensCells l')) (hm : l'.length = m') (hml : m' ≤ len) :
    CellsAt (w6.setCell ⟨G0, i, none⟩ (.slice (some ⟨gi, 0, none⟩) m' len)) G0 0 (vs.set i (.slice (some ⟨gi, 0, none⟩) m' len)) ∧
    PgV (w6.setCell ⟨G0, i, none⟩ (.slice (some ⟨gi, 0, none⟩) m' len)) (w6.setCell ⟨G0, i, none⟩ (.slice (some ⟨gi, 0, none⟩) m' len)).heap.size (rowV G0 p.length) (vs.set i (.slice (some ⟨gi, 0, none⟩) m' len)) (p.set i l') ∧
    G0 < (w6.setCell ⟨G0, i, none⟩ (.slice (some ⟨gi, 0, none⟩) m' len)).heap.size ∧
    (∀ W, Below (w6.setCell ⟨G0, i, none⟩ (.slice (some ⟨gi, 0, none⟩) m' len)).heap.size (w6.setCell ⟨G0, i, none⟩ (.slice (some ⟨gi, 0, none⟩) m' len)) W → ∀ k, W.frozen? ⟨G0, k, none⟩ = false) ∧
    Below G0 w5 (w6.setCell ⟨G0, i, none⟩ (.slice (some ⟨gi, 0, none⟩) m' len)) := by
  have hG := (hov.lt G0 rfl).2
  have hgi5 : gi < w5.heap.size := by
    obtain ⟨g, e, -, ho⟩ := htv.2.1 i hi
    rw [hvi] at e
    injection e with e
    have : gi = g := by injection e with e1; injection e1 with e1; injection e1
    rw [this]; exact (ho.lt g rfl).2
  have hov6 := hov.kept hg56 (Or.inr (fun e => by
    have : G0 = gi := by injection e
    omega))
  obtain ⟨s1, s2⟩ := hov6.stored i (.slice (some ⟨gi, 0, none⟩) m' len)
  generalize hW : w6.setCell ⟨G0, i, none⟩ (.slice (some ⟨gi, 0, none⟩) m' len) = W at *
  have hsz : w5.heap.size ≤ W.heap.size := Nat.le_trans hg56.size s2.size
  have hclW : CellsAt W gi 0 (ensCells l') := hcl.keep (fun j => s2.cell_far ⟨gi, j, none⟩ (by show gi < _; have := hg56.size; omega) (fun e => by
    have e2 : gi = G0 := by injection e
    omega))
  refine ⟨CellsAt.of_own s1, ⟨by rw [List.length_set, List.length_set, htv.1], fun k hk => ?_⟩, by omega, fun W' hb k => (own_below s1 hb (Nat.le_refl _)).frozenAt k, ?_⟩
  · rw [List.length_set] at hk
    by_cases e : i = k
    · subst e
      rw [List.getElem?_set_self (by rw [htv.1]; exact hk)]
      have e2 : (p.set i l').getD i [] = l' := by simp [List.getD, hk]
      rw [e2]
      have hE := ens_cells hclW (by omega) hf'
      rw [hm] at hE
      refine ⟨_, rfl, some ⟨gi, 0, none⟩, len, by rw [hm], by rw [hm]; exact hml, by rw [hm]; exact hE, fun _ a ha hv => ?_⟩
      have h1 : gi = a.block := by injection ha with ha; rw [← ha]
      have h2 : G0 = a.block := by injection hv
      omega
    · have e2 : (p.set i l').getD k [] = p.getD k [] := by simp [List.getD, List.getElem?_set_ne e]
      rw [List.getElem?_set_ne e, e2]
      obtain ⟨gk, ek, hgk, ho⟩ := htv.2.1 k hk
      have hne : gk ≠ gi := fun e3 => by
        have hpw := List.pairwise_iff_getElem.1 htv.2.2
        have l1 : i < vs.length := by rw [htv.1]; exact hi
        have l2 : k < vs.length := by rw [htv.1]; exact hk
        rw [List.getElem?_eq_getElem l1] at hvi
        rw [List.getElem?_eq_getElem l2] at ek
        injection hvi with hvi
        injection ek with ek
        rcases Nat.lt_or_ge i k with h | h
        · have := hpw i k l1 l2 h
          rw [hvi, ek, e3] at this; exact this rfl
        · have := hpw k i l2 l1 (by omega)
          rw [hvi, ek, e3] at this; exact this rfl
      have ho6 := ho.kept hg56 (Or.inr (fun e3 => by
        have : gk = gi := by injection e3
        omega))
      have hoW := ho6.kept s2 (Or.inr (fun e3 => by
        have : gk = G0 := by injection e3
        omega))
      refine ⟨_, ek, some ⟨gk, 0, none⟩, _, rfl, Nat.le_refl _, EnsAt.of_own hoW rfl (hf _ (by rw [pg_getD hk]; exact List.getElem_mem _)), fun _ a ha hv => ?_⟩
      have h1 : gk = a.block := by injection ha with ha; rw [← ha]
      have h2 : G0 = a.block := by injection hv
      omega
  · have b1 : Below G0 w5 w6 := ⟨hg56.os, hg56.tape, hg56.output, hg56.size, fun k hk => hg56.block k (by omega) (fun e => by
      have : k = gi := by injection e
      omega)⟩
    have b2 : Below G0 w6 W := ⟨s2.os, s2.tape, s2.output, s2.size, fun k hk => s2.block k (by have := hg56.size; omega) (fun e => by
      have : k = G0 := by injection e
      omega)⟩
    exact b1.trans b2
/-- a page taken out of the row. -/
theorem RetDel.j {w w' : World} {g n i : Nat} {p : Pg} {vs : List Value} {e : Ending} (h : RetDel w g (i + (n - (i + 1))) n (vs.take i ++ vs.drop (i + 1)) e w') (hv : PgV w w.heap.size (rowV g n) vs p) (hn : p.length = n) (hi : i < n) (hg : g < w.heap.size) : RetJ w g n (p.take i ++ p.drop (i + 1)) e w' := by
  obtain ⟨rfl, hcl, hg5⟩ := h
  have hv5 : PgV w' w'.heap.size (rowV g n) vs p := hv.map fun x l h => (h.kept_ (w' := w') hg5 (Nat.le_refl _)).more hg5.size
  have hlen : (p.take i ++ p.drop (i + 1)).length = i + (n - (i + 1)) := by rw [List.length_append, List.length_take, List.length_drop, hn]; omega
  have hP := ((hv5.take i).append (hv5.drop (i + 1))).pgs hcl (Nat.lt_of_lt_of_le hg hg5.size)
  rw [hlen] at hP
  exact ⟨_, hlen, by omega, rfl, hP, grown_to_below hg5 hg⟩
theorem set_cut {p : Pg} {i : Nat} (hi : i < p.length) (l : List En) : (p.set i l).take i ++ (p.set i l).drop (i + 1) = p.take i ++ p.drop (i + 1) := by
  have e1 : (p.set i l).take i = p.take i := by rw [set_split hi, List.take_left' (by rw [List.length_take]; omega)]
  have e2 : (p.set i l).drop (i + 1) = p.drop (i + 1) := by
    rw [set_split hi, show p.take i ++ l :: p.drop (i + 1) = (p.take i ++ [l]) ++ p.drop (i + 1) by simp, List.drop_left' (by rw [List.length_append, List.length_take]; simp; omega)]
  rw [e1, e2]

theorem drop_fin {w w8 w9 : World} {G0 n m : Nat} {R : Pg} {z : Int} (h1 : R.length = m) (h2 : m ≤ n) (hP : PgsAt w8 w8.heap.size (some ⟨G0, 0, none⟩) m R) (hb : Below w.heap.size w w8) (hd : Drew w8 w9) :
    RetDP w (R, z, 0) (.returned (.tuple #[.slice (some ⟨G0, 0, none⟩) m n, .int .i64 z, .int .i64 0])) w9 := by
  subst h1
  obtain ⟨q, rfl⟩ := hd
  exact ⟨_, n, rfl, h2, hP.keep (fun _ _ => rfl), ⟨hb.os, hb.tape, hb.output, hb.size, hb.block⟩⟩

set_option maxRecDepth 100000 in
set_option maxHeartbeats 8000000 in
theorem drop_some (A : Option Addr) (n c B : Nat) (p : Pg) (s : ByteArray) (w : World) (hA : PgsAt w B A n p) (hB : B ≤ w.heap.size) (hn : n ≤ 10000) (hm : p.flatten.length ≤ 100000) (hr : rightP p = true) (hh : hasL p.flatten s = true) :
    Calls Try.prog 22 #[.slice A n c, .string s] w (RetDP w (dropP p s)) := by
  rw [dropP_3 hr hh]
  have hp := has_ne hh
  have hml : ∀ l ∈ p, l.length ≤ 100000 := fun l hl => Nat.le_trans (flat_ge p hl) hm
  have hat := atP_lt hp s
  have hpl := hA.len
  have hl9 := right_len' hr hat
  have hkl := (has_at hr hh).1
  have HR := Lib.hid (iright_any A n c B p w hA hB (by omega) hml)
  have HPL := Lib.hid (fun W (hW : Below w.heap.size w W) => place_any A n c B p s W (hA.below hW hB) (Nat.le_trans hB hW.size) (by omega) hr hp)
  have HCP := Lib.hid (fun W (hW : Below w.heap.size w W) => cloneP_any A n c B p W (hA.below hW hB) (Nat.le_trans hB hW.size) (by omega) hml)
  have HFS := Lib.hid hA.fits
  have HPN := Lib.hid hpl
  have HRL := Lib.hid (rightP_iff.1 hr).1
  obtain ⟨b', o', A', c', rfl, hbB', hcell, hlc, hE⟩ := hA.at_ (k := atP p s) (by omega)
  obtain ⟨b'', o'', rfl, hbB'', -, h2⟩ := hE.at_ hkl
  have HC1 := Lib.hid hcell
  have HC2 := Lib.hid h2
  rw [hr] at HR
  rw [hh] at HPL
  rw [hpl] at hat
  clear hA hr hh hpl hml hm hcell hE h2 hp
  generalize hk : kL (p.getD (atP p s) []) s = k at *
  generalize hat0 : atP p s = i at *
  clear hk hat0
  generalize hzz : ((p.getD i []).getD k En.z).nd = z at *
  clear hzz
  go_enter Try.func22, Try.ntmps22
  go_wp2_with fail
  refine HR.out.mono ?_
  rintro e w1 ⟨rfl, b1⟩
  go_wp2_with fail
  refine (HPL.out w1 b1).mono ?_
  rintro e w4 ⟨rfl, b4⟩
  have B4 := Lib.hid (b1.trans (b4.mono b1.size))
  clear b1 b4
  go_wp2_with fail
  refine (HCP.out w4 B4.out).mono ?_
  rintro e w5 ⟨vs, rfl, hov, htv, b5⟩
  have B5 := Lib.hid (B4.out.trans (b5.mono B4.out.size))
  have hG0 : w.heap.size ≤ w4.heap.size := B4.out.size
  generalize w4.heap.size = G0 at *
  have hilen : i < p.length := by rw [HPN.out]; exact hat
  obtain ⟨gi, hvi, hgi, hoi⟩ := htv.2.1 i hilen
  have hgi5 := (hoi.lt gi rfl).2
  have hG5 := (hov.lt G0 rfl).2
  have hcv := CellsAt.of_own hov
  have hcg := CellsAt.of_own hoi
  have hci := hcv i _ hvi
  rw [Nat.zero_add] at hci
  have HFP : Hid (∀ e ∈ p.getD i [], e.fit) := by
    show ∀ e ∈ p.getD i [], e.fit
    rw [pg_getD hilen]; exact HFS.out _ (List.getElem_mem _)
  have KD := Lib.hid (deleteE_any gi (p.getD i []).length k (k + 1) (p.getD i []) w5 rfl (by omega) (Nat.lt_succ_self k) hkl hcg (fun j => hoi.frozenAt j))
  rw [show (((k + 1 : Nat) : Int)) = (k : Int) + 1 by omega] at KD
  have HCUT : Hid ((p.getD i []).take k ++ (p.getD i []).drop (k + 1) = cutL (p.getD i []) k) := rfl
  have HCL : Hid ((cutL (p.getD i []) k).length = k + ((p.getD i []).length - (k + 1))) := by show _ = _; rw [cutL_len hkl]; omega
  have HFC : Hid (∀ e ∈ cutL (p.getD i []) k, e.fit) := fun e he => HFP.out e ((cutL_sub _ _).subset he)
  have HOV := Lib.hid hov
  have HTV := Lib.hid htv
  have HVI := Lib.hid hvi
  have KF := Lib.hid (fun W (hg : w5.grownBy W (some gi)) => And.intro (show W.cell? ⟨G0, i, none⟩ = some (rowV gi (p.getD i []).length) from (hg.cell_far ⟨G0, i, none⟩ hG5 (fun e => by
    have : G0 = gi := by injection e
    omega)).trans hci) (show W.frozen? ⟨G0, i, none⟩ = false from (hg.frozen_far ⟨G0, i, none⟩ hG5 (fun e => by
    have : G0 = gi := by injection e
    omega)).trans (hov.frozenAt i)))
  clear hov htv b5 hoi hcv hcg hvi
  have HSH : Hid (shrinkP p i (cutL (p.getD i []) k) = if (cutL (p.getD i []) k).length = 0 then p.take i ++ p.drop (i + 1) else if canJ (p.set i (cutL (p.getD i []) k)) i = true then joinP (p.set i (cutL (p.getD i []) k)) i else if 1 ≤ i ∧ canJ (p.set i (cutL (p.getD i []) k)) (i - 1) = true then joinP (p.set i (cutL (p.getD i []) k)) (i - 1) else p.set i (cutL (p.getD i []) k)) := rfl
  rw [HPN.out]
  generalize hlen : (p.getD i []).length = len at *
  have HLEN := Lib.hid hlen
  clear hlen
  have hin : (i : Int) < (n : Int) := by omega
  have hk1 : (k : Int) + 1 ≤ (len : Int) := by omega
  go_wp2_with fail
  refine KD.out.mono ?_
  rintro e w6 ⟨rfl, hcl6, hg56⟩
  rw [HCUT.out] at hcl6
  obtain ⟨g1, g2⟩ := KF.out w6 hg56
  generalize hm' : k + (len - (k + 1)) = m' at *
  have hml' : m' ≤ len := by omega
  have hmp : m' ≤ 8 := by omega
  have HMM := Lib.hid hm'
  clear hm'
  have hcp := cut_page HOV.out HTV.out HFS.out HFC.out hilen HVI.out hgi hg56 hcl6 HCL.out hml'
  rw [HPN.out] at hcp
  obtain ⟨q1, q2, q3, q4, q5⟩ := hcp
  have HQ1 := Lib.hid q1
  have HQ2 := Lib.hid q2
  have HQ4 := Lib.hid q4
  have HBW : Hid (Below w.heap.size w (w6.setCell ⟨G0, i, none⟩ (.slice (some ⟨gi, 0, none⟩) m' len))) := B5.out.trans (q5.mono hG0)
  have hcx : (w6.setCell ⟨G0, i, none⟩ (.slice (some ⟨gi, 0, none⟩) m' len)).cell? ⟨G0, i, none⟩ = some (.slice (some ⟨gi, 0, none⟩) m' len) := by
    have := q1 i _ (List.getElem?_set_self (by rw [HTV.out.1]; exact hilen))
    rwa [Nat.zero_add] at this
  clear q1 q2 q4 q5 hcl6 hci
  generalize hcut : cutL (p.getD i []) k = l' at *
  clear hcut
  have HQL : Hid ((p.set i l').length = n) := by show _ = _; rw [List.length_set]; exact HPN.out
  have HQM : Hid (∀ l ∈ p.set i l', l.length ≤ 100000) := fun l hl => by
    rcases List.mem_or_eq_of_mem_set hl with h | rfl
    · have := HRL.out l h; omega
    · rw [HCL.out]; omega
  by_cases hm0 : m' = 0
  · have HRES : Hid (shrinkP p i l' = p.take i ++ p.drop (i + 1)) := by show _ = _; rw [HSH.out, if_pos (by rw [HCL.out]; exact hm0)]
    have e0 : ((m' : Int) == 0) = true := by rw [beq_iff_eq]; omega
    clear hm0
    go_wp2_with fail
    generalize w6.setCell ⟨G0, i, none⟩ (.slice (some ⟨gi, 0, none⟩) m' len) = W at *
    have KX := deleteP_any G0 n i (i + 1) (vs.set i (.slice (some ⟨gi, 0, none⟩) m' len)) W (by rw [List.length_set, HTV.out.1]; exact HPN.out) HQ2.out.one (by omega) (Nat.lt_succ_self i) hat HQ1.out (HQ4.out W (Below.refl _ _))
    rw [show (((i + 1 : Nat) : Int)) = (i : Int) + 1 by omega] at KX
    refine KX.mono ?_
    intro e w7 hr7
    have hrj := hr7.j HQ2.out HQL.out hat q3
    rw [set_cut hilen] at hrj
    have HBZ := HBW
    generalize p.take i ++ p.drop (i + 1) = RES at *
    obtain ⟨mr, hmr, hmn, rfl, hPr, hBr⟩ := hrj
    have HPR := Lib.hid hPr
    have HMR := Lib.hid hmr
    have HBR := Lib.hid (HBZ.out.trans (hBr.mono hG0))
    have f1 := bcell HBR.out HC1.out (show b' < w.heap.size by omega)
    have f2 := bcell HBR.out HC2.out (show b'' < w.heap.size by omega)
    clear hPr hmr hBr
    go_wp2_with fail
    go_quiet (fail)
    go_wp2_with fail
    go_ret3
    rw [HRES.out]
    exact drop_fin HMR.out hmn HPR.out HBR.out ⟨_, rfl⟩
  · have e0 : ((m' : Int) == 0) = false := by rw [beq_eq_false_iff_ne]; omega
    have HM0 : Hid (¬ l'.length = 0) := by show ¬ _; rw [HCL.out]; exact hm0
    clear hm0
    have KM := Lib.hid (fun W (hW : PgsAt W W.heap.size (some ⟨G0, 0, none⟩) n (p.set i l')) => mergeable_nat (some ⟨G0, 0, none⟩) n n W.heap.size i (p.set i l') W hW (by omega) hat HQM.out)
    have HPP := HQ2.out.pgs HQ1.out q3
    rw [HQL.out] at HPP
    have HPP0 := Lib.hid HPP
    clear HPP
    cases hc1 : canJ (p.set i l') i with
    | true =>
      have HRES : Hid (shrinkP p i l' = joinP (p.set i l') i) := by show _ = _; rw [HSH.out, if_neg HM0.out, if_pos hc1]
      have hci2 := canJ_iff.1 hc1
      rw [hc1] at KM
      clear hc1
      go_wp2_with fail
      generalize w6.setCell ⟨G0, i, none⟩ (.slice (some ⟨gi, 0, none⟩) m' len) = W at *
      refine (KM.out W HPP0.out).mono ?_
      rintro e w7 ⟨rfl, d7⟩
      have hs7 : w7.heap.size = W.heap.size := by obtain ⟨qq, rfl⟩ := d7; rfl
      have hb7 : Below W.heap.size W w7 := Below.drews (Below.refl _ _) d7
      have hv7 : PgV w7 w7.heap.size (rowV G0 n) (vs.set i (.slice (some ⟨gi, 0, none⟩) m' len)) (p.set i l') := HQ2.out.map fun x l h => (h.below_ hb7 (Nat.le_refl _)).more hb7.size
      have HMG := Lib.hid (merge_any G0 i n (p.set i l') _ w7 (HQ1.out.below hb7 q3) (fun W' hW' kk => HQ4.out W' (hb7.trans (hW'.mono hb7.size)) kk) (Nat.lt_of_lt_of_le q3 hb7.size) hv7 HQL.out (by rw [HQL.out] at hci2; exact hci2.1) hn (by omega))
      have HBZ := Lib.hid (Below.drews HBW.out d7)
      clear hs7 hb7 hv7 d7 hci2
      generalize joinP (p.set i l') i = RES at *
      go_wp2_with fail
      refine HMG.out.mono ?_
      intro e w8 hrj
      obtain ⟨mr, hmr, hmn, rfl, hPr, hBr⟩ := hrj
      have HPR := Lib.hid hPr
      have HMR := Lib.hid hmr
      have HBR := Lib.hid (HBZ.out.trans (hBr.mono hG0))
      have f1 := bcell HBR.out HC1.out (show b' < w.heap.size by omega)
      have f2 := bcell HBR.out HC2.out (show b'' < w.heap.size by omega)
      clear hPr hmr hBr
      go_wp2_with fail
      go_quiet (fail)
      go_wp2_with fail
      go_ret3
      rw [HRES.out]
      exact drop_fin HMR.out hmn HPR.out HBR.out ⟨_, rfl⟩
    | false =>
      have HC1F := Lib.hid hc1
      rw [hc1] at KM
      clear hc1
      go_wp2_with fail
      generalize w6.setCell ⟨G0, i, none⟩ (.slice (some ⟨gi, 0, none⟩) m' len) = W at *
      refine (KM.out W HPP0.out).mono ?_
      rintro e w7 ⟨rfl, d7⟩
      have hb7 : Below W.heap.size W w7 := Below.drews (Below.refl _ _) d7
      have hv7 : PgV w7 w7.heap.size (rowV G0 n) (vs.set i (.slice (some ⟨gi, 0, none⟩) m' len)) (p.set i l') := HQ2.out.map fun x l h => (h.below_ hb7 (Nat.le_refl _)).more hb7.size
      have HV7 := Lib.hid hv7
      have HB7 := Lib.hid hb7
      have HBY := Lib.hid (Below.drews HBW.out d7)
      have HPP7 := Lib.hid (HPP0.out.to hb7)
      have hG7 := Nat.lt_of_lt_of_le q3 hb7.size
      clear hb7 hv7 d7
      by_cases hi0 : i = 0
      · have HRES : Hid (shrinkP p i l' = p.set i l') := by show _ = _; rw [HSH.out, if_neg HM0.out, if_neg (by rw [HC1F.out]; decide), if_neg (by omega)]
        have e1 : (i : Int) - 1 = -1 := by omega
        clear hi0
        go_wp2_with fail
        refine (mergeable_neg (some ⟨G0, 0, none⟩) n n w7).mono ?_
        rintro e w8 ⟨rfl, d8⟩
        have hb8 : Below w7.heap.size w7 w8 := Below.drews (Below.refl _ _) d8
        have HPR := Lib.hid (HPP7.out.to hb8)
        have HBR := Lib.hid (HBY.out.trans (hb8.mono HBY.out.size))
        have f1 := bcell HBR.out HC1.out (show b' < w.heap.size by omega)
        have f2 := bcell HBR.out HC2.out (show b'' < w.heap.size by omega)
        clear hb8
        generalize p.set i l' = RES at *
        go_wp2_with fail
        go_quiet (fail)
        go_wp2_with fail
        go_ret3
        rw [HRES.out]
        exact drop_fin HQL.out (Nat.le_refl _) HPR.out HBR.out ⟨_, rfl⟩
      · obtain ⟨i', hi'⟩ : ∃ i', i = i' + 1 := ⟨i - 1, by omega⟩
        have hi1 : i - 1 = i' := by omega
        have hit : i' + 1 < n := by omega
        have e1 : (i : Int) - 1 = (i' : Int) := by omega
        have KM2 := Lib.hid (mergeable_nat (some ⟨G0, 0, none⟩) n n w7.heap.size i' (p.set i l') w7 HPP7.out (by omega) (by omega) HQM.out)
        cases hc2 : canJ (p.set i l') i' with
        | true =>
          have HRES : Hid (shrinkP p i l' = joinP (p.set i l') i') := by show _ = _; rw [HSH.out, if_neg HM0.out, if_neg (by rw [HC1F.out]; decide), hi1, if_pos ⟨by omega, hc2⟩]
          have hci2 := (canJ_iff.1 hc2).2
          rw [hc2] at KM2
          clear hc2 hi' hi1
          go_wp2_with fail
          refine KM2.out.mono ?_
          rintro e w8 ⟨rfl, d8⟩
          have hb8 : Below w7.heap.size w7 w8 := Below.drews (Below.refl _ _) d8
          have hb78 := HB7.out.trans (hb8.mono HB7.out.size)
          have hv8 : PgV w8 w8.heap.size (rowV G0 n) (vs.set i (.slice (some ⟨gi, 0, none⟩) m' len)) (p.set i l') := HV7.out.map fun x l h => (h.below_ hb8 (Nat.le_refl _)).more hb8.size
          have HMG := Lib.hid (merge_any G0 i' n (p.set i l') _ w8 (HQ1.out.below hb78 q3) (fun W' hW' kk => HQ4.out W' (hb78.trans (hW'.mono hb78.size)) kk) (Nat.lt_of_lt_of_le hG7 hb8.size) hv8 HQL.out hit hn (by omega))
          have HBZ := Lib.hid (Below.drews HBY.out d8)
          clear hb8 hb78 hv8 d8 hci2
          generalize joinP (p.set i l') i' = RES at *
          go_wp2_with fail
          refine HMG.out.mono ?_
          intro e w9 hrj
          obtain ⟨mr, hmr, hmn, rfl, hPr, hBr⟩ := hrj
          have HPR := Lib.hid hPr
          have HMR := Lib.hid hmr
          have HBR := Lib.hid (HBZ.out.trans (hBr.mono hG0))
          have f1 := bcell HBR.out HC1.out (show b' < w.heap.size by omega)
          have f2 := bcell HBR.out HC2.out (show b'' < w.heap.size by omega)
          clear hPr hmr hBr
          go_wp2_with fail
          go_quiet (fail)
          go_wp2_with fail
          go_ret3
          rw [HRES.out]
          exact drop_fin HMR.out hmn HPR.out HBR.out ⟨_, rfl⟩
        | false =>
          have HRES : Hid (shrinkP p i l' = p.set i l') := by show _ = _; rw [HSH.out, if_neg HM0.out, if_neg (by rw [HC1F.out]; decide), hi1, if_neg (by rw [hc2]; simp)]
          rw [hc2] at KM2
          clear hc2 hi' hi1
          go_wp2_with fail
          refine KM2.out.mono ?_
          rintro e w8 ⟨rfl, d8⟩
          have hb8 : Below w7.heap.size w7 w8 := Below.drews (Below.refl _ _) d8
          have HPR := Lib.hid (HPP7.out.to hb8)
          have HBR := Lib.hid (HBY.out.trans (hb8.mono HBY.out.size))
          have f1 := bcell HBR.out HC1.out (show b' < w.heap.size by omega)
          have f2 := bcell HBR.out HC2.out (show b'' < w.heap.size by omega)
          clear hb8
          generalize p.set i l' = RES at *
          go_wp2_with fail
          go_quiet (fail)
          go_wp2_with fail
          go_ret3
          rw [HRES.out]
          exact drop_fin HQL.out (Nat.le_refl _) HPR.out HBR.out ⟨_, rfl⟩

theorem drop_any (A : Option Addr) (n c B : Nat) (p : Pg) (s : ByteArray) (w : World) (hA : PgsAt w B A n p) (hB : B ≤ w.heap.size) (hn : n ≤ 10000) (hm : p.flatten.length ≤ 100000) :
    Calls Try.prog 22 #[.slice A n c, .string s] w (RetDP w (dropP p s)) := by
  by_cases h : rightP p = true ∧ hasL p.flatten s = true
  · exact drop_some A n c B p s w hA hB hn hm h.1 h.2
  · exact drop_err A n c B p s w hA hB hn hm h
end Go.Proofs.Ytflijnhgonigjaa
