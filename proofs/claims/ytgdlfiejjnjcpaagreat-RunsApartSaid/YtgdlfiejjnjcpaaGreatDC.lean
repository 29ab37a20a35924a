/-
  WALKS of a deal: put, has, changes. Conditions: at most 2000 changes.
-/
import Derived.Test.YtgdlfiejjnjcpaaGreatDB
set_option linter.unusedVariables false
set_option linter.unusedSimpArgs false
set_option maxRecDepth 100000
set_option maxHeartbeats 4000000
namespace Go.Proofs.YtgdlfiejjnjcpaaGreat.Dl
open Go.RowKit
open Sl (Turns SlabAt)
open Lg (Ch chCells chsCells chsCells_len chsCells_at chsCells_set Fit ChsAt FS LogAt Whole setL setL_len)

def ownL (v : Value) : List Nat := match v.ownBlock with | some g => [g] | none => []
theorem ownL_mem {v : Value} {g : Nat} : g ∈ ownL v ↔ v.ownBlock = some g := by
  unfold ownL
  cases v.ownBlock with
  | none => simp
  | some k => simp; exact eq_comm
theorem set_self {xs : List Value} {k : Nat} {v : Value} (h : xs[k]? = some v) : xs.set k v = xs := by
  apply List.ext_getElem?
  intro j
  by_cases e : k = j
  · subst e
    rw [List.getElem?_set_self (List.getElem?_eq_some_iff.1 h).1, h]
  · rw [List.getElem?_set_ne e]
theorem cells_dt {l : List Ch} {k : Nat} (hk : k < l.length) (s : ByteArray) : (chsCells l).set (k * 2 + 1) (.string s) = chsCells (l.set k ⟨(gC l k).bk, s⟩) := by
  rw [← chsCells_set l k ⟨(gC l k).bk, s⟩ hk]
  have h := set_self (chsCells_at l k hk).1
  show _ = ((chsCells l).set (k * 2) (.int .i64 (gC l k).bk)).set (k * 2 + 1) (.string s)
  unfold gC
  rw [h]
theorem ins_set (l : List Ch) (i : Nat) (x y : Ch) (h : i ≤ l.length) : (insL l i x).set i y = insL l i y := by
  unfold insL
  have ht : (l.take i).length = i := by rw [List.length_take]; omega
  conv => lhs; arg 2; rw [← ht]
  exact set_mid _ _ _ _
theorem ins_get (l : List Ch) (i : Nat) (x : Ch) (h : i ≤ l.length) : gC (insL l i x) i = x := by
  unfold gC insL
  have ht : (l.take i).length = i := by rw [List.length_take]; omega
  rw [List.getD_eq_getElem?_getD, List.getElem?_append_right (by omega), ht]
  simp

/-- what put leaves. -/
def Put (w : World) (B d q : Nat) (v : Value) (l : List Ch) (w' : World) : Prop :=
  ∃ v', DealAt w' d q v' ∧ w'.ownsRow B 68 2 v' l.length (chsCells l) ∧ Turns (d :: ownL v) w w'

theorem put_any (B d q : Nat) (v : Value) (l : List Ch) (i : Int) (s : ByteArray) (w : World) (hd : DealAt w d q v) (h : w.ownsRow B 68 2 v l.length (chsCells l)) (ha : Asc l) (hl : l.length ≤ 1500) (hB : B ≤ w.heap.size) (hdB : d < B) :
    Calls Tryz.prog 53 #[.pointer (some ⟨d, 0, none⟩), .int .i64 i, .string s] w fun e w' => e = .returned (.tuple #[]) ∧ Put w B d q v (putW l i s) w' := by
  have HF := Lib.hid (find_any B d q v l i w hd h ha (by omega))
  have HPL := Lib.hid (pos_le l i)
  unfold putW
  cases hh : hitW l i with
  | true =>
    have hp := hit_lt hh
    obtain ⟨g, cap, rfl, hBg, hg, q0, q1⟩ := row_gt h hp
    have hbk : (gC l (posW l i)).bk = i := by
      unfold hitW at hh
      simp only [Bool.and_eq_true, decide_eq_true_eq] at hh
      exact hh.2
    rw [hh] at HF
    rw [if_pos rfl]
    have c0 := hd.c0
    have hdl := hd.lt
    have H := Lib.hid h
    have HD := Lib.hid hd
    have HK := Lib.hid hbk
    have HN := Lib.hid hp
    clear hd h ha hbk hh hp
    generalize hpw : posW l i = pw at *
    generalize (gC l pw).dt = s0 at *
    generalize hn : l.length = n at *
    clear hpw
    go_enter Tryz.func53, Tryz.ntmps53
    go_wp2_with (go_at_call 85; refine HF.out.mono ?_; rintro e w' ⟨rfl, hb⟩; have c0' := (hb.cell (p := ⟨d, 0, none⟩) hdl).trans c0; have c1' := (hb.cell (p := ⟨g, pw * 2 + 1, none⟩) hg).trans q1; have h2 := Lib.hid (Lg.own_below H.out hb (Nat.le_refl _)); have f1 := h2.out.frozenAt (pw * 2 + 1); have hlt := Lib.hid HN.out; have hlt' := HN.out)
    go_end0
    refine ⟨rfl, .slice (some ⟨g, 0, none⟩) n cap, ?_, ?_, ?_⟩
    · refine (HD.out.turns (L := []) (Turns.of_below _ hb) (by simp)).turns (L := [g]) (Turns.setCell _ (by simp) _) ?_
      simp; omega
    · have h3 := (h2.out.stored (pw * 2 + 1) (.string s)).1
      rw [cells_dt (by omega)] at h3
      rw [HK.out] at h3
      rw [List.length_set, hn]
      exact h3
    · refine (Turns.of_below _ hb).trans (Turns.setCell _ ?_ _)
      simp [ownL, Value.ownBlock]
  | false =>
    rw [hh] at HF
    rw [if_neg (by decide)]
    have c0 := hd.c0
    have hdl := hd.lt
    have H := Lib.hid h
    have HD := Lib.hid hd
    have HFA := Lib.hid (fun (W : World) (hW : W.ownsRow B 68 2 v l.length (chsCells l)) (hWB : B ≤ W.heap.size) (vb : Nat) (hvb : W.heap[vb]? = some (.cells (chCells ⟨i, ⟨#[]⟩⟩).toArray 68 (0, 0))) (hne : v.ownBlock ≠ some vb) => insert_any B v l ⟨i, ⟨#[]⟩⟩ (posW l i) vb W hW (by omega) HPL.out hWB hvb hne)
    have HV := Lib.hid (h.lt)
    clear hd h ha hh
    generalize hpw : posW l i = pw at *
    clear hpw
    go_enter Tryz.func53, Tryz.ntmps53
    go_wp2_with (first
      | (go_at_call 85; refine HF.out.mono ?_; rintro e w1 ⟨rfl, hb⟩; have c0' := (hb.cell (p := ⟨d, 0, none⟩) hdl).trans c0)
      | (go_at_call 86; refine (HFA.out _ ((Lg.own_below H.out hb (Nat.le_refl _)).alloc _) (by have := hb.size; simp; omega) w1.heap.size (heap_alloc_new w1 _) (fun e => by have := (HV.out _ e).2; have := hb.size; omega)).mono ?_
         rintro e w2 ⟨v', rfl, hr, hgr, hwh⟩
         have HT := Lib.hid ((Turns.of_below [] hb).trans (Turns.alloc [] w1 (.cells (chCells ⟨i, ⟨#[]⟩⟩).toArray 68)))
         have hD1 := HD.out.turns HT.out (by simp)
         have hT2 : Turns (ownL v) w w2 := (HT.out.mono (by simp)).trans (Turns.of_grown hgr (fun j hj => ownL_mem.2 hj))
         have hD2 : DealAt w2 d q v := HD.out.turns hT2 (fun e => by have := (HV.out _ (ownL_mem.1 e)).1; omega)
         have hD3 := hD2.set v'
         have hlen : (insL l pw ⟨i, ⟨#[]⟩⟩).length = l.length + 1 := insL_len _ _ _
         obtain ⟨g, cap, hvf, hBg, hgl, q0, q1⟩ := row_gt hr (k := pw) (by have := HPL.out; omega)
         rw [hlen] at hvf
         subst hvf
         have hne : g ≠ d := by omega
         have h3 : (w2.setCell ⟨d, 0, none⟩ (.slice (some ⟨g, 0, none⟩) (l.length + 1) cap)).ownsRow B 68 2 (.slice (some ⟨g, 0, none⟩) (l.length + 1) cap) (insL l pw ⟨i, ⟨#[]⟩⟩).length (chsCells (insL l pw ⟨i, ⟨#[]⟩⟩)) :=
           hr.kept (Turns.setCell (L := [d]) w2 (p := ⟨d, 0, none⟩) (by simp) _).grown1 (.inr (fun e => hne (Option.some.inj e)))
         have c0' := hD2.c0
         have f0' := hD2.fz 0
         have c0'' := hD3.c0
         have H3 := Lib.hid h3
         have hlt := HPL.out
         have hlt2 : pw < l.length + 1 := by omega
         have hlt3 : (pw : Int) < (l.length : Int) + 1 := by omega
         have f1 : (w2.setCell ⟨d, 0, none⟩ (.slice (some ⟨g, 0, none⟩) (l.length + 1) cap)).frozen? ⟨g, pw * 2 + 1, none⟩ = false := by
           have h4 := h3
           rw [hlen] at h4
           exact h4.frozenAt (pw * 2 + 1)
         obtain ⟨g4, cap4, hv4, _, _, q2, q3⟩ := row_gt h3 (k := pw) (by omega)
         have e4 : g4 = g := by
           injection hv4 with e1 _ _
           injection e1 with e1
           injection e1 with e1
           exact e1.symm
         rw [e4] at q3
         clear hv4 e4
         have HDD := Lib.hid hD3
         have HTT := Lib.hid hT2
         have HLL := Lib.hid hlen
         have HW := Lib.hid hwh
         clear hD1 hD2 hD3 hr h3 hgr hT2 hlen q0 q1 q2 hwh))
    go_end0
    refine ⟨rfl, .slice (some ⟨g, 0, none⟩) (l.length + 1) cap, ?_, ?_, ?_⟩
    · refine HDD.out.turns (L := [g]) (Turns.setCell _ (by simp) _) ?_
      simp; omega
    · have h5 := H3.out
      rw [HLL.out] at h5
      have h6 := (h5.stored (pw * 2 + 1) (.string s)).1
      rw [cells_dt (by rw [HLL.out]; omega), ins_get _ _ _ HPL.out, ins_set _ _ _ _ HPL.out] at h6
      rw [insL_len]
      exact h6
    · refine ((HTT.out.mono (by intro j hj; simp [hj])).trans (Turns.setCell _ (by simp) _)).transNew (Turns.setCell (L := [g]) _ (by simp) _) ?_
      intro j hj
      rw [List.mem_singleton.1 hj]
      rcases HW.out g rfl with h | h
      · exact .inl (List.mem_cons_of_mem _ (ownL_mem.2 h))
      · have := hb.size
        have := World.size_alloc w1 (.cells (chCells ⟨i, ⟨#[]⟩⟩).toArray 68)
        exact .inr (by omega)
end Go.Proofs.YtgdlfiejjnjcpaaGreat.Dl
