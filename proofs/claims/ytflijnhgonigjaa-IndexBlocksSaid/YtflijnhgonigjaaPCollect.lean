/-
  WALKS: slices.AppendSeq, slices.Collect over the chunks of nine entries. Conditions: at most 40000 entries.
-/
import Derived.Test.YtflijnhgonigjaaPChunk
import Derived.Test.YtflijnhgonigjaaPClone
namespace Go.Proofs.Ytflijnhgonigjaa
open Go.RowKit Go.Shelf
attribute [local go_sem] Oper.semAt_some

theorem grown_below {w w' : World} (h : Below w.heap.size w w') : w.grownBy w' none := ⟨h.os, h.tape, h.output, h.size, fun k hk _ => h.block k hk⟩
theorem row_tag {w : World} {base n sz : Nat} {e : TypeId} {v : Value} {xs : List Value} (h : w.ownsRow base e sz v n xs) {b : Nat} (hb : v.ownBlock = some b) : ∃ cs, w.heap[b]? = some (.cells cs e (0, 0)) := by
  rcases h.2 with ⟨rfl, -⟩ | ⟨g, cap, cur, rfl, _, hg, _⟩
  · simp [Value.ownBlock] at hb
  · have : g = b := by simpa [Value.ownBlock] using hb
    subst this
    exact ⟨cur, hg⟩
def chunkVal (b o m : Nat) {q : Nat} (x : Fin q) : Value := .slice (some ⟨b, o + 9 * x.1 * 2, none⟩) (lenC m x.1) (lenC m x.1)
theorem chunkVal_one (b o m : Nat) {q : Nat} (x : Fin q) : ∀ u ∈ [chunkVal b o m x], u.oneCell' = true := by
  intro u hu
  obtain rfl : u = chunkVal b o m x := by simpa using hu
  rfl
/-- the end of a round: the page is appended, the row stored in its box. -/
theorem seq_end {w W W6 : World} {N p B1 B2 m : Nat} {v v' : Value} {xs ys : List Value} {u : Value} (hbox : Boxed W p 22 v) (hrow : W.ownsRow N 27 1 v m xs) (hN : N ≤ W.heap.size) (hb : Below w.heap.size w W)
    (hp : w.heap.size ≤ p) (hpN : p < N) (h1 : B1 < N) (h2 : B2 < N) (hp1 : B1 ≠ p) (hp2 : B2 ≠ p)
    (hg : (W.alloc (.cells #[u] 27)).grownBy W6 v.ownBlock) (hr : W6.ownsRow N 27 1 v' (m + 1) ys) :
    KeepsOthers W (W6.setCell ⟨p, 0, none⟩ v') ∧ KpC B1 B2 W (W6.setCell ⟨p, 0, none⟩ v') ∧ Boxed (W6.setCell ⟨p, 0, none⟩ v') p 22 v' ∧ (W6.setCell ⟨p, 0, none⟩ v').ownsRow N 27 1 v' (m + 1) ys ∧
      N ≤ (W6.setCell ⟨p, 0, none⟩ v').heap.size ∧ Below w.heap.size w (W6.setCell ⟨p, 0, none⟩ v') := by
  have hba : Below W.heap.size W (W.alloc (.cells #[u] 27)) := (Below.refl _ _).alloc (Nat.le_refl _) _
  have hga := grown_below hba
  have hrowa := own_below hrow hba (Nat.le_refl _)
  have hlow : ∀ k, k < N → W6.heap[k]? = W.heap[k]? := fun k hk => by
    rw [hg.block k (by have := hba.size; omega) (fun e => by have := (hrowa.lt k e.symm).1; omega)]
    exact hba.block k (by omega)
  have hbox6 : Boxed W6 p 22 v := (hlow p hpN).trans hbox
  refine ⟨((KeepsOthers.of_grownBy hga (fun j o e => by cases e)).trans (KeepsOthers.of_grownBy hg fun j o e ho => ?_)).trans (KeepsOthers.setCell _ _ _), ⟨?_, ?_⟩, hbox6.set v', ?_, ?_, ?_⟩
  · obtain ⟨cs, hcs⟩ := row_tag hrowa e
    rw [hcs] at ho; cases ho; rfl
  · rw [heap_setCell_other _ _ _ _ (by exact hp1)]; exact hlow B1 h1
  · rw [heap_setCell_other _ _ _ _ (by exact hp2)]; exact hlow B2 h2
  · exact hr.kept (grownBy_setCell' _ _ _) (Or.inr fun e => by have := (hr.lt p e).1; omega)
  · have := (grownBy_setCell' W6 p v').size; have := hg.size; have := hba.size; omega
  · exact ((hb.trans (hba.mono hb.size)).grown hg (by have := hba.size; have := hb.size; omega) (fun k e => by have := (hrowa.lt k e).1; have := hb.size; omega)).setCell hp _

/-- the state behind the chunks pre: the row of pages in its box, what lies below. -/
def SeqAt (w : World) (N p b o m : Nat) {q : Nat} (pre : List (Fin q)) (W : World) : Prop :=
  (∃ v, Boxed W p 22 v ∧ W.ownsRow N 27 1 v pre.length (pre.map (chunkVal b o m)) ∧ True) ∧ N ≤ W.heap.size ∧ Below w.heap.size w W
theorem SeqAt.own (w : World) (N p b o m : Nat) {q : Nat} {C : Nat} (hC : w.heap.size ≤ C) : OwnFrom C (SeqAt w N p b o m (q := q)) :=
  ((holdsRow_own N p 22 27 1 (fun pre : List (Fin q) => pre.length) (fun pre => pre.map (chunkVal b o m)) (fun _ _ => True)).from C).and
    (fun _ _ _ _ hs hg hr => ⟨Nat.le_trans hs.1 hg.size, hs.2.grown hg hs.2.size (fun k e => Nat.le_trans hC (hr k e).1)⟩)
def RetVals (w : World) (xs : List Value) (e : Ending) (w' : World) : Prop := ∃ v, e = .returned v ∧ w'.ownsRow w.heap.size 27 1 v xs.length xs ∧ Below w.heap.size w w'

set_option maxRecDepth 100000 in
set_option maxHeartbeats 8000000 in
theorem appendSeq_any (B1 B2 b o q m c : Nat) (hc : m ≤ c) (hm : m ≤ 40000) (hqm : ∀ k, k < q ↔ 9 * k < m) (w : World) (hB1 : Boxed w B1 27 (.slice (some ⟨b, o, none⟩) m c)) (hB2 : Boxed w B2 3 (.int .i64 9)) :
    Calls Try.prog 67 #[.slice none 0 0, .func (.func 68) #[] #[.pointer (some ⟨B1, 0, none⟩), .pointer (some ⟨B2, 0, none⟩)]] w (RetVals w ((List.finRange q).map (chunkVal b o m))) := by
  have hl1 := hB1.lt
  have hl2 := hB2.lt
  refine (callsIn_wide (n := 5)).1 ?_
  refine callsIn_of_wp_marks Try.func67 rfl trivial ?_ rfl
  simp only [Try.ntmps67, List.size_toArray, List.length_cons, List.length_nil, Nat.reduceAdd, Nat.reduceSub, Array.replicate_succ, Array.replicate_zero, List.push_toArray, List.append_toArray, List.nil_append, List.cons_append]
  gi_wp2
  obtain ⟨W0, hW0⟩ : ∃ W0, (w.alloc (.cells #[.slice none 0 0] 22)) = W0 := ⟨_, rfl⟩
  have hsz : W0.heap.size = w.heap.size + 1 := by rw [← hW0]; simp
  have hbP : Boxed W0 w.heap.size 22 (.slice none 0 0) := by rw [← hW0]; exact Boxed.new w 22 _
  have hb1 : Boxed W0 B1 27 (.slice (some ⟨b, o, none⟩) m c) := by rw [← hW0]; exact hB1.alloc _
  have hb2 : Boxed W0 B2 3 (.int .i64 9) := by rw [← hW0]; exact hB2.alloc _
  have hB0 : Below w.heap.size w W0 := by rw [← hW0]; exact (Below.refl _ _).alloc (Nat.le_refl _) _
  rw [hW0]
  clear hW0
  have hszl : w.heap.size < W0.heap.size := by omega
  clear hsz
  refine wpIn_rangeFunc_ownF rfl (by omega) (gf := 68) (lb := #[.pointer (some ⟨B1, 0, none⟩), .pointer (some ⟨B2, 0, none⟩)]) rfl trivial (enters_of Try.func68 (by kernel_rfl) rfl)
    (iterC_stops Fence.wide _ trivial rfl (by omega) B1 B2 b o q m c hc hm hqm W0 hb1 hb2) KpC.t (KpC.b (by omega) (by omega)) (Below.refl _ _) (fun _ => rfl)
    (SeqAt w W0.heap.size w.heap.size b o m (q := q)) (fun _ _ _ => False) (SeqAt.own w _ _ b o m (by omega)) (fun _ _ _ _ _ hs _ _ => hs)
    ⟨⟨_, hbP, World.ownsRow_nil _ _ _ _, trivial⟩, Nat.le_refl _, hB0⟩
    (fun x => { tmps := #[.slice none 0 0, .func (.func 68) #[] #[.pointer (some ⟨B1, 0, none⟩), .pointer (some ⟨B2, 0, none⟩)], .pointer (some ⟨w.heap.size, 0, none⟩), undef, .slice none 0 0, chunkVal b o m x, .func (.func 68) #[] #[.pointer (some ⟨B1, 0, none⟩), .pointer (some ⟨B2, 0, none⟩)], chunkVal b o m x, undef, undef, undef, undef, undef], defers := [] })
    ?assign ?body ?done ?stop
  case assign =>
    intro l x W K hK
    simp only [chunkV]
    gi_wp2
    exact hK
  case body =>
    rintro lr pre x W ⟨⟨v, hbox, hrow, -⟩, hsz', hb'⟩ hpq
    have HBOX := Lib.hid hbox
    have HROW := Lib.hid hrow
    have HB := Lib.hid hb'
    have hcell := hbox.cell
    have HLX := Lib.hid (chunkVal_one b o m x)
    have HPRE : Hid (((pre ++ [x]).map (chunkVal b o m)) = pre.map (chunkVal b o m) ++ [chunkVal b o m x]) := by show _ = _; simp
    have HPL : Hid ((pre ++ [x]).length = pre.length + 1) := by show _ = _; simp
    have hpl : pre.length ≤ 100000 := by
      rcases Nat.lt_or_ge 100000 q with h | h
      · have := (hqm 100000).1 h; omega
      · omega
    have HSE := Lib.hid (fun W6 v' ys hg hr => seq_end (w := w) (W := W) (W6 := W6) (N := W0.heap.size) (p := w.heap.size) (B1 := B1) (B2 := B2) (m := pre.length) (v := v) (v' := v') (ys := ys) (u := chunkVal b o m x) hbox hrow hsz' hb' (Nat.le_refl _) (by omega) (by omega) (by omega) (by omega) (by omega) hg hr)
    clear hbox hrow hb'
    simp only [chunkVal] at HLX HPRE HSE HROW ⊢
    generalize pre.map (chunkVal b o m) = xs at *
    generalize o + 9 * x.1 * 2 = ox at *
    generalize lenC m x.1 = e at *
    obtain ⟨i0, hi, hz0, hz1, hz2⟩ := info_parts info27
    gi_wp2_with (gi_at_builtin; refine wpListIn_append_own _ rfl (.tmp 8) (.tmp 10) 22 rfl W0.heap.size 27 i0 _ 1 24 Try.underlying22 hi hz0 hz1 hz2 rfl (by decide) v pre.length xs rfl (HROW.out.alloc _) ⟨W.heap.size, 0, none⟩ 1 1 [.slice (some ⟨b, ox, none⟩) e e] rfl rfl (World.news_of_block (heap_alloc_new W _)) HLX.out (by unfold maxLen; omega) (by omega) (by simp; omega) ?_)
    intro v' w6 ho6 hg6 _
    have HQ := Lib.hid (HSE.out w6 v' _ hg6 ho6)
    have hbx6 : Boxed w6 w.heap.size 22 v := by
      have hb3 := HBOX.out.alloc (.cells #[.slice (some ⟨b, ox, none⟩) e e] 27)
      exact hb3.kept hg6 (hb3.not_row (by decide) (HROW.out.alloc _))
    obtain ⟨A6, c6, rfl, -⟩ := own_slice ho6
    have k6 := hbx6.cell
    have f6 := hbx6.frozen
    clear ho6 hg6 hbx6
    gi_wp2
    obtain ⟨q1, q2, q3, q4, q5, q6⟩ := HQ.out
    refine ⟨q1, q2, ⟨_, q3, ?_, trivial⟩, q5, q6⟩
    rw [HPRE.out, HPL.out]
    exact q4
  case done =>
    rintro D xs W hD rfl ⟨⟨v, hbox, hrow, -⟩, hsz', hb'⟩ hK
    have hc0 := hbox.cell
    have e1 : firstsC q q = List.finRange q := by unfold firstsC; rw [List.take_of_length_le (by simp)]
    rw [e1] at hrow
    have HROW := Lib.hid hrow
    have HB := Lib.hid hb'
    clear hrow hb' e1 hbox
    gi_wp2
    refine ⟨by simp, .inl ⟨_, _, rfl, run_takeDeferred hK, ?_⟩⟩
    refine ⟨_, results_tmp rfl _ _ _, v, rfl, ?_, ?_⟩
    · rw [List.length_map]
      exact own_base (HROW.out.kept (grownBy_putObj' W D _) (Or.inr fun e => by obtain ⟨cs, hcs⟩ := row_tag HROW.out e; rw [hK] at hcs; cases hcs)) (by omega)
    · exact HB.out.trans (belowK_b (w := w) (Nat.le_refl _) W D _ _ (by omega) hK rfl rfl)
  case stop =>
    rintro D c pre W _ _ h _
    exact h.elim
theorem iterC_zero (F : Fence) (n : Nat) (h49 : F.fn 68) (hro : F.round = none) (B1 B2 : Nat) (A : Option Addr) (c : Nat) (w : World) (hB1 : Boxed w B1 27 (.slice A 0 c)) :
    SeqStopsK F n Try.prog 68 #[.pointer (some ⟨B1, 0, none⟩), .pointer (some ⟨B2, 0, none⟩)] (chunkV 0 0 0 (q := 0)) (KpC B1 B2) (fun xs => xs = []) (fun _ => True) 0 w :=
  fun l J _ W hW _ _ _ h0 => (iterC_none F n h49 hro l B1 B2 A c W ((hW.block B1 hB1.lt).trans hB1) J h0).mono fun _ _ h => ⟨h.1, .inl ⟨[], rfl, h.2⟩⟩
set_option maxRecDepth 100000 in
set_option maxHeartbeats 8000000 in
theorem appendSeq_zero (B1 B2 : Nat) (A : Option Addr) (c : Nat) (w : World) (hB1 : Boxed w B1 27 (.slice A 0 c)) (hB2 : Boxed w B2 3 (.int .i64 9)) :
    Calls Try.prog 67 #[.slice none 0 0, .func (.func 68) #[] #[.pointer (some ⟨B1, 0, none⟩), .pointer (some ⟨B2, 0, none⟩)]] w (RetVals w []) := by
  have hl1 := hB1.lt
  have hl2 := hB2.lt
  refine (callsIn_wide (n := 5)).1 ?_
  refine callsIn_of_wp_marks Try.func67 rfl trivial ?_ rfl
  simp only [Try.ntmps67, List.size_toArray, List.length_cons, List.length_nil, Nat.reduceAdd, Nat.reduceSub, Array.replicate_succ, Array.replicate_zero, List.push_toArray, List.append_toArray, List.nil_append, List.cons_append]
  gi_wp2
  obtain ⟨W0, hW0⟩ : ∃ W0, (w.alloc (.cells #[.slice none 0 0] 22)) = W0 := ⟨_, rfl⟩
  have hsz : W0.heap.size = w.heap.size + 1 := by rw [← hW0]; simp
  have hbP : Boxed W0 w.heap.size 22 (.slice none 0 0) := by rw [← hW0]; exact Boxed.new w 22 _
  have hb1 : Boxed W0 B1 27 (.slice A 0 c) := by rw [← hW0]; exact hB1.alloc _
  have hb2 : Boxed W0 B2 3 (.int .i64 9) := by rw [← hW0]; exact hB2.alloc _
  have hB0 : Below w.heap.size w W0 := by rw [← hW0]; exact (Below.refl _ _).alloc (Nat.le_refl _) _
  rw [hW0]
  clear hW0
  have hszl : w.heap.size < W0.heap.size := by omega
  clear hsz
  refine wpIn_rangeFunc_ownF rfl (by omega) (gf := 68) (lb := #[.pointer (some ⟨B1, 0, none⟩), .pointer (some ⟨B2, 0, none⟩)]) rfl trivial (enters_of Try.func68 (by kernel_rfl) rfl)
    (iterC_zero Fence.wide _ trivial rfl B1 B2 A c W0 hb1) KpC.t (KpC.b (by omega) (by omega)) (Below.refl _ _) (fun _ => rfl)
    (SeqAt w W0.heap.size w.heap.size 0 0 0 (q := 0)) (fun _ _ _ => False) (SeqAt.own w _ _ 0 0 0 (by omega)) (fun _ _ _ _ _ hs _ _ => hs)
    ⟨⟨_, hbP, World.ownsRow_nil _ _ _ _, trivial⟩, Nat.le_refl _, hB0⟩
    (fun x => { tmps := #[.slice none 0 0, .func (.func 68) #[] #[.pointer (some ⟨B1, 0, none⟩), .pointer (some ⟨B2, 0, none⟩)], .pointer (some ⟨w.heap.size, 0, none⟩), undef, .slice none 0 0, chunkVal 0 0 0 x, .func (.func 68) #[] #[.pointer (some ⟨B1, 0, none⟩), .pointer (some ⟨B2, 0, none⟩)], chunkVal 0 0 0 x, undef, undef, undef, undef, undef], defers := [] })
    ?assign ?body ?done ?stop
  case assign =>
    intro l x
    exact x.elim0
  case body =>
    intro lr pre x
    exact x.elim0
  case done =>
    rintro D xs W hD rfl ⟨⟨v, hbox, hrow, -⟩, hsz', hb'⟩ hK
    have hc0 := hbox.cell
    have HROW := Lib.hid hrow
    have HB := Lib.hid hb'
    clear hrow hb' hbox
    gi_wp2
    refine ⟨by simp, .inl ⟨_, _, rfl, run_takeDeferred hK, ?_⟩⟩
    refine ⟨_, results_tmp rfl _ _ _, v, rfl, ?_, ?_⟩
    · exact own_base (HROW.out.kept (grownBy_putObj' W D _) (Or.inr fun e => by obtain ⟨cs, hcs⟩ := row_tag HROW.out e; rw [hK] at hcs; cases hcs)) (by omega)
    · exact HB.out.trans (belowK_b (w := w) (Nat.le_refl _) W D _ _ (by omega) hK rfl rfl)
  case stop =>
    rintro D c pre W _ _ h _
    exact h.elim
end Go.Proofs.Ytflijnhgonigjaa
