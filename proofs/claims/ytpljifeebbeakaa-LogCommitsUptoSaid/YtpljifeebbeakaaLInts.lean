/-
  ROWS OF INTS known whole, and of a call's own; 'make', 'copy' and 'append' of ints for the walk to take. No condition.
-/
import Derived.Test.YtpljifeebbeakaaLWords
import Derived.Laws.CopyOwn
namespace Go.Proofs.Ytpljifeebbeakaa
open Go.RowKit

def ints (l : List Int) : List Value := l.map (Value.int .i64)
theorem ints_len (l : List Int) : (ints l).length = l.length := by simp [ints]
theorem ints_get (l : List Int) (k : Nat) (h : k < l.length) : (ints l)[k]? = some (.int .i64 (l.getD k 0)) := by
  simp [ints, List.getD, List.getElem?_eq_getElem h]

section
variable {w w' : World} {B B' : Nat} {A : Option Addr} {n : Nat} {zs : List Int}
theorem IntsAt.take (h : IntsAt w B A n zs) (m : Nat) (hm : m ≤ n) : IntsAt w B A m (zs.take m) :=
  ⟨by rw [List.length_take, h.1]; omega, fun z hz => h.2.1 z (List.mem_of_mem_take hz), fun k hk => by
    obtain ⟨b, o, e, hb, hc⟩ := h.2.2 k (by omega)
    refine ⟨b, o, e, hb, hc.trans ?_⟩
    simp [List.getD, List.getElem?_take_of_lt hk]⟩
theorem IntsAt.drop {b o : Nat} (h : IntsAt w B (some ⟨b, o, none⟩) n zs) (m : Nat) (hm : m ≤ n) : IntsAt w B (some ⟨b, o + m, none⟩) (n - m) (zs.drop m) :=
  ⟨by rw [List.length_drop, h.1], fun z hz => h.2.1 z (List.mem_of_mem_drop hz), fun k hk => by
    obtain ⟨b', o', e, hb, hc⟩ := h.2.2 (m + k) (by omega)
    cases e
    refine ⟨b, o + m, rfl, hb, ?_⟩
    rw [Nat.add_assoc]
    refine hc.trans ?_
    simp [List.getD]⟩
theorem IntsAt.nil (w : World) (B : Nat) (A : Option Addr) : IntsAt w B A 0 [] := ⟨rfl, by simp, fun _ h => absurd h (Nat.not_lt_zero _)⟩
theorem IntsAt.fit (h : IntsAt w B A n zs) : ∀ z ∈ zs, Fit z := h.2.1
end

/-- block g is a row of the ints l, known whole. -/
def IntRow (w : World) (g : Nat) (l : List Int) : Prop := w.heap[g]? = some (.cells (ints l).toArray 3 (0, 0))
theorem IntRow.lt {w : World} {g : Nat} {l : List Int} (h : IntRow w g l) : g < w.heap.size := (Array.getElem?_eq_some_iff.1 h).1
theorem IntRow.cell {w : World} {g : Nat} {l : List Int} (h : IntRow w g l) (k : Nat) (hk : k < l.length) : w.cell? ⟨g, k, none⟩ = some (.int .i64 (l.getD k 0)) := by
  rw [cell_of_row w g k _ 3 _ h, List.getElem?_toArray]
  exact ints_get l k hk
theorem IntRow.kept {w w' : World} {g : Nat} {l : List Int} {row : Option Nat} (h : IntRow w g l) (hg : w.grownBy w' row) (hne : some g ≠ row) : IntRow w' g l := (hg.block g h.lt hne).trans h
theorem IntRow.below {w w' : World} {g C : Nat} {l : List Int} (h : IntRow w g l) (hb : Below C w w') (hg : g < C) : IntRow w' g l := (hb.block g hg).trans h
theorem IntRow.alloc {w : World} {g : Nat} {l : List Int} (h : IntRow w g l) (o : Obj) : IntRow (w.alloc o) g l := h.kept (World.grownBy_alloc w o none) (by simp)
theorem IntRow.sub {w : World} {g B : Nat} {l : List Int} (h : IntRow w g l) (hf : ∀ z ∈ l, Fit z) (hB : g < B) (off n : Nat) (hn : off + n ≤ l.length) : IntsAt w B (some ⟨g, off, none⟩) n ((l.drop off).take n) :=
  ⟨by simp; omega, fun z hz => hf z (List.mem_of_mem_drop (List.mem_of_mem_take hz)), fun k hk => ⟨g, off, rfl, hB, (h.cell (off + k) (by omega)).trans (by simp [List.getD, List.getElem?_take_of_lt hk])⟩⟩
theorem IntRow.ints {w : World} {g B : Nat} {l : List Int} (h : IntRow w g l) (hf : ∀ z ∈ l, Fit z) (hB : g < B) : IntsAt w B (some ⟨g, 0, none⟩) l.length l := by
  have := h.sub hf hB 0 l.length (by omega)
  simpa using this
theorem IntRow.new (w : World) (l : List Int) : IntRow (w.alloc (.cells (Ytpljifeebbeakaa.ints l).toArray 3)) w.heap.size l := heap_alloc_new w _

theorem info3 : (Try.prog.info? 3).map (fun i => (i.zero, i.size, i.bytes)) = some (some (.int .i64 0), 1, 8) := by kernel_rfl
theorem info3s : (Try.prog.info? 3).map (·.size) = some 1 := by kernel_rfl
/-- 'make([]int, n)', for the walk to take. -/
theorem make_ints (n : Nat) (hn : n ≤ 65536) (W : World) : (Instr.makeSlice 35 (.int .i64 (n : Int)) (.int .i64 (n : Int))).run Try.prog W = .ok (.slice (some ⟨W.heap.size, 0, none⟩) n n) (W.alloc (.cells (ints (List.replicate n 0)).toArray 3)) := by
  obtain ⟨i0, hi, hz0, hz1, hz2⟩ := info_parts info3
  have h := run_make (P := Try.prog) W 35 3 i0 (.int .i64 0) Try.underlying35 hi hz0 .i64 .i64 (n : Int) (n : Int) (by omega) (by omega) (by rw [hz2]; omega) (by omega)
  have e : madeCells (Value.int .i64 0).cells (n * i0.size) = (ints (List.replicate n 0)).toArray := by
    apply Array.toList_inj.1
    have e1 : (Value.int .i64 0).cells = #[.int .i64 0] := rfl
    rw [hz1, Nat.mul_one, e1, toList_madeCells_one]
    simp [ints]
  rw [← e]
  simpa using h

theorem splice_nil {α : Type} (L : List α) (off : Nat) : splice L off [] = L := by simp [splice]
theorem ints_splice (L : List Int) (off : Nat) (cs : List Int) : ints (splice L off cs) = splice (ints L) off (ints cs) := by simp [splice, ints]
/-- 'copy(dst, src)' of ints, dst lying in a row known whole, for the walk to take. -/
theorem copy_ints (W : World) (g off dl dc B : Nat) (A : Option Addr) (n c : Nat) (L zs : List Int) (hg : IntRow W g L) (hfit : off + dl ≤ L.length) (hs : IntsAt W B A n zs) :
    ∃ W', (Builtin.copy_ #[35, 35] 3 #[.slice (some ⟨g, off, none⟩) dl dc, .slice A n c]).run Try.prog W = .ok (goInt (Nat.min n dl)) W' ∧ IntRow W' g (splice L off (zs.take (Nat.min n dl))) ∧ W.grownBy W' (some g) ∧ W'.heap.size = W.heap.size := by
  by_cases h0 : Nat.min n dl = 0
  · refine ⟨W, ?_, ?_, ⟨rfl, rfl, rfl, Nat.le_refl _, fun _ _ _ => rfl⟩, rfl⟩
    · rw [h0]; exact run_copy_none W 35 35 3 3 _ A dl dc n c Try.underlying35 info3s h0
    · rw [h0, List.take_zero, splice_nil]; exact hg
  · have hm : Nat.min n dl ≤ n := Nat.min_le_left n dl
    have hm2 : Nat.min n dl ≤ dl := Nat.min_le_right n dl
    obtain ⟨b, o, rfl, hb, -⟩ := hs.at_ (k := 0) (by omega)
    have hlen : (zs.take (Nat.min n dl)).length = Nat.min n dl := by rw [List.length_take, hs.len]; omega
    have hrun := run_copy_row (P := Try.prog) W 35 35 3 3 g off dl dc ⟨b, o, none⟩ n c (ints L).toArray 3 (ints (zs.take (Nat.min n dl))) Try.underlying35 info3s hg (by rw [ints_len, hlen])
      (fun j v hj => by
        have hj2 : j < Nat.min n dl := by
          have := (List.getElem?_eq_some_iff.1 hj).1
          rwa [ints_len, hlen] at this
        obtain ⟨b', o', e, _, hc⟩ := hs.at_ (k := j) (by omega)
        cases e
        rw [ints_get _ _ (by rw [hlen]; exact hj2)] at hj
        rw [Go.WideShapes.add_plain, hc, ← hj]
        simp [List.getD, List.getElem?_take_of_lt hj2])
      (by simp [ints_len, hlen]; omega) (fun v hv => by obtain ⟨z, _, rfl⟩ := List.mem_map.1 hv; rfl)
    rw [ints_len, hlen] at hrun
    refine ⟨_, hrun, ?_, ?_, by simp [World.setRow]⟩
    · show _ = _
      rw [setRow_heap W g _ _ 3 _ hg, ints_splice]
      simp [splice, ints_len, hlen]
    · exact ⟨rfl, rfl, rfl, by simp [World.setRow], fun k _ hk => setRow_other W g k _ (fun e => hk (by rw [e]))⟩

/-- an answer that is a new slice of ints, whose row is known whole. -/
def RetRow (w : World) (zs : List Int) (e : Ending) (w' : World) : Prop := ∃ g, w.heap.size ≤ g ∧ e = .returned (.slice (some ⟨g, 0, none⟩) zs.length zs.length) ∧ IntRow w' g zs ∧ Below w.heap.size w w'
/-- an answer that is a slice of ints. -/
def RetInts (w : World) (zs : List Int) (e : Ending) (w' : World) : Prop := ∃ A n c, e = .returned (.slice A n c) ∧ IntsAt w' w'.heap.size A n zs ∧ Below w.heap.size w w'

theorem ints_snoc (l : List Int) (z : Int) : ints (l ++ [z]) = ints l ++ [.int .i64 z] := by simp [ints]
theorem ints_one (l : List Int) : ∀ u ∈ ints l, u.oneCell' = true := by
  intro u hu
  obtain ⟨x, _, rfl⟩ := List.mem_map.1 hu
  rfl
theorem ints_at (l : List Int) (k : Nat) (h : k < l.length) : (ints l)[k]? = some (.int .i64 (l.getD k 0)) := by
  simp [ints, List.getD, h]
theorem IntsAt.of_own {w : World} {base : Nat} {v : Value} {A : Option Addr} {c : Nat} {l : List Int} (h : w.ownsRow base 3 1 v l.length (ints l)) (hv : v = .slice A l.length c) (hf : ∀ z ∈ l, Fit z) : IntsAt w w.heap.size A l.length l := by
  refine ⟨rfl, hf, fun k hk => ?_⟩
  obtain ⟨g, cap, e, _, hlt⟩ := h.form (by omega)
  subst hv
  have hA : A = some ⟨g, 0, none⟩ := by injection e
  subst hA
  have hcell := h.cells (g := g) rfl _ _ (ints_at l k hk)
  rw [Go.WideShapes.add_plain] at hcell
  exact ⟨g, 0, rfl, hlt, hcell⟩
theorem own_sliceI {w : World} {base : Nat} {v : Value} {n : Nat} {xs : List Value} (h : w.ownsRow base 3 1 v n xs) : ∃ A c, v = .slice A n c ∧ n ≤ c := by
  rcases h.2 with ⟨rfl, h0⟩ | ⟨g, cap, cur, rfl, _, _, hc, _⟩
  · have : n = 0 := by have := h.1; simp only [Nat.mul_one] at this; omega
    subst this
    exact ⟨none, 0, rfl, Nat.le_refl _⟩
  · exact ⟨_, cap, rfl, by omega⟩

theorem run_append_of_nil {P : Program} (w : World) (base : Nat) (t ty e : TypeId) (i : TypeInfo) (size : Nat) (ht : P.underlying t = some (.slice e)) (hi : P.info? e = some i)
    (v : Value) (n : Nat) (xs : List Value) (hown : w.ownsRow base e size v n xs) (c : Nat) : (Builtin.append_ #[t, t] ty #[v, .slice none 0 c]).run P w = .ok v w := by
  rcases hown.2 with ⟨rfl, rfl⟩ | ⟨g, cap, cur, rfl, _, _, hnc, _⟩
  · simp [Builtin.append_, run_underlying ht, sizeOf, typeInfo, hi, Builtin.lenOf, Builtin.firstCells]
  · simp [Builtin.append_, run_underlying ht, sizeOf, typeInfo, hi, Builtin.lenOf, Builtin.firstCells, hnc, storeCells]
set_option maxRecDepth 100000 in
/-- append of a list that lies in any memory. -/
theorem joinI_law {ops : Array Oper} {rest : List Oper} {o : Oper} {a : Act} {Q : Exit → Act → World → Prop} (hgd : o.guard = none) (s x : Operand)
    (ho : o.op = .call { callee := .builtin .append, args := #[s, x], argTypes := #[35, 35] })
    (base : Nat) (W : World) (v : Value) (l : List Int) (hs : a.eval s = v) (B : Nat) (A : Option Addr) (m c : Nat) (l2 : List Int) (hx : a.eval x = .slice A m c)
    (hown : W.ownsRow base 3 1 v l.length (ints l)) (hA : IntsAt W B A m l2) (hl : l.length + m ≤ 100000) (hbase : base ≤ W.heap.size)
    (h : ∀ v' w', w'.ownsRow base 3 1 v' (l ++ l2).length (ints (l ++ l2)) → Below base W w' → wpList Try.prog ops Q rest (a.put o.dst v') w') :
    wpList Try.prog ops Q (o :: rest) a W := by
  obtain ⟨i0, hi, hz0, hz1, hz2⟩ := info_parts info3
  cases A with
  | none =>
    have hm : m = 0 := by
      rcases Nat.eq_zero_or_pos m with h0 | h0
      · exact h0
      · obtain ⟨b, o, e, _⟩ := hA.at_ h0; cases e
    subst hm
    have hl2 : l2 = [] := List.eq_nil_of_length_eq_zero hA.len
    subst hl2
    refine wpList_plain hgd fun K hK => ?_
    have hrun := run_append_of_nil (P := Try.prog) W base 35 o.type 3 i0 1 Try.underlying35 hi v l.length (ints l) hown c
    unfold Oper.wp
    simp [execOp, ho, resolve, invoke, builtin, hs, hx, hrun, Result.andThen]
    exact hK _ _ (h v W (by rw [List.append_nil]; exact hown) (Below.refl _ _))
  | some ad =>
    refine wpList_append_own _ hgd s x 35 ho base 3 i0 _ 1 8 Try.underlying35 hi hz0 hz1 hz2 rfl (by decide) v l.length (ints l) hs hown ad m c (ints l2) hx (by rw [ints_len, hA.len, Nat.mul_one])
      ?_ (ints_one l2) (by unfold maxLen; omega) (by omega) hbase ?_
    · intro j u hj
      have hlt : j < (ints l2).length := (List.getElem?_eq_some_iff.1 hj).1
      rw [ints_len] at hlt
      obtain ⟨b, o, e1, _, h1⟩ := hA.at_ (k := j) (by rw [← hA.len]; exact hlt)
      injection e1 with e1
      subst e1
      rw [Go.WideShapes.add_plain, h1, ← ints_at l2 j hlt, hj]
    · intro v' w' hown' hg _
      refine h v' w' ?_ ?_
      · rw [ints, List.map_append, List.length_append, hA.len]; exact hown'
      · exact (Below.refl base W).grown hg hbase (fun k hk => (hown.lt k hk).1)

theorem pushI_law {ops : Array Oper} {rest : List Oper} {o : Oper} {a : Act} {Q : Exit → Act → World → Prop} (hgd : o.guard = none) (s x : Operand)
    (ho : o.op = .call { callee := .builtin .append, args := #[s, x], argTypes := #[35, 35] })
    (base : Nat) (W : World) (v : Value) (l : List Int) (z : Int) (hs : a.eval s = v) (hx : a.eval x = .slice (some ⟨W.heap.size, 0, none⟩) 1 1)
    (hown : W.ownsRow base 3 1 v l.length (ints l)) (hl : l.length ≤ 1000000) (hbase : base ≤ W.heap.size)
    (h : ∀ v' w', w'.ownsRow base 3 1 v' (l ++ [z]).length (ints (l ++ [z])) → Below base W w' → wpList Try.prog ops Q rest (a.put o.dst v') w') :
    wpList Try.prog ops Q (o :: rest) a (W.alloc (.cells #[.int .i64 z] 3)) := by
  obtain ⟨i0, hi, hz0, hz1, hz2⟩ := info_parts info3
  refine wpList_append_own _ hgd s x 35 ho base 3 i0 _ 1 8 Try.underlying35 hi hz0 hz1 hz2 rfl (by decide) v l.length (ints l) hs (hown.alloc _) ⟨W.heap.size, 0, none⟩ 1 1 [.int .i64 z] hx rfl
    (World.news_of_block (heap_alloc_new W _)) (one_cell_int _ z) (by unfold maxLen; omega) (by omega) (by simp; omega) ?_
  intro v' w' hown' hg _
  refine h v' w' ?_ ?_
  · rw [ints_snoc, List.length_append]; exact hown'
  · exact (((Below.refl base W).alloc hbase _).grown hg (by simp; omega) (fun k hk => (hown.lt k hk).1))
end Go.Proofs.Ytpljifeebbeakaa
