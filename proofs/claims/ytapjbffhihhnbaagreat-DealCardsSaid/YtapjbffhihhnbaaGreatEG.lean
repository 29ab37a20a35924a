/-
  PLAIN MATHEMATICS of cards and crowns that are set; a row of cards in memory, that grows by append. No condition.
-/
import Derived.Test.YtapjbffhihhnbaaGreatEF
import Derived.Deep.AppendLies
set_option linter.unusedVariables false
set_option linter.unusedSimpArgs false
set_option maxRecDepth 100000
set_option maxHeartbeats 4000000
namespace Go.Proofs.YtapjbffhihhnbaaGreat.Dl
open Go.RowKit
open Sl (Turns SlabAt)
open Lg (FS LogAt Whole ownB bcell)
open Kr (rightK blockK okK kf kb kc)

theorem pick_list {α : Type} (l cl : List α) (hl : l.length = 128) (hc : cl.length = 32) (k i : Nat) (hk : k ≤ 3) (hi : i ≤ 3) :
    ((l.take (32 * k) ++ cl ++ l.drop (32 * k + 32)).drop (32 * i)).take 32 = if i = k then cl else (l.drop (32 * i)).take 32 := by
  apply List.ext_getElem?
  intro j
  by_cases hj : j < 32
  · by_cases hik : i = k
    · subst hik
      rw [if_pos rfl, List.getElem?_take_of_lt hj, List.getElem?_drop, List.append_assoc, List.getElem?_append_right (by simp; omega), List.getElem?_append_left (by simp; omega)]
      congr 1
      simp; omega
    · rw [if_neg hik, List.getElem?_take_of_lt hj, List.getElem?_drop, List.getElem?_take_of_lt hj, List.getElem?_drop]
      rcases Nat.lt_or_gt_of_ne hik with h | h
      · rw [List.append_assoc, List.getElem?_append_left (by simp; omega), List.getElem?_take_of_lt (by omega)]
      · rw [List.getElem?_append_right (by simp; omega), List.getElem?_drop]
        congr 1
        simp; omega
  · rw [List.getElem?_eq_none (by simp; omega)]
    split
    · rw [List.getElem?_eq_none (by omega)]
    · rw [List.getElem?_eq_none (by simp; omega)]
theorem ext_list (s : ByteArray) (a n : Nat) : (s.extract a (a + n)).data.toList = (s.data.toList.drop a).take n := by
  simp only [ByteArray.data_extract, Array.toList_extract]
  rw [List.extract_eq_take_drop]
  simp
theorem ext_to (s : ByteArray) (n : Nat) : (s.extract 0 n).data.toList = s.data.toList.take n := by
  have := ext_list s 0 n
  simp only [Nat.zero_add, List.drop_zero] at this
  exact this
theorem ext_from {s : ByteArray} (h : s.size = 128) (n : Nat) : (s.extract n 128).data.toList = s.data.toList.drop n := by
  simp only [ByteArray.data_extract, Array.toList_extract]
  rw [List.extract_eq_take_drop]
  have : s.data.toList.length = 128 := h
  rw [List.take_of_length_le (by simp; omega)]
theorem pick_placed {s c : ByteArray} (hs : s.size = 128) (hc : c.size = 32) (k i : Nat) (hk : k ≤ 3) (hi : i ≤ 3) :
    (s.extract 0 (32 * k) ++ c ++ s.extract (32 * k + 32) 128).extract (32 * i) (32 * i + 32) = if i = k then c else s.extract (32 * i) (32 * i + 32) := by
  apply ByteArray.ext
  apply Array.ext'
  rw [ext_list, ByteArray.data_append, ByteArray.data_append, Array.toList_append, Array.toList_append, ext_to, ext_from hs, pick_list _ _ hs hc k i hk hi]
  split
  · rfl
  · rw [ext_list]

section
variable {V : List ByteArray} {n i : Nat} {c : Cd}
/-- the bytes of card i, behind a card n that was placed. -/
theorem crdB_set (hw : Whole V) (hN : 64 ≤ V.length) (hn : n ≤ 31) (hi : i ≤ 31) (hc : rightC c = true) : crdB (V.set (43 + n / 4) (plc V n c)) i = if i = n then (writeC c).1 else crdB V i := by
  have hs := hw.get (k := 43 + n / 4) (by omega)
  by_cases hb : 43 + n / 4 = 43 + i / 4
  · have e : (V.set (43 + n / 4) (plc V n c)).getD (43 + i / 4) ⟨#[]⟩ = plc V n c := by rw [getD_set2, if_pos ⟨hb, by omega⟩]
    unfold crdB
    rw [e]
    unfold plc
    rw [pick_placed hs (writeC_size hc) (n % 4) (i % 4) (by omega) (by omega), hb]
    by_cases hin : i = n
    · subst hin; rw [if_pos rfl, if_pos rfl]
    · rw [if_neg (by omega), if_neg hin]
  · have e : (V.set (43 + n / 4) (plc V n c)).getD (43 + i / 4) ⟨#[]⟩ = V.getD (43 + i / 4) ⟨#[]⟩ := by rw [getD_set2, if_neg (fun h => hb h.1)]
    have hin : ¬ i = n := fun e => hb (by rw [e])
    rw [if_neg hin]
    unfold crdB
    rw [e]
end
theorem in32 {i : Nat} (h : i < 32) : Kr.inB (i : Int) 0 31 = true := by simp [Kr.inB]; omega
/-- card i behind SetCard of node: the card that was set, or as it was. -/
theorem crd_set {V : List ByteArray} (hw : Whole V) (hN : 64 ≤ V.length) {node : Int} {c : Cd} (i : Nat) (hi : i < 32) :
    (sdOk node c = true → (i : Int) = node → crdC (sdV V node c) i = c ∧ crdE (sdV V node c) i = 0) ∧ ((sdOk node c = true → ¬ (i : Int) = node) → crdC (sdV V node c) i = crdC V i) := by
  have hin := in32 hi
  constructor
  · intro ho he
    subst he
    have hr : rightC c = true := by unfold sdOk at ho; simp only [Bool.and_eq_true] at ho; exact ho.2
    unfold crdC crdE sdV
    rw [if_pos hin, if_pos hin, if_pos ho, show ((i : Int)).toNat = i by omega, crdB_set hw hN (by omega) (by omega) hr, if_pos rfl, read_back hr]
    exact ⟨rfl, rfl⟩
  · intro hne
    unfold crdC sdV
    rw [if_pos hin, if_pos hin]
    split
    · rename_i ho
      have hx := hne ho
      unfold sdOk at ho
      simp only [Bool.and_eq_true] at ho
      have hb := Kr.inB_t ho.1
      rw [show ((i : Int)).toNat = i by omega, crdB_set hw hN (by omega) (by omega) ho.2, if_neg (by omega)]
    · rfl
theorem sdE_is (node : Int) (c : Cd) : (sdOk node c = true → sdE node c = 0) ∧ (sdOk node c = false → (sdE node c != 0) = true ∧ (sdE node c == 0) = false) := by
  unfold sdOk sdE
  cases h : Kr.inB node 0 31 with
  | false => simp
  | true =>
    cases hr : rightC c with
    | false => rw [writeC_no hr]; simp
    | true => rw [writeC_ok hr]; simp
/-- the crown behind SetCrown. -/
theorem cr_set {V : List ByteArray} (hN : 64 ≤ V.length) {f b u : Int} (ho : scOk V f b u = true) : crF (scV V f b u) = f ∧ crB (scV V f b u) = b ∧ crC (scV V f b u) = u ∧ crE (scV V f b u) = 0 := by
  have ho2 := ho
  unfold scOk at ho2
  simp only [Bool.and_eq_true, decide_eq_true_eq] at ho2
  obtain ⟨hr, hb⟩ := ho2
  obtain ⟨h1, h2, h3⟩ := Kr.back_k hr
  have e : (scV V f b u).getD 0 ⟨#[]⟩ = blockK f b u := by unfold scV; rw [if_pos ho, getD_set2, if_pos ⟨rfl, by omega⟩]
  have hl : (scV V f b u).length = V.length := by unfold scV; rw [if_pos ho, List.length_set]
  have ok : okCr (scV V f b u) = true := by unfold okCr; rw [e, hl, Kr.ok_block hr, h2, decide_eq_true hb]; rfl
  unfold crF crB crC crE
  rw [if_pos ok, if_pos ok, if_pos ok, if_pos ok, e]
  exact ⟨h1, h2, h3, rfl⟩
theorem DV.wholeD {w : World} {B d q p pd pm k c : Nat} {D V : List ByteArray} {v : Value} (h : DV w B d q p pd pm k c D V v) : Whole D := by obtain ⟨l, h, _⟩ := h; exact h.wh

/-! ### a row of cards -/
theorem cdn_turns {w w' : World} {N : Nat} {v : Value} {c : Cd} {L : List Nat} (h : CdNew w N v c) (ht : Turns L w w') (hL : ∀ j, j ∈ L → j < N) : CdNew w' N v c := by
  obtain ⟨A, n, k, A', n', k', f1, f2, e, i, s, r⟩ := h
  have hz := ht.size
  refine ⟨A, n, k, A', n', k', f1, f2, e, ⟨i.1, i.2.1, fun t ht2 => ?_⟩, ⟨s.1, s.2.1, fun t ht2 => ?_⟩, r⟩
  · obtain ⟨b, o, hA, hb, hc⟩ := i.2.2 t ht2
    have hf := f1 b o hA
    exact ⟨b, o, hA, by omega, ht.cell hc (fun hm => by have := hL _ hm; simp only at this; omega)⟩
  · obtain ⟨b, o, hA, hb, h1, h2, h3⟩ := s.2.2 t ht2
    have hf := f2 b o hA
    have hn : b ∉ L := fun hm => by have := hL _ hm; omega
    exact ⟨b, o, hA, by omega, ht.cell h1 hn, ht.cell h2 hn, ht.cell h3 hn⟩
theorem cdn_below {w w' : World} {N : Nat} {v : Value} {c : Cd} (h : CdNew w N v c) (hb : Below w.heap.size w w') : CdNew w' N v c := cdn_turns h (Turns.of_below [] hb) (by simp)
/-- a card's value, as a row has it. -/
structure CW where
  c : Cd
  A : Option Addr
  n : Nat
  k : Nat
  A' : Option Addr
  n' : Nat
  k' : Nat
def CW.z : CW := ⟨zeroC, none, 0, 0, none, 0, 0⟩
abbrev CW.val (x : CW) : Value := cdv x.c x.A x.n x.k x.A' x.n' x.k'
def CW.cells (x : CW) : List Value := [.int .i64 x.c.fm, .int .i64 x.c.kd, .int .i64 x.c.ln, .int .i64 x.c.sz, .slice x.A x.n x.k, .int .i64 x.c.sg, .int .i64 x.c.db, .slice x.A' x.n' x.k', .int .i64 x.c.ov]
def cwCells : List CW → List Value
  | [] => []
  | x :: r => x.cells ++ cwCells r
theorem cwCells_len : ∀ l : List CW, (cwCells l).length = l.length * 9
  | [] => rfl
  | x :: r => by rw [cwCells, List.length_append, cwCells_len r]; simp [CW.cells]; omega
theorem cwCells_snoc : ∀ (l : List CW) (x : CW), cwCells (l ++ [x]) = cwCells l ++ x.cells
  | [], x => by simp [cwCells]
  | y :: r, x => by
    show y.cells ++ cwCells (r ++ [x]) = (y.cells ++ cwCells r) ++ x.cells
    rw [cwCells_snoc r x, List.append_assoc]
theorem cwCells_at : ∀ (l : List CW) (k : Nat), k < l.length → ∀ j, j < 9 → (cwCells l)[k * 9 + j]? = (l.getD k CW.z).cells[j]?
  | x :: r, 0, _, j, hj => by
    rw [cwCells, List.getElem?_append_left (by simp [CW.cells]; omega)]
    simp
  | x :: r, k + 1, h, j, hj => by
    have hk : k < r.length := by simpa using h
    have := cwCells_at r k hk j hj
    rw [cwCells, List.getElem?_append_right (by simp [CW.cells]; omega), show (k + 1) * 9 + j - x.cells.length = k * 9 + j by simp [CW.cells]; omega, this]
    simp [List.getD]
theorem cw_one (x : CW) : ∀ u ∈ x.cells, u.oneCell' = true := by simp [CW.cells, Value.oneCell']
theorem info40 : (Tryz.prog.info? 40).map (fun i => (i.zero, i.size, i.bytes)) = some (some (.agg #[.int .i64 0, .int .i64 0, .int .i64 0, .int .i64 0, .slice none 0 0, .int .i64 0, .int .i64 0, .slice none 0 0, .int .i64 0]), 9, 104) := by kernel_rfl
/-- 'append(was, x)', at the list of a plain region's operations. -/
theorem pushK_law {ops : Array Oper} {rest : List Oper} {o : Oper} {a : Act} {Q : Exit → Act → World → Prop} (hgd : o.guard = none) (s x : Operand)
    (ho : o.op = .call { callee := .builtin .append, args := #[s, x], argTypes := #[61, 61] })
    (base : Nat) (W : World) (v : Value) (l : List CW) (y : CW) (hs : a.eval s = v) (hx : a.eval x = .slice (some ⟨W.heap.size, 0, none⟩) 1 1)
    (hown : W.ownsRow base 40 9 v l.length (cwCells l)) (hl : l.length ≤ 100000) (hbase : base ≤ W.heap.size)
    (h : ∀ g cap w', w'.ownsRow base 40 9 (.slice (some ⟨g, 0, none⟩) (l ++ [y]).length cap) (l ++ [y]).length (cwCells (l ++ [y])) → Turns (ownL v) W w' → (v.ownBlock = some g ∨ W.heap.size ≤ g) → wpList Tryz.prog ops Q rest (a.put o.dst (.slice (some ⟨g, 0, none⟩) (l ++ [y]).length cap)) w') :
    wpList Tryz.prog ops Q (o :: rest) a (W.alloc (.cells #[.int .i64 y.c.fm, .int .i64 y.c.kd, .int .i64 y.c.ln, .int .i64 y.c.sz, .slice y.A y.n y.k, .int .i64 y.c.sg, .int .i64 y.c.db, .slice y.A' y.n' y.k', .int .i64 y.c.ov] 40)) := by
  obtain ⟨i0, hi, hz0, hz1, hz2⟩ := info_parts info40
  refine wpList_append_lies _ hgd s x 61 ho base 40 i0 _ 9 104 Tryz.underlying61 hi hz0 hz1 hz2 rfl (by decide) v l.length (cwCells l) hs (hown.alloc _) ⟨W.heap.size, 0, none⟩ 1 1 y.cells hx rfl
    (World.news_of_block (heap_alloc_new W _)) (cw_one y) (by omega) (by unfold maxLen; omega) (by omega) (by simp; omega) (W.heap.size + 1) (World.size_alloc ..) ?_
  intro g cap w' hown' hg hat _
  have e : (l ++ [y]).length = l.length + 1 := by simp
  have hh := h g cap w'
  rw [cwCells_snoc, e] at hh
  refine hh hown' ((Turns.alloc _ _ _).trans (Turns.of_grown hg (fun j hj => ownL_mem.2 hj))) ?_
  rcases hat with h1 | h1
  · exact .inl h1
  · exact .inr (by omega)
/-- a list's block is none of the row's own. -/
def ApL (w : World) (own : Option Nat) (A : Option Addr) (n : Nat) : Prop := ∀ b o, A = some ⟨b, o, none⟩ → 0 < n → b < w.heap.size ∧ own ≠ some b
/-- a card's lists, in memory from block N on, apart from the row's own block. -/
structure CwAt (w : World) (N : Nat) (own : Option Nat) (x : CW) : Prop where
  f1 : Fresh N x.A
  f2 : Fresh N x.A'
  i : IntsAt w w.heap.size x.A x.n x.c.ps
  s : SpsAt w w.heap.size x.A' x.n' x.c.rs
  b1 : x.n ≤ 9223372036854775807
  b2 : x.n' ≤ 9223372036854775807
  ft : x.c.fit
  a1 : ApL w own x.A x.n
  a2 : ApL w own x.A' x.n'
theorem CwAt.at_ {w : World} {N : Nat} {own : Option Nat} {x : CW} (h : CwAt w N own x) : CdAt w w.heap.size x.val x.c := ⟨_, _, _, _, _, _, rfl, h.i, h.s, h.b1, h.b2, h.ft⟩
theorem CwAt.turns {w w' : World} {N : Nat} {own : Option Nat} {x : CW} {L : List Nat} (h : CwAt w N own x) (ht : Turns L w w') (hL : ∀ j, j ∈ L → j < N ∨ own = some j) : CwAt w' N own x := by
  have hz := ht.size
  refine ⟨h.f1, h.f2, ⟨h.i.1, h.i.2.1, fun t ht2 => ?_⟩, ⟨h.s.1, h.s.2.1, fun t ht2 => ?_⟩, h.b1, h.b2, h.ft, fun b o hA h0 => ⟨by have := (h.a1 b o hA h0).1; omega, (h.a1 b o hA h0).2⟩, fun b o hA h0 => ⟨by have := (h.a2 b o hA h0).1; omega, (h.a2 b o hA h0).2⟩⟩
  · obtain ⟨b, o, hA, hb, hc⟩ := h.i.2.2 t ht2
    have hf := h.f1 b o hA
    have ha := (h.a1 b o hA (by omega)).2
    have hn : b ∉ L := fun hm => by
      rcases hL _ hm with e | e
      · omega
      · exact ha e
    exact ⟨b, o, hA, by omega, ht.cell hc hn⟩
  · obtain ⟨b, o, hA, hb, h1, h2, h3⟩ := h.s.2.2 t ht2
    have hf := h.f2 b o hA
    have ha := (h.a2 b o hA (by omega)).2
    have hn : b ∉ L := fun hm => by
      rcases hL _ hm with e | e
      · omega
      · exact ha e
    exact ⟨b, o, hA, by omega, ht.cell h1 hn, ht.cell h2 hn, ht.cell h3 hn⟩
theorem CwAt.grow {w w' : World} {N g : Nat} {own : Option Nat} {x : CW} {L : List Nat} (h : CwAt w N own x) (ht : Turns L w w') (hL : ∀ j, j ∈ L → own = some j) (hg : own = some g ∨ w.heap.size ≤ g) : CwAt w' N (some g) x := by
  have h2 := h.turns ht (fun j hj => .inr (hL j hj))
  refine ⟨h2.f1, h2.f2, h2.i, h2.s, h2.b1, h2.b2, h2.ft, fun b o hA h0 => ⟨(h2.a1 b o hA h0).1, fun e => ?_⟩, fun b o hA h0 => ⟨(h2.a2 b o hA h0).1, fun e => ?_⟩⟩
  · have e2 : g = b := by injection e
    have h3 := h.a1 b o hA h0
    rcases hg with h4 | h4
    · exact h3.2 (by rw [h4, e2])
    · omega
  · have e2 : g = b := by injection e
    have h3 := h.a2 b o hA h0
    rcases hg with h4 | h4
    · exact h3.2 (by rw [h4, e2])
    · omega
/-- a card that a call has just made. -/
theorem CwAt.of_new {w : World} {N N' : Nat} {own : Option Nat} {c : Cd} {A : Option Addr} {n k : Nat} {A' : Option Addr} {n' k' : Nat} (f1 : Fresh N' A) (f2 : Fresh N' A') (i : IntsAt w w.heap.size A n c.ps) (s : SpsAt w w.heap.size A' n' c.rs) (b1 : n ≤ 9223372036854775807) (b2 : n' ≤ 9223372036854775807) (ft : c.fit)
    (hN : N ≤ N') (ho : ∀ b, own = some b → b < N') : CwAt w N own ⟨c, A, n, k, A', n', k'⟩ := by
  refine ⟨fun b o e => Nat.le_trans hN (f1 b o e), fun b o e => Nat.le_trans hN (f2 b o e), i, s, b1, b2, ft, fun b o hA h0 => ⟨?_, fun e => ?_⟩, fun b o hA h0 => ⟨?_, fun e => ?_⟩⟩
  · obtain ⟨b', o', hA', hb, _⟩ := i.2.2 0 h0
    have hA : A = some ⟨b, o, none⟩ := hA
    rw [hA] at hA'
    injection hA' with e1
    injection e1 with e1
    omega
  · have := f1 b o hA
    have := ho b e
    omega
  · obtain ⟨b', o', hA', hb, _⟩ := s.2.2 0 h0
    have hA : A' = some ⟨b, o, none⟩ := hA
    rw [hA] at hA'
    injection hA' with e1
    injection e1 with e1
    omega
  · have := f2 b o hA
    have := ho b e
    omega
/-- the row was: the first j cards as V has them, lists and row in memory from block N on. -/
structure WasAt (w : World) (N : Nat) (v : Value) (j : Nat) (V : List ByteArray) (l : List CW) : Prop where
  len : l.length = j
  row : w.ownsRow N 40 9 v l.length (cwCells l)
  cds : ∀ t, t < j → CwAt w N v.ownBlock (l.getD t CW.z)
  eqs : ∀ t, t < j → (l.getD t CW.z).c = crdC V t
theorem WasAt.turns {w w' : World} {N j : Nat} {v : Value} {V : List ByteArray} {l : List CW} {L : List Nat} (h : WasAt w N v j V l) (ht : Turns L w w') (hL : ∀ x, x ∈ L → x < N) : WasAt w' N v j V l :=
  ⟨h.len, own_turns h.row ht (fun x hx e => by have := (h.row.lt x e).1; have := hL x hx; omega), fun t ht2 => (h.cds t ht2).turns ht (fun j hj => .inl (hL j hj)), h.eqs⟩
theorem WasAt.below {w w' : World} {N j : Nat} {v : Value} {V : List ByteArray} {l : List CW} (h : WasAt w N v j V l) (hb : Below w.heap.size w w') : WasAt w' N v j V l := h.turns (Turns.of_below [] hb) (by simp)
theorem WasAt.nil (w : World) (N : Nat) (V : List ByteArray) : WasAt w N (.slice none 0 0) 0 V [] := ⟨rfl, World.ownsRow_nil _ _ _ _, fun t ht => absurd ht (Nat.not_lt_zero t), fun t ht => absurd ht (Nat.not_lt_zero t)⟩
theorem snoc_lt {l : List CW} {x : CW} {t : Nat} (h : t < l.length) : (l ++ [x]).getD t CW.z = l.getD t CW.z := by
  simp [List.getD, List.getElem?_append_left h]
theorem snoc_eq {l : List CW} {x : CW} : (l ++ [x]).getD l.length CW.z = x := by simp [List.getD]
theorem WasAt.push {w w' : World} {N j g cap : Nat} {v : Value} {V : List ByteArray} {l : List CW} {y : CW} (h : WasAt w N v j V l) (hy : CwAt w N v.ownBlock y) (he : y.c = crdC V j)
    (hr : w'.ownsRow N 40 9 (.slice (some ⟨g, 0, none⟩) (l ++ [y]).length cap) (l ++ [y]).length (cwCells (l ++ [y]))) (ht : Turns (ownL v) w w') (hg : v.ownBlock = some g ∨ w.heap.size ≤ g) :
    WasAt w' N (.slice (some ⟨g, 0, none⟩) (l ++ [y]).length cap) (j + 1) V (l ++ [y]) := by
  have key : ∀ x, CwAt w N v.ownBlock x → CwAt w' N (some g) x := fun x hx => hx.grow ht (fun j hj => ownL_mem.1 hj) hg
  refine ⟨by rw [List.length_append, h.len]; rfl, hr, fun t ht2 => ?_, fun t ht2 => ?_⟩
  · show CwAt w' N (some g) _
    by_cases e : t < j
    · rw [snoc_lt (by rw [h.len]; exact e)]
      exact key _ (h.cds t e)
    · have e2 : t = l.length := by rw [h.len]; omega
      rw [e2, snoc_eq]
      exact key _ hy
  · by_cases e : t < j
    · rw [snoc_lt (by rw [h.len]; exact e)]
      exact h.eqs t e
    · have e2 : t = l.length := by rw [h.len]; omega
      rw [e2, snoc_eq, h.len]
      exact he
/-- a card of the row, in memory. -/
theorem WasAt.at_ {w : World} {N j : Nat} {v : Value} {V : List ByteArray} {l : List CW} (h : WasAt w N v j V l) {t : Nat} (ht : t < j) :
    ∃ g cap, v = .slice (some ⟨g, 0, none⟩) j cap ∧ ∀ i, i < 9 → w.cell? ⟨g, t * 9 + i, none⟩ = (l.getD t CW.z).cells[i]? := by
  obtain ⟨g, cap, e, _, _⟩ := h.row.form (by rw [h.len]; omega)
  have hl := h.len
  rw [hl] at e
  refine ⟨g, cap, e, fun i hi => ?_⟩
  have hlt : t * 9 + i < (cwCells l).length := by rw [cwCells_len, hl]; omega
  have hc := h.row.cells (g := g) (by rw [e]; rfl) (t * 9 + i) _ (List.getElem?_eq_getElem hlt)
  rw [Go.WideShapes.add_plain, Nat.zero_add] at hc
  rw [hc, ← List.getElem?_eq_getElem hlt, cwCells_at l t (by rw [hl]; exact ht) i hi]
end Go.Proofs.YtapjbffhihhnbaaGreat.Dl
