/-
  ROWS OF INTS of a call's own: append of a new slice, of a list; slices.Grow from nil, slices.Concat, slices.Clone at []int. Conditions: at most 100000 elements.
  WALK: values returns the numbers of a valid card, in the order of its encoding. Conditions: the card is valid.
  WORDS: copy of at most three spans into a row of three zero spans, as a step of a region that draws; a row of three spans, known whole. No condition.
  WALK: values returns the numbers of a valid card of format Two, in the order of its encoding; of a card of no format it returns nil. Conditions: at most three spans.
  WALK: Write returns a card's bytes, or that it may not be. Conditions: the lists have as many elements as an int64 counts.
  WALK: cardOf returns the card whose numbers a text of 32 bytes has, format One and no format. Condition: the text has 32 bytes.
-/
import Derived.Test.YtgdlfiejjnjcpaaGreatBC
import Derived.Lib.AppendZeros
import Derived.Lib.Walk
import Derived.Lib.SliceRun
import Derived.Laws.IdiomCopy
import Derived.Laws.CopyOwn
import Derived.Lib.SlBuf
import Derived.Deep.RegionLaw
import Derived.Test.YtgdlfiejjnjcpaaGreatBE
import Derived.Test.YtgdlfiejjnjcpaaGreatBM
import Derived.BigRegion
namespace Go.Proofs.YtgdlfiejjnjcpaaGreat
open Go.RowKit

abbrev ints (l : List Int) : List Value := l.map (Value.int .i64)
set_option maxRecDepth 100000 in
theorem ints_one (l : List Int) : ∀ u ∈ ints l, u.oneCell' = true := by
  intro u hu
  obtain ⟨x, _, rfl⟩ := List.mem_map.1 hu
  rfl
set_option maxRecDepth 100000 in
theorem ints_at (l : List Int) (k : Nat) (h : k < l.length) : (ints l)[k]? = some (.int .i64 (l.getD k 0)) := by
  simp [ints, List.getD, h]
set_option maxRecDepth 100000 in
theorem IntsAt.of_own {w : World} {base : Nat} {v : Value} {A : Option Addr} {c : Nat} {l : List Int} (h : w.ownsRow base 3 1 v l.length (ints l)) (hv : v = .slice A l.length c) (hf : ∀ z ∈ l, Fit z) : IntsAt w w.heap.size A l.length l := by
  refine ⟨rfl, hf, fun k hk => ?_⟩
  obtain ⟨g, cap, e, _, hlt⟩ := h.form (by omega)
  subst hv
  have hA : A = some ⟨g, 0, none⟩ := by injection e
  subst hA
  have hcell := h.cells (g := g) rfl _ _ (ints_at l k hk)
  rw [Go.WideShapes.add_plain] at hcell
  exact ⟨g, 0, rfl, hlt, hcell⟩
set_option maxRecDepth 100000 in
theorem own_slice {w : World} {base : Nat} {v : Value} {n : Nat} {xs : List Value} (h : w.ownsRow base 3 1 v n xs) : ∃ A c, v = .slice A n c ∧ n ≤ c := by
  rcases h.2 with ⟨rfl, h0⟩ | ⟨g, cap, cur, rfl, _, _, hc, _⟩
  · have : n = 0 := by have := h.1; simp only [Nat.mul_one] at this; omega
    subst this
    exact ⟨none, 0, rfl, Nat.le_refl _⟩
  · exact ⟨_, cap, rfl, by omega⟩

/-- an answer that is a new row of ints. -/
def RetO (w : World) (l : List Int) (e : Ending) (w' : World) : Prop := ∃ v, e = .returned v ∧ w'.ownsRow w.heap.size 3 1 v l.length (ints l) ∧ Below w.heap.size w w'
set_option maxRecDepth 100000 in
theorem RetO.ints {w w' : World} {l : List Int} {e : Ending} (h : RetO w l e w') (hf : ∀ z ∈ l, Fit z) : RetI w l e w' := by
  obtain ⟨v, rfl, ho, hb⟩ := h
  obtain ⟨A, c, rfl, _⟩ := own_slice ho
  exact ⟨A, c, rfl, .of_own ho rfl hf, hb⟩


set_option maxRecDepth 100000 in
theorem run_append_of_nil {P : Program} (w : World) (base : Nat) (t ty e : TypeId) (i : TypeInfo) (size : Nat) (ht : P.underlying t = some (.slice e)) (hi : P.info? e = some i)
    (v : Value) (n : Nat) (xs : List Value) (hown : w.ownsRow base e size v n xs) (c : Nat) : (Builtin.append_ #[t, t] ty #[v, .slice none 0 c]).run P w = .ok v w := by
  rcases hown.2 with ⟨rfl, rfl⟩ | ⟨g, cap, cur, rfl, _, _, hnc, _⟩
  · simp [Builtin.append_, run_underlying ht, sizeOf, typeInfo, hi, Builtin.lenOf, Builtin.firstCells]
  · simp [Builtin.append_, run_underlying ht, sizeOf, typeInfo, hi, Builtin.lenOf, Builtin.firstCells, hnc, storeCells]
set_option maxRecDepth 100000 in
/-- append of a list that lies in any memory. -/
theorem joinI_law {ops : Array Oper} {rest : List Oper} {o : Oper} {a : Act} {Q : Exit → Act → World → Prop} (hgd : o.guard = none) (s x : Operand)
    (ho : o.op = .call { callee := .builtin .append, args := #[s, x], argTypes := #[27, 27] })
    (base : Nat) (W : World) (v : Value) (l : List Int) (hs : a.eval s = v) (B : Nat) (A : Option Addr) (m c : Nat) (l2 : List Int) (hx : a.eval x = .slice A m c)
    (hown : W.ownsRow base 3 1 v l.length (ints l)) (hA : IntsAt W B A m l2) (hl : l.length + m ≤ 100000) (hbase : base ≤ W.heap.size)
    (h : ∀ v' w', w'.ownsRow base 3 1 v' (l ++ l2).length (ints (l ++ l2)) → Below base W w' → wpList Tryz.prog ops Q rest (a.put o.dst v') w') :
    wpList Tryz.prog ops Q (o :: rest) a W := by
  obtain ⟨i0, hi, hz0, hz1, hz2⟩ := info_parts Tryz.info3
  cases A with
  | none =>
    have hm : m = 0 := by
      rcases Nat.eq_zero_or_pos m with h0 | h0
      · exact h0
      · obtain ⟨b, o, e, _⟩ := hA.at_ h0; cases e
    subst hm
    have hl2 : l2 = [] := List.eq_nil_of_length_eq_zero hA.len
    subst hl2
    refine wpList_plain hgd fun K hK => ?_
    have hrun := run_append_of_nil (P := Tryz.prog) W base 27 o.type 3 i0 1 Tryz.underlying27 hi v l.length (ints l) hown c
    unfold Oper.wp
    simp [execOp, ho, resolve, invoke, builtin, hs, hx, hrun, Result.andThen]
    exact hK _ _ (h v W (by rw [List.append_nil]; exact hown) (Below.refl _ _))
  | some ad =>
    refine wpList_append_own _ hgd s x 27 ho base 3 i0 _ 1 8 Tryz.underlying27 hi hz0 hz1 hz2 rfl (by decide) v l.length (ints l) hs hown ad m c (ints l2) hx (by rw [List.length_map, hA.len, Nat.mul_one])
      ?_ (ints_one l2) (by unfold maxLen; omega) (by omega) hbase ?_
    · intro j u hj
      have hlt : j < (ints l2).length := (List.getElem?_eq_some_iff.1 hj).1
      rw [List.length_map] at hlt
      obtain ⟨b, o, e1, _, h1⟩ := hA.at_ (k := j) (by rw [← hA.len]; exact hlt)
      injection e1 with e1
      subst e1
      rw [Go.WideShapes.add_plain, h1, ← ints_at l2 j hlt, hj]
    · intro v' w' hown' hg _
      refine h v' w' ?_ ?_
      · rw [ints, List.map_append, List.length_append, hA.len]; exact hown'
      · exact (Below.refl base W).grown hg hbase (fun k hk => (hown.lt k hk).1)

set_option maxRecDepth 100000 in
/-- append of a slice that has just been made of the values l2. -/
theorem pushN_law {ops : Array Oper} {rest : List Oper} {o : Oper} {a : Act} {Q : Exit → Act → World → Prop} (hgd : o.guard = none) (s x : Operand)
    (ho : o.op = .call { callee := .builtin .append, args := #[s, x], argTypes := #[27, 27] })
    (base : Nat) (W : World) (v : Value) (l : List Int) (l2 : List Int) (n2 c2 : Nat) (Z : Array Value) (hZ : Z = (ints l2).toArray) (hn2 : n2 = l2.length) (hs : a.eval s = v) (hx : a.eval x = .slice (some ⟨W.heap.size, 0, none⟩) n2 c2)
    (hown : W.ownsRow base 3 1 v l.length (ints l)) (hl : l.length + l2.length ≤ 100000) (hbase : base ≤ W.heap.size)
    (h : ∀ v' w', w'.ownsRow base 3 1 v' (l ++ l2).length (ints (l ++ l2)) → Below base W w' → wpList Tryz.prog ops Q rest (a.put o.dst v') w') :
    wpList Tryz.prog ops Q (o :: rest) a (W.alloc (.cells Z 3)) := by
  subst hZ hn2
  obtain ⟨i0, hi, hz0, hz1, hz2⟩ := info_parts Tryz.info3
  refine wpList_append_own _ hgd s x 27 ho base 3 i0 _ 1 8 Tryz.underlying27 hi hz0 hz1 hz2 rfl (by decide) v l.length (ints l) hs (hown.alloc _) ⟨W.heap.size, 0, none⟩ l2.length c2 (ints l2) hx (by rw [List.length_map, Nat.mul_one])
    (World.news_of_block (heap_alloc_new W _)) (ints_one l2) (by unfold maxLen; omega) (by omega) (by simp; omega) ?_
  intro v' w' hown' hg _
  refine h v' w' ?_ ?_
  · rw [ints, List.map_append, List.length_append]; exact hown'
  · exact (((Below.refl base W).alloc hbase _).grown hg (by simp; omega) (fun k hk => (hown.lt k hk).1))

set_option maxRecDepth 100000 in
theorem zI : (Value.int .i64 0).cells.size = 1 := rfl
set_option maxRecDepth 100000 in
set_option maxHeartbeats 1000000 in
theorem growI_any (n : Nat) (w : World) (hn : n ≤ 100000) :
    Calls Tryz.prog 149 #[.slice none 0 0, .int .i64 (n : Int)] w fun e w' => ∃ v, e = .returned v ∧ w'.ownsRow w.heap.size 3 1 v 0 [] ∧ Below w.heap.size w w' := by
  rcases Nat.eq_zero_or_pos n with rfl | hp
  · go_enter Tryz.func149, Tryz.ntmps149
    go_wp2
    go_ret
    exact ⟨_, rfl, World.ownsRow_nil _ _ _ _, Below.refl _ _⟩
  · obtain ⟨i0, hi, hz0, hz1, hz2⟩ := info_parts Tryz.info3
    have hap := Lib.run_append_nil_zeros w 27 3 27 3 i0 _ .i64 .i64 Tryz.underlying27 Tryz.underlying3 hi hz0 n hp (by omega) (by omega) (by rw [hz2]; omega)
    have hcap := grownCap_ge w n 0 3
    have hmax := grownCap_le_maxLen w n 0 3 (by unfold maxLen; omega)
    have hown := World.ownsRow_made (base := w.heap.size) (e := 3) (size := 1) w.drew (Builtin.zeroCells (Value.int .i64 0).cells n ++ Builtin.zeroCells (Value.int .i64 0).cells (grownCap w n 0 3 - n)) (grownCap w n 0 3) (Nat.le_refl _) hmax (by rw [Array.size_append, size_zeroCells, size_zeroCells, zI]; omega)
    have HO := Lib.hid hown
    have HAP := Lib.hid hap
    have hb : Below w.heap.size w (w.drew.alloc (.cells (Builtin.zeroCells (Value.int .i64 0).cells n ++ Builtin.zeroCells (Value.int .i64 0).cells (grownCap w n 0 3 - n)) 3)) :=
      Below.alloc (a := w) (w := w.drew) ⟨rfl, rfl, rfl, Nat.le_refl _, fun _ _ => rfl⟩ (Nat.le_refl _) _
    have HB := Lib.hid hb
    clear hown hap hb
    generalize grownCap w n 0 3 = G at *
    generalize (.cells (Builtin.zeroCells (Value.int .i64 0).cells n ++ Builtin.zeroCells (Value.int .i64 0).cells (G - n)) 3 : Obj) = ob at *
    have e1 : ¬ (n : Int) < 0 := by omega
    have e2 : (0 : Int) < (n : Int) := by omega
    have hmi : (G : Int) ≤ 9223372036854775807 := by unfold maxLen at hmax; omega
    go_enter Tryz.func149, Tryz.ntmps149
    go_wp2_with (at_builtin; refine Lib.wpList_append_run _ rfl _ _ _ _ rfl _ _ rfl rfl _ _ HAP.out ?_)
    go_ret
    exact ⟨_, rfl, HO.out, HB.out⟩

/-- The slice at A with n elements holds the slices of ints zss. -/
def LstsAt (w : World) (B : Nat) (A : Option Addr) (n : Nat) (zss : List (List Int)) : Prop :=
  zss.length = n ∧ ∀ k, k < n → ∃ b o A' c', A = some ⟨b, o, none⟩ ∧ b < B ∧ w.cell? ⟨b, o + k, none⟩ = some (.slice A' (zss.getD k []).length c') ∧ IntsAt w B A' (zss.getD k []).length (zss.getD k [])
set_option maxRecDepth 100000 in
theorem flat_take {p : List (List Int)} {k : Nat} (hk : k < p.length) : (p.take (k + 1)).flatten = (p.take k).flatten ++ p.getD k [] := by
  rw [List.take_add_one, List.getElem?_eq_getElem hk, List.flatten_append]
  simp [List.getD, List.getElem?_eq_getElem hk]
set_option maxRecDepth 100000 in
theorem flat_le (p : List (List Int)) (k : Nat) : (p.take k).flatten.length ≤ p.flatten.length := by
  have : p.flatten = (p.take k).flatten ++ (p.drop k).flatten := by rw [← List.flatten_append, List.take_append_drop]
  rw [this, List.length_append]
  omega

set_option maxRecDepth 100000 in
set_option maxHeartbeats 4000000 in
theorem concatI_any (A : Option Addr) (n c B : Nat) (p : List (List Int)) (w : World) (hA : LstsAt w B A n p) (hB : B ≤ w.heap.size) (hn : n ≤ 100000) (hm : p.flatten.length ≤ 100000) :
    Calls Tryz.prog 134 #[.slice A n c] w (RetO w p.flatten) := by
  have HL : Hid (p.length = n) := hA.1
  have HA := Lib.hid hA
  have HF : Hid (∀ k, k < n → (p.take (k + 1)).flatten.length = (p.take k).flatten.length + (p.getD k []).length) := fun k hk => by
    rw [flat_take (by rw [HL.out]; exact hk), List.length_append]
  have HG : Hid (∀ k, k < n → (p.take (k + 1)).flatten = (p.take k).flatten ++ p.getD k []) := fun k hk => flat_take (by rw [HL.out]; exact hk)
  have HLE : Hid (∀ k, (p.take k).flatten.length ≤ p.flatten.length) := fun k => flat_le p k
  have HALL : Hid ((p.take n).flatten = p.flatten) := by show _ = _; rw [← HL.out, List.take_length]
  clear hA
  go_enter Tryz.func134, Tryz.ntmps134
  go_wp2
  go_loop [3, 11] (fun s i => ∃ k : Nat, k ≤ n ∧ i = .int .i64 (k : Int) ∧ s = .int .i64 (((p.take k).flatten.length : Nat) : Int)) (fun _ i => n - (intOf i).toNat)
  case atStart => exact ⟨0, by omega, rfl, by simp⟩
  case round =>
    obtain ⟨k, hk, rfl, rfl⟩ := hrel
    by_cases hlt : k < n
    · obtain ⟨b, o, A', c', rfl, hbB, hcell, -⟩ := HA.out.2 k hlt
      have hf := HF.out k hlt
      have h1 := HLE.out (k + 1)
      have HFk := Lib.hid hf
      generalize hT : (p.take k).flatten.length = t at *
      have HT := Lib.hid hT
      clear hT
      generalize (p.getD k []).length = len at *
      have x1 : ¬ ((t : Int) + (len : Int)) < 0 := by omega
      have x2 : ((t : Int) + (len : Int)) ≤ 100000 := by omega
      have HE : Hid ((t : Int) + (len : Int) = (((p.take (k + 1)).flatten.length : Nat) : Int)) := by show _ = _; rw [HFk.out]; omega
      clear hf
      go_wp2
      go_round
      case rel => exact ⟨k + 1, by omega, by go_num, by rw [HE.out]⟩
      case measure => simp [intOf]; omega
    · have HK : Hid (k = n) := by show k = n; omega
      have HGR : Hid (Calls Tryz.prog 149 #[.slice none 0 0, .int .i64 (((p.take k).flatten.length : Nat) : Int)] w fun e w' => ∃ v, e = .returned v ∧ w'.ownsRow w.heap.size 3 1 v 0 [] ∧ Below w.heap.size w w') := growI_any _ w (by have := HLE.out k; omega)
      generalize (p.take k).flatten.length = t at *
      go_wp2_with fail
      refine HGR.out.mono ?_
      rintro e w1 ⟨v, rfl, ho1, b1⟩
      have HO1 : Hid (w1.ownsRow w.heap.size 3 1 v ((p.take 0).flatten).length (ints (p.take 0).flatten)) := by
        show World.ownsRow _ _ _ _ _ _ _
        exact ho1
      clear ho1
      have HNV : Hid (∃ A c, v = .slice A 0 c) := by obtain ⟨A, c, e, -⟩ := own_slice HO1.out; exact ⟨A, c, e⟩
      obtain ⟨A1, c1, rfl⟩ := HNV.out
      have HB1 := Lib.hid b1
      clear b1 HNV HGR HK hlt hk
      go_wp2
      go_loopw [6, 8, 27] (fun v _ i wq => ∃ j : Nat, j ≤ n ∧ i = .int .i64 (j : Int) ∧ wq.ownsRow w.heap.size 3 1 v (p.take j).flatten.length (ints (p.take j).flatten) ∧ Below w.heap.size w wq) (fun _ _ i _ => n - (intOf i).toNat)
      case atStart => exact ⟨0, by omega, rfl, HO1.out, HB1.out⟩
      case round =>
        clear HO1 HB1
        obtain ⟨j, hj, rfl, hown, hb⟩ := hrel
        by_cases hjn : j < n
        · obtain ⟨b, o, A', c', rfl, hbB, hcell, hE⟩ := HA.out.2 j hjn
          have hc := bcell hb hcell (show b < _ by omega)
          have h1 := HLE.out (j + 1)
          have h2 := HF.out j hjn
          have HGj := Lib.hid (HG.out j hjn)
          have HE2 := Lib.hid (hE.below hb (by omega))
          have HOWN := Lib.hid hown
          have HB := Lib.hid hb
          have hlen : (p.take j).flatten.length + (p.getD j []).length ≤ 100000 := by omega
          have hsz := hb.size
          clear hE hown hcell hb h1 h2
          generalize (p.take j).flatten = acc at *
          generalize p.getD j [] = l at *
          go_wp2_with (at_builtin; refine joinI_law rfl (.tmp 31) (.tmp 32) rfl w.heap.size wr _ acc rfl B A' l.length c' l rfl HOWN.out HE2.out hlen hsz ?_)
          intro v' w6 ho6 b6
          obtain ⟨A6, c6, rfl, -⟩ := own_slice ho6
          have HO6 := Lib.hid ho6
          have HB6 := Lib.hid (HB.out.trans (b6.mono (Nat.le_refl _)))
          clear ho6 b6 hc
          go_wp2
          go_roundw
          case rel => exact ⟨j + 1, by omega, by go_num, by rw [HGj.out, List.length_append]; simpa using HO6.out, HB6.out⟩
          case measure => simp [intOf]; omega
        · obtain rfl : j = n := by omega
          rw [HALL.out] at hown
          obtain ⟨A6, c6, rfl, -⟩ := own_slice hown
          have HO6 := Lib.hid hown
          clear hown
          go_wp2
          go_ret
          exact ⟨_, rfl, HO6.out, hb⟩

end Go.Proofs.YtgdlfiejjnjcpaaGreat

namespace Go.Proofs.YtgdlfiejjnjcpaaGreat
open Go.RowKit

set_option maxRecDepth 100000 in
theorem own_below {w w' : World} {base C n sz : Nat} {e : TypeId} {v : Value} {xs : List Value} (h : w.ownsRow base e sz v n xs) (hb : Below C w w') (hC : w.heap.size ≤ C) : w'.ownsRow base e sz v n xs :=
  h.kept (row := none) ⟨hb.os, hb.tape, hb.output, hb.size, fun k hk _ => hb.block k (by omega)⟩ (by cases v.ownBlock <;> simp)

set_option maxRecDepth 100000 in
theorem vals1 {fm kd ln sz sg db ov : Int} {ps : List Int} {rs : List Sp} (h : fm = 1) : valuesC ⟨fm, kd, ln, sz, ps, sg, db, rs, ov⟩ = [[fm, kd, ln, sz], ps, [sg, db]].flatten := by
  subst h; simp [valuesC]

set_option maxRecDepth 100000 in
theorem ints4 {w : World} (a b c d : Int) (ha : Fit a) (hb : Fit b) (hc : Fit c) (hd : Fit d) : IntsAt (w.alloc (.cells #[.int .i64 a, .int .i64 b, .int .i64 c, .int .i64 d] 3)) (w.heap.size + 1) (some ⟨w.heap.size, 0, none⟩) 4 [a, b, c, d] :=
  ints_new (w := w) [a, b, c, d] (by simp; exact ⟨ha, hb, hc, hd⟩)
set_option maxRecDepth 100000 in
theorem ints2 {w : World} (a b : Int) (ha : Fit a) (hb : Fit b) : IntsAt (w.alloc (.cells #[.int .i64 a, .int .i64 b] 3)) (w.heap.size + 1) (some ⟨w.heap.size, 0, none⟩) 2 [a, b] :=
  ints_new (w := w) [a, b] (by simp; exact ⟨ha, hb⟩)

set_option maxRecDepth 100000 in
theorem own_base {w : World} {b b' n sz : Nat} {e : TypeId} {v : Value} {xs : List Value} (h : w.ownsRow b e sz v n xs) (hb : b' ≤ b) : w.ownsRow b' e sz v n xs := ⟨h.1, by
  rcases h.2 with h | ⟨g, cap, cur, h1, h2, h3⟩
  · exact Or.inl h
  · exact Or.inr ⟨g, cap, cur, h1, Nat.le_trans hb h2, h3⟩⟩
set_option maxRecDepth 100000 in
theorem RetO.to {w w1 : World} {l : List Int} {e : Ending} {w' : World} (h : RetO w1 l e w') (hb : Below w.heap.size w w1) : RetO w l e w' := by
  obtain ⟨v, rfl, ho, b⟩ := h
  exact ⟨v, rfl, own_base ho hb.size, hb.trans (b.mono hb.size)⟩

set_option maxRecDepth 100000 in
theorem lsts3 (w : World) (o0 : Obj) (a b c d s t : Int) (ps : List Int) (A : Option Addr) (k B : Nat) (ha : Fit a) (hb : Fit b) (hc : Fit c) (hd : Fit d) (hs : Fit s) (ht : Fit t) (hp : ∀ v, Below w.heap.size w v → IntsAt v B A 4 ps) (hl : ps.length = 4) (hB : B ≤ w.heap.size) :
    LstsAt ((((w.alloc o0).alloc (.cells #[.int .i64 a, .int .i64 b, .int .i64 c, .int .i64 d] 3)).alloc (.cells #[.int .i64 s, .int .i64 t] 3)).alloc
      (.cells #[.slice (some ⟨w.heap.size + 1, 0, none⟩) 4 4, .slice A 4 k, .slice (some ⟨w.heap.size + 1 + 1, 0, none⟩) 2 2] 27)) (w.heap.size + 4) (some ⟨w.heap.size + 1 + 1 + 1, 0, none⟩) 3 [[a, b, c, d], ps, [s, t]] := by
  have h1 := ints4 (w := w.alloc o0) a b c d ha hb hc hd
  have e1 : (w.alloc o0).heap.size = w.heap.size + 1 := by simp
  rw [e1] at h1
  have b1 : Below w.heap.size w ((w.alloc o0).alloc (.cells #[.int .i64 a, .int .i64 b, .int .i64 c, .int .i64 d] 3)) := ((Below.refl _ _).alloc (Nat.le_refl _) _).alloc (by simp) _
  have e2 : ((w.alloc o0).alloc (.cells #[.int .i64 a, .int .i64 b, .int .i64 c, .int .i64 d] 3)).heap.size = w.heap.size + 1 + 1 := by simp
  generalize (w.alloc o0).alloc (.cells #[.int .i64 a, .int .i64 b, .int .i64 c, .int .i64 d] 3) = W1 at *
  have h2 := ints2 (w := W1) s t hs ht
  have b2 : Below W1.heap.size W1 (W1.alloc (.cells #[.int .i64 s, .int .i64 t] 3)) := (Below.refl _ _).alloc (Nat.le_refl _) _
  have e3 : (W1.alloc (.cells #[.int .i64 s, .int .i64 t] 3)).heap.size = w.heap.size + 1 + 1 + 1 := by simp; omega
  rw [e2] at h2
  generalize W1.alloc (.cells #[.int .i64 s, .int .i64 t] 3) = W2 at *
  have b3 : Below W2.heap.size W2 (W2.alloc (.cells #[.slice (some ⟨w.heap.size + 1, 0, none⟩) 4 4, .slice A 4 k, .slice (some ⟨w.heap.size + 1 + 1, 0, none⟩) 2 2] 27)) := (Below.refl _ _).alloc (Nat.le_refl _) _
  have c0 := cell_new W2 #[.slice (some ⟨w.heap.size + 1, 0, none⟩) 4 4, .slice A 4 k, .slice (some ⟨w.heap.size + 1 + 1, 0, none⟩) 2 2] 27 0 rfl
  have c1 := cell_new W2 #[.slice (some ⟨w.heap.size + 1, 0, none⟩) 4 4, .slice A 4 k, .slice (some ⟨w.heap.size + 1 + 1, 0, none⟩) 2 2] 27 1 rfl
  have c2 := cell_new W2 #[.slice (some ⟨w.heap.size + 1, 0, none⟩) 4 4, .slice A 4 k, .slice (some ⟨w.heap.size + 1 + 1, 0, none⟩) 2 2] 27 2 rfl
  rw [e3] at c0 c1 c2
  have b12 : Below W1.heap.size W1 (W2.alloc (.cells #[.slice (some ⟨w.heap.size + 1, 0, none⟩) 4 4, .slice A 4 k, .slice (some ⟨w.heap.size + 1 + 1, 0, none⟩) 2 2] 27)) := b2.trans (b3.mono b2.size)
  generalize W2.alloc (.cells #[.slice (some ⟨w.heap.size + 1, 0, none⟩) 4 4, .slice A 4 k, .slice (some ⟨w.heap.size + 1 + 1, 0, none⟩) 2 2] 27) = W3 at *
  refine ⟨rfl, fun j hj => ?_⟩
  have hj' : j = 0 ∨ j = 1 ∨ j = 2 := by omega
  rcases hj' with rfl | rfl | rfl
  · exact ⟨_, _, _, _, rfl, by omega, c0, (h1.below b12 (by omega)).more (by omega)⟩
  · refine ⟨_, _, A, k, rfl, by omega, ?_, ?_⟩
    · show W3.cell? _ = some (.slice A ps.length k)
      rw [hl]; exact c1
    · show IntsAt W3 _ A ps.length ps
      rw [hl]
      exact (hp W3 (b1.trans (b12.mono b1.size))).more (by omega)
  · exact ⟨_, _, _, _, rfl, by omega, c2, (h2.below b3 (by omega)).more (by omega)⟩

end Go.Proofs.YtgdlfiejjnjcpaaGreat

namespace Go.Proofs.YtgdlfiejjnjcpaaGreat
open Go.RowKit

set_option maxRecDepth 100000 in
theorem info48 : (Tryz.prog.info? 85).map (fun i => (i.zero, i.size, i.bytes)) = some (some (.agg #[.int .i64 0, .int .i64 0, .int .i64 0]), 3, 24) := by kernel_rfl
/-- the nine cells of three spans, zero where there is none. -/
abbrev nine (l : List Sp) : Array Value := #[.int .i64 (l.getD 0 Sp.z).at_, .int .i64 (l.getD 0 Sp.z).st, .int .i64 (l.getD 0 Sp.z).len, .int .i64 (l.getD 1 Sp.z).at_, .int .i64 (l.getD 1 Sp.z).st, .int .i64 (l.getD 1 Sp.z).len, .int .i64 (l.getD 2 Sp.z).at_, .int .i64 (l.getD 2 Sp.z).st, .int .i64 (l.getD 2 Sp.z).len]
abbrev zero9 : Array Value := #[.int .i64 0, .int .i64 0, .int .i64 0, .int .i64 0, .int .i64 0, .int .i64 0, .int .i64 0, .int .i64 0, .int .i64 0]
set_option maxRecDepth 100000 in
theorem nine_nil : nine [] = zero9 := rfl
set_option maxRecDepth 100000 in
theorem nine_le (l : List Sp) (h : l.length ≤ 3) : ((spsCells l) ++ zero9.toList.drop (spsCells l).length).toArray = nine l := by
  match l, h with
  | [], _ => rfl
  | [a], _ => rfl
  | [a, b], _ => rfl
  | [a, b, c], _ => rfl

set_option maxRecDepth 100000 in
theorem copy3_run (W : World) (g t ty n c B : Nat) (A : Option Addr) (l : List Sp) (hg : W.heap[g]? = some (.cells zero9 t (0, 0))) (hA : SpsAt W B A n l) (hn : n ≤ 3) :
    ∃ W', (Builtin.copy_ #[28, 28] ty #[.slice (some ⟨g, 0, none⟩) 3 3, .slice A n c]).run Tryz.prog W = .ok (.int .i64 (n : Int)) W' ∧ W'.heap[g]? = some (.cells (nine l) t (0, 0)) ∧ (∀ base w0, base ≤ g → Below base w0 W → Below base w0 W') := by
  obtain ⟨i0, hi, hz0, hz1, hz2⟩ := info_parts info48
  have hl := hA.len
  have hmin : Nat.min n 3 = n := by simp [Nat.min_def]; omega
  rcases Nat.eq_zero_or_pos n with h0 | h0
  · subst h0
    have hl0 : l = [] := List.eq_nil_of_length_eq_zero hl
    subst hl0
    refine ⟨W, ?_, hg, fun base w0 _ hb => hb⟩
    have hld : ∀ (x : Addr), (loadCells x 0).run Tryz.prog W = .ok #[] W := fun x => by simpa using run_loadCells_list (P := Tryz.prog) W x [] (by simp)
    cases A <;> simp [Builtin.copy_, run_underlying Tryz.underlying28, Builtin.lenOf, Builtin.firstCells, sizeOf, typeInfo, hi, storeCells, hld, goInt]
  · obtain ⟨b, o, rfl, hb, -⟩ := hA.at_ h0
    have hlen : (spsCells l).length = n * 3 := by rw [spsCells_len, hl]
    have hload := run_loadCells_list (P := Tryz.prog) W ⟨b, o, none⟩ (spsCells l) (fun j v hj => by
      have hj2 : j < n * 3 := by
        have := (List.getElem?_eq_some_iff.1 hj).1
        rwa [hlen] at this
      obtain ⟨b', o', e, _, h1, h2, h3⟩ := hA.at_ (k := j / 3) (by omega)
      cases e
      obtain ⟨g1, g2, g3⟩ := spsCells_at l (j / 3) (by omega)
      rw [Go.WideShapes.add_plain]
      have hm : j = j / 3 * 3 ∨ j = j / 3 * 3 + 1 ∨ j = j / 3 * 3 + 2 := by omega
      rcases hm with hm | hm | hm
      · rw [hm] at hj ⊢; rw [g1] at hj; rw [h1, hj]
      · rw [hm] at hj ⊢; rw [g2] at hj; rw [← Nat.add_assoc, h2, hj]
      · rw [hm] at hj ⊢; rw [g3] at hj; rw [← Nat.add_assoc, h3, hj])
    have hone : ∀ v ∈ spsCells l, v.oneCell' = true := by
      intro v hv
      simp only [spsCells, List.mem_flatMap, spCells] at hv
      obtain ⟨s, _, hs⟩ := hv
      simp at hs
      rcases hs with rfl | rfl | rfl <;> rfl
    have hst := run_storeCells_at Tryz.prog g 0 t (spsCells l) 0 zero9 W hg (by rw [hlen]; show 0 + 0 + n * 3 ≤ 9; omega) hone
    refine ⟨_, ?_, setRow_heap W g _ _ t _ hg, fun base w0 hbg hb => hb.trans ⟨rfl, rfl, rfl, by simp [World.setRow], fun k hk => setRow_other W g k _ (by omega)⟩⟩
    rotate_left
    rotate_left
    · rw [hlen] at hload
      simp [Builtin.copy_, run_underlying Tryz.underlying28, Builtin.lenOf, Builtin.firstCells, sizeOf, typeInfo, hi, hz1, hmin, hload, goInt]
      rw [hst]
      simp only [Result.andThen_ok]
      congr 2
      rw [← nine_le l (by omega)]
      simp

set_option maxRecDepth 100000 in
theorem step_copy3 {ops : Array Oper} {o : Oper} {a : Act} {K : Act → World → Prop} {Q : Exit → Act → World → Prop} {E : Prop} (hgd : o.guard = none) (d s : Operand)
    (ho : o.op = .call { callee := .builtin .copy, args := #[d, s], argTypes := #[28, 28] }) (W : World) (g t n c B : Nat) (A : Option Addr) (l : List Sp)
    (hd : a.eval d = .slice (some ⟨g, 0, none⟩) 3 3) (hs : a.eval s = .slice A n c) (hg : W.heap[g]? = some (.cells zero9 t (0, 0))) (hA : SpsAt W B A n l) (hn : n ≤ 3)
    (h : ∀ W', W'.heap[g]? = some (.cells (nine l) t (0, 0)) → (∀ base w0, base ≤ g → Below base w0 W → Below base w0 W') → K (a.put o.dst (.int .i64 (n : Int))) W') :
    if Region.wanted o (yielded ops a.tmps) = true then Oper.wp Tryz.prog o a W K Q else E := by
  have hw : Region.wanted o (yielded ops a.tmps) = true := by simp [Region.wanted, hgd]
  rw [if_pos hw]
  obtain ⟨W', hrun, h1, h2⟩ := copy3_run W g t o.type n c B A l hg hA hn
  unfold Oper.wp
  simp [execOp, ho, resolve, invoke, builtin, hd, hs, hrun, Result.andThen]
  exact h W' h1 h2
end Go.Proofs.YtgdlfiejjnjcpaaGreat

namespace Go.Proofs.YtgdlfiejjnjcpaaGreat
open Go.RowKit

set_option maxRecDepth 100000 in
theorem vals2 {fm kd ln sz sg db ov : Int} {ps : List Int} {rs : List Sp} (h : fm = 2) : valuesC ⟨fm, kd, ln, sz, ps, sg, db, rs, ov⟩ = [fm, kd, ln, sz] ++ [(rs.length : Int)] ++ runI rs 0 ++ runI rs 1 ++ runI rs 2 ++ [ov] := by
  subst h; simp [valuesC]
/-- the head, and the first k runs. -/
def headR (fm kd ln sz : Int) (rs : List Sp) (k : Nat) : List Int := [fm, kd, ln, sz] ++ [(rs.length : Int)] ++ (List.range k).flatMap (runI rs)
set_option maxRecDepth 100000 in
theorem headR_succ (fm kd ln sz : Int) (rs : List Sp) (k : Nat) : headR fm kd ln sz rs (k + 1) = headR fm kd ln sz rs k ++ runI rs k := by
  simp [headR, List.range_succ, List.flatMap_append]
set_option maxRecDepth 100000 in
theorem headR_len (fm kd ln sz : Int) (rs : List Sp) (k : Nat) : (headR fm kd ln sz rs k).length = 5 + 3 * k := by
  induction k with
  | zero => rfl
  | succ k ih => rw [headR_succ, List.length_append, ih]; simp [runI]; omega
set_option maxRecDepth 100000 in
theorem headR_zero (fm kd ln sz : Int) (rs : List Sp) : headR fm kd ln sz rs 0 = [fm, kd, ln, sz] ++ [(rs.length : Int)] := by simp [headR]
set_option maxRecDepth 100000 in
theorem headR_all (fm kd ln sz ov : Int) (rs : List Sp) : headR fm kd ln sz rs 3 ++ [ov] = [fm, kd, ln, sz] ++ [(rs.length : Int)] ++ runI rs 0 ++ runI rs 1 ++ runI rs 2 ++ [ov] := by
  rw [headR_succ, headR_succ, headR_succ, headR_zero]

set_option maxRecDepth 100000 in
/-- a row stays where another block, made behind it, turns. -/
theorem row_keep {w w' : World} {base n sz g : Nat} {e : TypeId} {v : Value} {xs : List Value} (h : w.ownsRow base e sz v n xs) (hv : ∀ q, v.ownBlock = some q → q < g) (hb : Below g w w') : w'.ownsRow base e sz v n xs := by
  rcases h.2 with ⟨rfl, h0⟩ | ⟨q, cap, cur, rfl, h1, h2, h3⟩
  · exact ⟨h.1, Or.inl ⟨rfl, h0⟩⟩
  · exact ⟨h.1, Or.inr ⟨q, cap, cur, rfl, h1, (hb.block q (hv q rfl)).trans h2, h3⟩⟩

end Go.Proofs.YtgdlfiejjnjcpaaGreat

namespace Go.Proofs.YtgdlfiejjnjcpaaGreat
open Go.RowKit

set_option maxRecDepth 100000 in
theorem fitTo_all {ws vs : List Int} : ∀ n, fitTo ws vs n = true → ∀ k, k < n → 0 ≤ vs.getD k 0 ∧ vs.getD k 0 ≤ 4294967295 := fun n h k hk => by
  have := fitTo_at ws vs hk h
  unfold fitB at this
  have this := of_decide_eq_true this
  unfold mostOf at this
  split at this
  · omega
  · split at this <;> omega
set_option maxRecDepth 100000 in
theorem Below.dr {B : Nat} {a b : World} (h : Below B a b) : Below B a b.drew := ⟨h.os, h.tape, h.output, h.size, h.block⟩
set_option maxRecDepth 100000 in
theorem Below.und {B : Nat} {a b : World} (h : Below B a.drew b) : Below B a b := ⟨h.os, h.tape, h.output, h.size, h.block⟩
set_option maxRecDepth 100000 in
theorem CdRow.dr {W : World} {g : Nat} {c : Cd} {A : Option Addr} {n k : Nat} {A' : Option Addr} {n' k' : Nat} (h : CdRow W g c A n k A' n' k') : CdRow W.drew g c A n k A' n' k' := h
set_option maxRecDepth 100000 in
theorem IntsAt.dr {w : World} {B n : Nat} {A : Option Addr} {l : List Int} (h : IntsAt w B A n l) : IntsAt w.drew B A n l := h.keep fun _ _ => rfl
set_option maxRecDepth 100000 in
theorem vals_fit {c : Cd} (h : rightC c = true) : ∀ z ∈ valuesC c, Fit z := by
  obtain ⟨h1, h2, h3⟩ := fits_right h
  intro z hz
  obtain ⟨k, hk, rfl⟩ := List.getElem_of_mem hz
  have := fitTo_all _ h3 k (by omega)
  simp only [List.getD, List.getElem?_eq_getElem hk, Option.getD_some] at this
  unfold Fit; omega

set_option maxRecDepth 100000 in
theorem writeC_ok {c : Cd} (h : rightC c = true) : writeC c = (padS (bytesC c) 32, 0) := by unfold writeC; rw [if_pos h]
set_option maxRecDepth 100000 in
theorem writeC_no {c : Cd} (h : rightC c = false) : writeC c = (⟨#[]⟩, 1) := by unfold writeC; rw [if_neg (by rw [h]; decide)]
set_option maxRecDepth 100000 in
theorem box_row {v : World} {g : Nat} {c : Cd} {A : Option Addr} {n k : Nat} {A' : Option Addr} {n' k' : Nat} (h : CdRow v g c A n k A' n' k') : v.cell? ⟨g, 0, none⟩ = some (.int .i64 c.fm) ∧ v.cell? ⟨g, 1, none⟩ = some (.int .i64 c.kd) ∧ v.cell? ⟨g, 2, none⟩ = some (.int .i64 c.ln) ∧ v.cell? ⟨g, 3, none⟩ = some (.int .i64 c.sz) ∧ v.cell? ⟨g, 4, none⟩ = some (.slice A n k) ∧ v.cell? ⟨g, 5, none⟩ = some (.int .i64 c.sg) ∧ v.cell? ⟨g, 6, none⟩ = some (.int .i64 c.db) ∧ v.cell? ⟨g, 7, none⟩ = some (.slice A' n' k') ∧ v.cell? ⟨g, 8, none⟩ = some (.int .i64 c.ov) := h.cells

end Go.Proofs.YtgdlfiejjnjcpaaGreat

namespace Go.Proofs.YtgdlfiejjnjcpaaGreat
open Go.RowKit

/-- an answer that is a card. -/
def Fresh (N : Nat) (A : Option Addr) : Prop := ∀ b o, A = some ⟨b, o, none⟩ → N ≤ b
set_option maxRecDepth 100000 in
theorem Fresh.none (N : Nat) : Fresh N none := fun _ _ h => by cases h
set_option maxRecDepth 100000 in
theorem own_fresh {w : World} {base N n c sz : Nat} {e : TypeId} {A : Option Addr} {xs : List Value} (h : w.ownsRow base e sz (.slice A n c) n xs) (hN : N ≤ base) : Fresh N A := by
  intro b o hA
  subst hA
  rcases h.2 with ⟨h1, _⟩ | ⟨g, cap, cur, h1, h2, _⟩
  · injection h1 with h1; cases h1
  · injection h1 with h1; injection h1 with h1; injection h1 with h1; omega
/-- The value v reads as the card c, whose lists lie in blocks from number N on. -/
def CdNew (w : World) (N : Nat) (v : Value) (c : Cd) : Prop :=
  ∃ A n k A' n' k', Fresh N A ∧ Fresh N A' ∧ v = cdv c A n k A' n' k' ∧ IntsAt w w.heap.size A n c.ps ∧ SpsAt w w.heap.size A' n' c.rs ∧ n ≤ 9223372036854775807 ∧ n' ≤ 9223372036854775807 ∧ c.fit
set_option maxRecDepth 100000 in
theorem CdNew.at_ {w : World} {N : Nat} {v : Value} {c : Cd} (h : CdNew w N v c) : CdAt w w.heap.size v c := by
  obtain ⟨A, n, k, A', n', k', _, _, h⟩ := h
  exact ⟨A, n, k, A', n', k', h⟩
set_option maxRecDepth 100000 in
theorem cdn_zero (w : World) (N : Nat) : CdNew w N (cdv zeroC none 0 0 none 0 0) zeroC :=
  ⟨none, 0, 0, none, 0, 0, Fresh.none _, Fresh.none _, rfl, ⟨rfl, by simp [zeroC], fun k hk => absurd hk (by omega)⟩, ⟨rfl, by simp [zeroC], fun k hk => absurd hk (by omega)⟩, by omega, by omega, by simp [Cd.fit, zeroC, Fit]⟩
def RetCd (w : World) (c : Cd) (e : Ending) (w' : World) : Prop := ∃ v, e = .returned v ∧ CdNew w' w.heap.size v c ∧ Below w.heap.size w w'
set_option maxRecDepth 100000 in
theorem row_set {w : World} {g j : Nat} {cs cs' : Array Value} {t : TypeId} {v : Value} (h : w.heap[g]? = some (.cells cs t (0, 0))) (e : cs.setIfInBounds j v = cs') : (w.setCell ⟨g, j, none⟩ v).heap[g]? = some (.cells cs' t (0, 0)) := by
  rw [setCell_eq_setRow w g j cs t (0, 0) v h, e]
  exact setRow_heap w g cs cs' t (0, 0) h
set_option maxRecDepth 100000 in
theorem own_set {w : World} {base n sz : Nat} {e : TypeId} {v : Value} {xs : List Value} (h : w.ownsRow base e sz v n xs) (q j : Nat) (u : Value) (hq : q < base) : (w.setCell ⟨q, j, none⟩ u).ownsRow base e sz v n xs := by
  rcases h.2 with ⟨rfl, h0⟩ | ⟨g, cap, cur, rfl, h1, h2, h3⟩
  · exact ⟨h.1, Or.inl ⟨rfl, h0⟩⟩
  · refine ⟨h.1, Or.inr ⟨g, cap, cur, rfl, h1, ?_, h3⟩⟩
    rw [← h2]
    show (w.heap.modify q _)[g]? = _
    rw [Array.getElem?_modify, if_neg (by omega)]
set_option maxRecDepth 100000 in
theorem cd_fit (bs : List Int) (hb : ∀ i, 0 ≤ bs.getD i 0 ∧ bs.getD i 0 ≤ 255) (a n : Nat) (hn : n ≤ 4) : Fit (decF bs a n) := by
  have h1 := decF_bd bs hb n a
  have h2 := pow_le4 n hn
  unfold Fit; omega

end Go.Proofs.YtgdlfiejjnjcpaaGreat
