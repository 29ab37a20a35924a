/-
  ROWS OF INTS of a call's own: append of a new slice, of a list; slices.Grow from nil, slices.Concat, slices.Clone at []int. Conditions: at most 100000 elements.
  WALK: values returns the numbers of a valid card, in the order of its encoding. Conditions: the card is valid.
  WORDS: copy of at most three spans into a row of three zero spans, as a step of a region that draws; a row of three spans, known whole. No condition.
  WALK: values returns the numbers of a valid card of format Two, in the order of its encoding; of a card of no format it returns nil. Conditions: at most three spans.
  WALK: Write returns a card's bytes, or that it may not be. Conditions: the lists have as many elements as an int64 counts.
  WALK: cardOf returns the card whose numbers a text of 32 bytes has, format One and no format. Condition: the text has 32 bytes.
-/
import Derived.Test.YtapjbffhihhnbaaGreatBC
import Derived.Lib.AppendZeros
import Derived.Lib.Walk
import Derived.Lib.SliceRun
import Derived.Laws.IdiomCopy
import Derived.Laws.CopyOwn
import Derived.Lib.SlBuf
import Derived.Deep.RegionLaw
import Derived.Test.YtapjbffhihhnbaaGreatBE
import Derived.Test.YtapjbffhihhnbaaGreatBM
import Derived.BigRegion
namespace Go.Proofs.YtapjbffhihhnbaaGreat
open Go.RowKit

abbrev ints (l : List Int) : List Value := l.map (Value.int .i64)
set_option maxRecDepth 100000 in
theorem ints_one (l : List Int) : ∀ u ∈ ints l, u.oneCell' = true := by
  intro u hu
  obtain ⟨x, _, rfl⟩ := List.mem_map.1 hu
  rfl
set_option maxRecDepth 100000 in
theorem ints_at (l : List Int) (k : Nat) (h : k < l.length) : (ints l)[k]? = some (.int .i64 (l.getD k 0)) := by
  simp [ints, List.getD, h]
set_option maxRecDepth 100000 in
theorem IntsAt.of_own {w : World} {base : Nat} {v : Value} {A : Option Addr} {c : Nat} {l : List Int} (h : w.ownsRow base 3 1 v l.length (ints l)) (hv : v = .slice A l.length c) (hf : ∀ z ∈ l, Fit z) : IntsAt w w.heap.size A l.length l := by
  refine ⟨rfl, hf, fun k hk => ?_⟩
  obtain ⟨g, cap, e, _, hlt⟩ := h.form (by omega)
  subst hv
  have hA : A = some ⟨g, 0, none⟩ := by injection e
  subst hA
  have hcell := h.cells (g := g) rfl _ _ (ints_at l k hk)
  rw [Go.WideShapes.add_plain] at hcell
  exact ⟨g, 0, rfl, hlt, hcell⟩
set_option maxRecDepth 100000 in
theorem own_slice {w : World} {base : Nat} {v : Value} {n : Nat} {xs : List Value} (h : w.ownsRow base 3 1 v n xs) : ∃ A c, v = .slice A n c ∧ n ≤ c := by
  rcases h.2 with ⟨rfl, h0⟩ | ⟨g, cap, cur, rfl, _, _, hc, _⟩
  · have : n = 0 := by have := h.1; simp only [Nat.mul_one] at this; omega
    subst this
    exact ⟨none, 0, rfl, Nat.le_refl _⟩
  · exact ⟨_, cap, rfl, by omega⟩

/-- an answer that is a new row of ints. -/
def RetO (w : World) (l : List Int) (e : Ending) (w' : World) : Prop := ∃ v, e = .returned v ∧ w'.ownsRow w.heap.size 3 1 v l.length (ints l) ∧ Below w.heap.size w w'
set_option maxRecDepth 100000 in
theorem RetO.ints {w w' : World} {l : List Int} {e : Ending} (h : RetO w l e w') (hf : ∀ z ∈ l, Fit z) : RetI w l e w' := by
  obtain ⟨v, rfl, ho, hb⟩ := h
  obtain ⟨A, c, rfl, _⟩ := own_slice ho
  exact ⟨A, c, rfl, .of_own ho rfl hf, hb⟩


set_option maxRecDepth 100000 in
theorem run_append_of_nil {P : Program} (w : World) (base : Nat) (t ty e : TypeId) (i : TypeInfo) (size : Nat) (ht : P.underlying t = some (.slice e)) (hi : P.info? e = some i)
    (v : Value) (n : Nat) (xs : List Value) (hown : w.ownsRow base e size v n xs) (c : Nat) : (Builtin.append_ #[t, t] ty #[v, .slice none 0 c]).run P w = .ok v w := by
  rcases hown.2 with ⟨rfl, rfl⟩ | ⟨g, cap, cur, rfl, _, _, hnc, _⟩
  · simp [Builtin.append_, run_underlying ht, sizeOf, typeInfo, hi, Builtin.lenOf, Builtin.firstCells]
  · simp [Builtin.append_, run_underlying ht, sizeOf, typeInfo, hi, Builtin.lenOf, Builtin.firstCells, hnc, storeCells]
set_option maxRecDepth 100000 in
/-- append of a list that lies in any memory. -/
theorem joinI_law {ops : Array Oper} {rest : List Oper} {o : Oper} {a : Act} {Q : Exit → Act → World → Prop} (hgd : o.guard = none) (s x : Operand)
    (ho : o.op = .call { callee := .builtin .append, args := #[s, x], argTypes := #[37, 37] })
    (base : Nat) (W : World) (v : Value) (l : List Int) (hs : a.eval s = v) (B : Nat) (A : Option Addr) (m c : Nat) (l2 : List Int) (hx : a.eval x = .slice A m c)
    (hown : W.ownsRow base 3 1 v l.length (ints l)) (hA : IntsAt W B A m l2) (hl : l.length + m ≤ 100000) (hbase : base ≤ W.heap.size)
    (h : ∀ v' w', w'.ownsRow base 3 1 v' (l ++ l2).length (ints (l ++ l2)) → Below base W w' → wpList Tryz.prog ops Q rest (a.put o.dst v') w') :
    wpList Tryz.prog ops Q (o :: rest) a W := by
  obtain ⟨i0, hi, hz0, hz1, hz2⟩ := info_parts Tryz.info3
  cases A with
  | none =>
    have hm : m = 0 := by
      rcases Nat.eq_zero_or_pos m with h0 | h0
      · exact h0
      · obtain ⟨b, o, e, _⟩ := hA.at_ h0; cases e
    subst hm
    have hl2 : l2 = [] := List.eq_nil_of_length_eq_zero hA.len
    subst hl2
    refine wpList_plain hgd fun K hK => ?_
    have hrun := run_append_of_nil (P := Tryz.prog) W base 37 o.type 3 i0 1 Tryz.underlying37 hi v l.length (ints l) hown c
    unfold Oper.wp
    simp [execOp, ho, resolve, invoke, builtin, hs, hx, hrun, Result.andThen]
    exact hK _ _ (h v W (by rw [List.append_nil]; exact hown) (Below.refl _ _))
  | some ad =>
    refine wpList_append_own _ hgd s x 37 ho base 3 i0 _ 1 8 Tryz.underlying37 hi hz0 hz1 hz2 rfl (by decide) v l.length (ints l) hs hown ad m c (ints l2) hx (by rw [List.length_map, hA.len, Nat.mul_one])
      ?_ (ints_one l2) (by unfold maxLen; omega) (by omega) hbase ?_
    · intro j u hj
      have hlt : j < (ints l2).length := (List.getElem?_eq_some_iff.1 hj).1
      rw [List.length_map] at hlt
      obtain ⟨b, o, e1, _, h1⟩ := hA.at_ (k := j) (by rw [← hA.len]; exact hlt)
      injection e1 with e1
      subst e1
      rw [Go.WideShapes.add_plain, h1, ← ints_at l2 j hlt, hj]
    · intro v' w' hown' hg _
      refine h v' w' ?_ ?_
      · rw [ints, List.map_append, List.length_append, hA.len]; exact hown'
      · exact (Below.refl base W).grown hg hbase (fun k hk => (hown.lt k hk).1)

set_option maxRecDepth 100000 in
/-- append of a slice that has just been made of the values l2. -/
theorem pushN_law {ops : Array Oper} {rest : List Oper} {o : Oper} {a : Act} {Q : Exit → Act → World → Prop} (hgd : o.guard = none) (s x : Operand)
    (ho : o.op = .call { callee := .builtin .append, args := #[s, x], argTypes := #[37, 37] })
    (base : Nat) (W : World) (v : Value) (l : List Int) (l2 : List Int) (n2 c2 : Nat) (Z : Array Value) (hZ : Z = (ints l2).toArray) (hn2 : n2 = l2.length) (hs : a.eval s = v) (hx : a.eval x = .slice (some ⟨W.heap.size, 0, none⟩) n2 c2)
    (hown : W.ownsRow base 3 1 v l.length (ints l)) (hl : l.length + l2.length ≤ 100000) (hbase : base ≤ W.heap.size)
    (h : ∀ v' w', w'.ownsRow base 3 1 v' (l ++ l2).length (ints (l ++ l2)) → Below base W w' → wpList Tryz.prog ops Q rest (a.put o.dst v') w') :
    wpList Tryz.prog ops Q (o :: rest) a (W.alloc (.cells Z 3)) := by
  subst hZ hn2
  obtain ⟨i0, hi, hz0, hz1, hz2⟩ := info_parts Tryz.info3
  refine wpList_append_own _ hgd s x 37 ho base 3 i0 _ 1 8 Tryz.underlying37 hi hz0 hz1 hz2 rfl (by decide) v l.length (ints l) hs (hown.alloc _) ⟨W.heap.size, 0, none⟩ l2.length c2 (ints l2) hx (by rw [List.length_map, Nat.mul_one])
    (World.news_of_block (heap_alloc_new W _)) (ints_one l2) (by unfold maxLen; omega) (by omega) (by simp; omega) ?_
  intro v' w' hown' hg _
  refine h v' w' ?_ ?_
  · rw [ints, List.map_append, List.length_append]; exact hown'
  · exact (((Below.refl base W).alloc hbase _).grown hg (by simp; omega) (fun k hk => (hown.lt k hk).1))

set_option maxRecDepth 100000 in
theorem zI : (Value.int .i64 0).cells.size = 1 := rfl
set_option maxRecDepth 100000 in
set_option maxHeartbeats 1000000 in
theorem growI_any (n : Nat) (w : World) (hn : n ≤ 100000) :
    Calls Tryz.prog 144 #[.slice none 0 0, .int .i64 (n : Int)] w fun e w' => ∃ v, e = .returned v ∧ w'.ownsRow w.heap.size 3 1 v 0 [] ∧ Below w.heap.size w w' := by
  rcases Nat.eq_zero_or_pos n with rfl | hp
  · go_enter Tryz.func144, Tryz.ntmps144
    go_wp2
    go_ret
    exact ⟨_, rfl, World.ownsRow_nil _ _ _ _, Below.refl _ _⟩
  · obtain ⟨i0, hi, hz0, hz1, hz2⟩ := info_parts Tryz.info3
    have hap := Lib.run_append_nil_zeros w 37 3 37 3 i0 _ .i64 .i64 Tryz.underlying37 Tryz.underlying3 hi hz0 n hp (by omega) (by omega) (by rw [hz2]; omega)
    have hcap := grownCap_ge w n 0 3
    have hmax := grownCap_le_maxLen w n 0 3 (by unfold maxLen; omega)
    have hown := World.ownsRow_made (base := w.heap.size) (e := 3) (size := 1) w.drew (Builtin.zeroCells (Value.int .i64 0).cells n ++ Builtin.zeroCells (Value.int .i64 0).cells (grownCap w n 0 3 - n)) (grownCap w n 0 3) (Nat.le_refl _) hmax (by rw [Array.size_append, size_zeroCells, size_zeroCells, zI]; omega)
    have HO := Lib.hid hown
    have HAP := Lib.hid hap
    have hb : Below w.heap.size w (w.drew.alloc (.cells (Builtin.zeroCells (Value.int .i64 0).cells n ++ Builtin.zeroCells (Value.int .i64 0).cells (grownCap w n 0 3 - n)) 3)) :=
      Below.alloc (a := w) (w := w.drew) ⟨rfl, rfl, rfl, Nat.le_refl _, fun _ _ => rfl⟩ (Nat.le_refl _) _
    have HB := Lib.hid hb
    clear hown hap hb
    generalize grownCap w n 0 3 = G at *
    generalize (.cells (Builtin.zeroCells (Value.int .i64 0).cells n ++ Builtin.zeroCells (Value.int .i64 0).cells (G - n)) 3 : Obj) = ob at *
    have e1 : ¬ (n : Int) < 0 := by omega
    have e2 : (0 : Int) < (n : Int) := by omega
    have hmi : (G : Int) ≤ 9223372036854775807 := by unfold maxLen at hmax; omega
    go_enter Tryz.func144, Tryz.ntmps144
    go_wp2_with (at_builtin; refine Lib.wpList_append_run _ rfl _ _ _ _ rfl _ _ rfl rfl _ _ HAP.out ?_)
    go_ret
    exact ⟨_, rfl, HO.out, HB.out⟩

/-- The slice at A with n elements holds the slices of ints zss. -/
def LstsAt (w : World) (B : Nat) (A : Option Addr) (n : Nat) (zss : List (List Int)) : Prop :=
  zss.length = n ∧ ∀ k, k < n → ∃ b o A' c', A = some ⟨b, o, none⟩ ∧ b < B ∧ w.cell? ⟨b, o + k, none⟩ = some (.slice A' (zss.getD k []).length c') ∧ IntsAt w B A' (zss.getD k []).length (zss.getD k [])
set_option maxRecDepth 100000 in
theorem flat_take {p : List (List Int)} {k : Nat} (hk : k < p.length) : (p.take (k + 1)).flatten = (p.take k).flatten ++ p.getD k [] := by
  rw [List.take_add_one, List.getElem?_eq_getElem hk, List.flatten_append]
  simp [List.getD, List.getElem?_eq_getElem hk]
set_option maxRecDepth 100000 in
theorem flat_le (p : List (List Int)) (k : Nat) : (p.take k).flatten.length ≤ p.flatten.length := by
  have : p.flatten = (p.take k).flatten ++ (p.drop k).flatten := by rw [← List.flatten_append, List.take_append_drop]
  rw [this, List.length_append]
  omega

set_option maxRecDepth 100000 in
set_option maxHeartbeats 4000000 in
theorem concatI_any (A : Option Addr) (n c B : Nat) (p : List (List Int)) (w : World) (hA : LstsAt w B A n p) (hB : B ≤ w.heap.size) (hn : n ≤ 100000) (hm : p.flatten.length ≤ 100000) :
    Calls Tryz.prog 127 #[.slice A n c] w (RetO w p.flatten) := by
  have HL : Hid (p.length = n) := hA.1
  have HA := Lib.hid hA
  have HF : Hid (∀ k, k < n → (p.take (k + 1)).flatten.length = (p.take k).flatten.length + (p.getD k []).length) := fun k hk => by
    rw [flat_take (by rw [HL.out]; exact hk), List.length_append]
  have HG : Hid (∀ k, k < n → (p.take (k + 1)).flatten = (p.take k).flatten ++ p.getD k []) := fun k hk => flat_take (by rw [HL.out]; exact hk)
  have HLE : Hid (∀ k, (p.take k).flatten.length ≤ p.flatten.length) := fun k => flat_le p k
  have HALL : Hid ((p.take n).flatten = p.flatten) := by show _ = _; rw [← HL.out, List.take_length]
  clear hA
  go_enter Tryz.func127, Tryz.ntmps127
  go_wp2
  go_loop [3, 11] (fun s i => ∃ k : Nat, k ≤ n ∧ i = .int .i64 (k : Int) ∧ s = .int .i64 (((p.take k).flatten.length : Nat) : Int)) (fun _ i => n - (intOf i).toNat)
  case atStart => exact ⟨0, by omega, rfl, by simp⟩
  case round =>
    obtain ⟨k, hk, rfl, rfl⟩ := hrel
    by_cases hlt : k < n
    · obtain ⟨b, o, A', c', rfl, hbB, hcell, -⟩ := HA.out.2 k hlt
      have hf := HF.out k hlt
      have h1 := HLE.out (k + 1)
      have HFk := Lib.hid hf
      generalize hT : (p.take k).flatten.length = t at *
      have HT := Lib.hid hT
      clear hT
      generalize (p.getD k []).length = len at *
      have x1 : ¬ ((t : Int) + (len : Int)) < 0 := by omega
      have x2 : ((t : Int) + (len : Int)) ≤ 100000 := by omega
      have HE : Hid ((t : Int) + (len : Int) = (((p.take (k + 1)).flatten.length : Nat) : Int)) := by show _ = _; rw [HFk.out]; omega
      clear hf
      go_wp2
      go_round
      case rel => exact ⟨k + 1, by omega, by go_num, by rw [HE.out]⟩
      case measure => simp [intOf]; omega
    · have HK : Hid (k = n) := by show k = n; omega
      have HGR : Hid (Calls Tryz.prog 144 #[.slice none 0 0, .int .i64 (((p.take k).flatten.length : Nat) : Int)] w fun e w' => ∃ v, e = .returned v ∧ w'.ownsRow w.heap.size 3 1 v 0 [] ∧ Below w.heap.size w w') := growI_any _ w (by have := HLE.out k; omega)
      generalize (p.take k).flatten.length = t at *
      go_wp2_with fail
      refine HGR.out.mono ?_
      rintro e w1 ⟨v, rfl, ho1, b1⟩
      have HO1 : Hid (w1.ownsRow w.heap.size 3 1 v ((p.take 0).flatten).length (ints (p.take 0).flatten)) := by
        show World.ownsRow _ _ _ _ _ _ _
        exact ho1
      clear ho1
      have HNV : Hid (∃ A c, v = .slice A 0 c) := by obtain ⟨A, c, e, -⟩ := own_slice HO1.out; exact ⟨A, c, e⟩
      obtain ⟨A1, c1, rfl⟩ := HNV.out
      have HB1 := Lib.hid b1
      clear b1 HNV HGR HK hlt hk
      go_wp2
      go_loopw [6, 8, 27] (fun v _ i wq => ∃ j : Nat, j ≤ n ∧ i = .int .i64 (j : Int) ∧ wq.ownsRow w.heap.size 3 1 v (p.take j).flatten.length (ints (p.take j).flatten) ∧ Below w.heap.size w wq) (fun _ _ i _ => n - (intOf i).toNat)
      case atStart => exact ⟨0, by omega, rfl, HO1.out, HB1.out⟩
      case round =>
        clear HO1 HB1
        obtain ⟨j, hj, rfl, hown, hb⟩ := hrel
        by_cases hjn : j < n
        · obtain ⟨b, o, A', c', rfl, hbB, hcell, hE⟩ := HA.out.2 j hjn
          have hc := bcell hb hcell (show b < _ by omega)
          have h1 := HLE.out (j + 1)
          have h2 := HF.out j hjn
          have HGj := Lib.hid (HG.out j hjn)
          have HE2 := Lib.hid (hE.below hb (by omega))
          have HOWN := Lib.hid hown
          have HB := Lib.hid hb
          have hlen : (p.take j).flatten.length + (p.getD j []).length ≤ 100000 := by omega
          have hsz := hb.size
          clear hE hown hcell hb h1 h2
          generalize (p.take j).flatten = acc at *
          generalize p.getD j [] = l at *
          go_wp2_with (at_builtin; refine joinI_law rfl (.tmp 31) (.tmp 32) rfl w.heap.size wr _ acc rfl B A' l.length c' l rfl HOWN.out HE2.out hlen hsz ?_)
          intro v' w6 ho6 b6
          obtain ⟨A6, c6, rfl, -⟩ := own_slice ho6
          have HO6 := Lib.hid ho6
          have HB6 := Lib.hid (HB.out.trans (b6.mono (Nat.le_refl _)))
          clear ho6 b6 hc
          go_wp2
          go_roundw
          case rel => exact ⟨j + 1, by omega, by go_num, by rw [HGj.out, List.length_append]; simpa using HO6.out, HB6.out⟩
          case measure => simp [intOf]; omega
        · obtain rfl : j = n := by omega
          rw [HALL.out] at hown
          obtain ⟨A6, c6, rfl, -⟩ := own_slice hown
          have HO6 := Lib.hid hown
          clear hown
          go_wp2
          go_ret
          exact ⟨_, rfl, HO6.out, hb⟩

set_option maxRecDepth 100000 in
set_option maxHeartbeats 2000000 in
/-- slices.Clone of a slice that is not nil. -/
theorem cloneI_any (b o n c B : Nat) (l : List Int) (w : World) (hA : IntsAt w B (some ⟨b, o, none⟩) n l) (hB : B ≤ w.heap.size) (hn : n ≤ 100000) :
    Calls Tryz.prog 119 #[.slice (some ⟨b, o, none⟩) n c] w (RetO w l) := by
  have q22 : ∀ (w : World) (a : Option Addr) (n c n' c' : Nat), (binOp .eql 37 (.slice a n c) (.slice none n' c')).run Tryz.prog w = .ok (.bool a.isNone) w := fun w a n c n' c' => Lib.run_eql_slice_nil w _ _ a n c n' c' Tryz.underlying37
  have HN := Lib.hid hA.len
  have HA : Hid (∀ v, Below w.heap.size w v → IntsAt v B (some ⟨b, o, none⟩) n l) := fun v hv => hA.below hv hB
  clear hA
  go_enter Tryz.func119, Tryz.ntmps119
  go_wp2_with (at_builtin; refine joinI_law rfl (.tmp 5) (.tmp 6) rfl w.heap.size _ _ [] rfl B (some ⟨b, o, none⟩) n c l rfl (World.ownsRow_made w #[] 0 (Nat.le_refl _) (Nat.zero_le _) rfl) (HA.out _ ((Below.refl _ _).alloc (Nat.le_refl _) _)) (by simp; omega) (by simp) ?_)
  intro v' w' ho hb
  obtain ⟨A6, c6, rfl, -⟩ := own_slice ho
  have HO := Lib.hid ho
  have HB := Lib.hid (((Below.refl w.heap.size w).alloc (Nat.le_refl _) (.cells #[] 3)).trans hb)
  clear ho hb
  generalize hm : l.length = m at *
  have HM := Lib.hid hm
  clear hm
  go_wp2
  go_ret
  refine ⟨_, rfl, ?_, HB.out⟩
  rw [HM.out]
  exact HO.out
end Go.Proofs.YtapjbffhihhnbaaGreat

namespace Go.Proofs.YtapjbffhihhnbaaGreat
open Go.RowKit

set_option maxRecDepth 100000 in
theorem own_below {w w' : World} {base C n sz : Nat} {e : TypeId} {v : Value} {xs : List Value} (h : w.ownsRow base e sz v n xs) (hb : Below C w w') (hC : w.heap.size ≤ C) : w'.ownsRow base e sz v n xs :=
  h.kept (row := none) ⟨hb.os, hb.tape, hb.output, hb.size, fun k hk _ => hb.block k (by omega)⟩ (by cases v.ownBlock <;> simp)

set_option maxRecDepth 100000 in
theorem vals1 {fm kd ln sz sg db ov : Int} {ps : List Int} {rs : List Sp} (h : fm = 1) : valuesC ⟨fm, kd, ln, sz, ps, sg, db, rs, ov⟩ = [[fm, kd, ln, sz], ps, [sg, db]].flatten := by
  subst h; simp [valuesC]

set_option maxRecDepth 100000 in
theorem ints4 {w : World} (a b c d : Int) (ha : Fit a) (hb : Fit b) (hc : Fit c) (hd : Fit d) : IntsAt (w.alloc (.cells #[.int .i64 a, .int .i64 b, .int .i64 c, .int .i64 d] 3)) (w.heap.size + 1) (some ⟨w.heap.size, 0, none⟩) 4 [a, b, c, d] :=
  ints_new (w := w) [a, b, c, d] (by simp; exact ⟨ha, hb, hc, hd⟩)
set_option maxRecDepth 100000 in
theorem ints2 {w : World} (a b : Int) (ha : Fit a) (hb : Fit b) : IntsAt (w.alloc (.cells #[.int .i64 a, .int .i64 b] 3)) (w.heap.size + 1) (some ⟨w.heap.size, 0, none⟩) 2 [a, b] :=
  ints_new (w := w) [a, b] (by simp; exact ⟨ha, hb⟩)

set_option maxRecDepth 100000 in
theorem own_base {w : World} {b b' n sz : Nat} {e : TypeId} {v : Value} {xs : List Value} (h : w.ownsRow b e sz v n xs) (hb : b' ≤ b) : w.ownsRow b' e sz v n xs := ⟨h.1, by
  rcases h.2 with h | ⟨g, cap, cur, h1, h2, h3⟩
  · exact Or.inl h
  · exact Or.inr ⟨g, cap, cur, h1, Nat.le_trans hb h2, h3⟩⟩
set_option maxRecDepth 100000 in
theorem RetO.to {w w1 : World} {l : List Int} {e : Ending} {w' : World} (h : RetO w1 l e w') (hb : Below w.heap.size w w1) : RetO w l e w' := by
  obtain ⟨v, rfl, ho, b⟩ := h
  exact ⟨v, rfl, own_base ho hb.size, hb.trans (b.mono hb.size)⟩

set_option maxRecDepth 100000 in
theorem lsts3 (w : World) (o0 : Obj) (a b c d s t : Int) (ps : List Int) (A : Option Addr) (k B : Nat) (ha : Fit a) (hb : Fit b) (hc : Fit c) (hd : Fit d) (hs : Fit s) (ht : Fit t) (hp : ∀ v, Below w.heap.size w v → IntsAt v B A 4 ps) (hl : ps.length = 4) (hB : B ≤ w.heap.size) :
    LstsAt ((((w.alloc o0).alloc (.cells #[.int .i64 a, .int .i64 b, .int .i64 c, .int .i64 d] 3)).alloc (.cells #[.int .i64 s, .int .i64 t] 3)).alloc
      (.cells #[.slice (some ⟨w.heap.size + 1, 0, none⟩) 4 4, .slice A 4 k, .slice (some ⟨w.heap.size + 1 + 1, 0, none⟩) 2 2] 37)) (w.heap.size + 4) (some ⟨w.heap.size + 1 + 1 + 1, 0, none⟩) 3 [[a, b, c, d], ps, [s, t]] := by
  have h1 := ints4 (w := w.alloc o0) a b c d ha hb hc hd
  have e1 : (w.alloc o0).heap.size = w.heap.size + 1 := by simp
  rw [e1] at h1
  have b1 : Below w.heap.size w ((w.alloc o0).alloc (.cells #[.int .i64 a, .int .i64 b, .int .i64 c, .int .i64 d] 3)) := ((Below.refl _ _).alloc (Nat.le_refl _) _).alloc (by simp) _
  have e2 : ((w.alloc o0).alloc (.cells #[.int .i64 a, .int .i64 b, .int .i64 c, .int .i64 d] 3)).heap.size = w.heap.size + 1 + 1 := by simp
  generalize (w.alloc o0).alloc (.cells #[.int .i64 a, .int .i64 b, .int .i64 c, .int .i64 d] 3) = W1 at *
  have h2 := ints2 (w := W1) s t hs ht
  have b2 : Below W1.heap.size W1 (W1.alloc (.cells #[.int .i64 s, .int .i64 t] 3)) := (Below.refl _ _).alloc (Nat.le_refl _) _
  have e3 : (W1.alloc (.cells #[.int .i64 s, .int .i64 t] 3)).heap.size = w.heap.size + 1 + 1 + 1 := by simp; omega
  rw [e2] at h2
  generalize W1.alloc (.cells #[.int .i64 s, .int .i64 t] 3) = W2 at *
  have b3 : Below W2.heap.size W2 (W2.alloc (.cells #[.slice (some ⟨w.heap.size + 1, 0, none⟩) 4 4, .slice A 4 k, .slice (some ⟨w.heap.size + 1 + 1, 0, none⟩) 2 2] 37)) := (Below.refl _ _).alloc (Nat.le_refl _) _
  have c0 := cell_new W2 #[.slice (some ⟨w.heap.size + 1, 0, none⟩) 4 4, .slice A 4 k, .slice (some ⟨w.heap.size + 1 + 1, 0, none⟩) 2 2] 37 0 rfl
  have c1 := cell_new W2 #[.slice (some ⟨w.heap.size + 1, 0, none⟩) 4 4, .slice A 4 k, .slice (some ⟨w.heap.size + 1 + 1, 0, none⟩) 2 2] 37 1 rfl
  have c2 := cell_new W2 #[.slice (some ⟨w.heap.size + 1, 0, none⟩) 4 4, .slice A 4 k, .slice (some ⟨w.heap.size + 1 + 1, 0, none⟩) 2 2] 37 2 rfl
  rw [e3] at c0 c1 c2
  have b12 : Below W1.heap.size W1 (W2.alloc (.cells #[.slice (some ⟨w.heap.size + 1, 0, none⟩) 4 4, .slice A 4 k, .slice (some ⟨w.heap.size + 1 + 1, 0, none⟩) 2 2] 37)) := b2.trans (b3.mono b2.size)
  generalize W2.alloc (.cells #[.slice (some ⟨w.heap.size + 1, 0, none⟩) 4 4, .slice A 4 k, .slice (some ⟨w.heap.size + 1 + 1, 0, none⟩) 2 2] 37) = W3 at *
  refine ⟨rfl, fun j hj => ?_⟩
  have hj' : j = 0 ∨ j = 1 ∨ j = 2 := by omega
  rcases hj' with rfl | rfl | rfl
  · exact ⟨_, _, _, _, rfl, by omega, c0, (h1.below b12 (by omega)).more (by omega)⟩
  · refine ⟨_, _, A, k, rfl, by omega, ?_, ?_⟩
    · show W3.cell? _ = some (.slice A ps.length k)
      rw [hl]; exact c1
    · show IntsAt W3 _ A ps.length ps
      rw [hl]
      exact (hp W3 (b1.trans (b12.mono b1.size))).more (by omega)
  · exact ⟨_, _, _, _, rfl, by omega, c2, (h2.below b3 (by omega)).more (by omega)⟩

set_option maxRecDepth 100000 in
set_option maxHeartbeats 2000000 in
theorem values1_any (fm kd ln sz sg db ov : Int) (ps : List Int) (rs : List Sp) (A : Option Addr) (k : Nat) (A' : Option Addr) (n' k' B : Nat) (w : World) (hf : fm = 1) (hF : Cd.fit ⟨fm, kd, ln, sz, ps, sg, db, rs, ov⟩)
    (i1 : IntsAt w B A 4 ps) (hB : B ≤ w.heap.size) :
    Calls Tryz.prog 85 #[cdv ⟨fm, kd, ln, sz, ps, sg, db, rs, ov⟩ A 4 k A' n' k'] w (RetO w (valuesC ⟨fm, kd, ln, sz, ps, sg, db, rs, ov⟩)) := by
  obtain ⟨f0, f1, f2, f3, f4, f5, f6⟩ := hF
  simp only at f0 f1 f2 f3 f4 f5 f6
  have hl := i1.len
  rw [vals1 hf]
  have hfl : [[fm, kd, ln, sz], ps, [sg, db]].flatten.length ≤ 100000 := by simp; omega
  have HC := Lib.hid (fun A n c B v hA hB => concatI_any A n c B [[fm, kd, ln, sz], ps, [sg, db]] v hA hB (by have := hA.1; simp at this; omega) hfl)
  generalize [[fm, kd, ln, sz], ps, [sg, db]].flatten = out at *
  have HW : Hid (∀ v, Below w.heap.size w v → IntsAt v B A 4 ps) := fun v hv => i1.below hv hB
  have HP : Hid (ps.length = 4) := hl
  clear hl i1 hfl
  subst hf
  go_enter Tryz.func85, Tryz.ntmps85
  have HL := Lib.hid (fun o0 => lsts3 w o0 1 kd ln sz sg db ps A k B f0 f1 f2 f3 f4 f5 HW.out HP.out hB)
  clear HW HP f0 f1 f2 f3 f4 f5 f6
  go_wp2_with fail
  refine (HC.out _ 3 3 _ _ (HL.out _) (by simp)).mono ?_
  intro e w' hr
  obtain ⟨v, rfl, ho, hb⟩ := hr.to (w := w) ((((Below.refl _ _).alloc (Nat.le_refl _) _).alloc (by simp) _).alloc (by simp; omega) _ |>.alloc (by simp; omega) _)
  have HO := Lib.hid ho
  have HB := Lib.hid hb
  clear ho hb hr
  go_wp2
  go_ret
  exact ⟨_, rfl, HO.out, HB.out⟩
end Go.Proofs.YtapjbffhihhnbaaGreat

namespace Go.Proofs.YtapjbffhihhnbaaGreat
open Go.RowKit

set_option maxRecDepth 100000 in
theorem info48 : (Tryz.prog.info? 121).map (fun i => (i.zero, i.size, i.bytes)) = some (some (.agg #[.int .i64 0, .int .i64 0, .int .i64 0]), 3, 24) := by kernel_rfl
/-- the nine cells of three spans, zero where there is none. -/
abbrev nine (l : List Sp) : Array Value := #[.int .i64 (l.getD 0 Sp.z).at_, .int .i64 (l.getD 0 Sp.z).st, .int .i64 (l.getD 0 Sp.z).len, .int .i64 (l.getD 1 Sp.z).at_, .int .i64 (l.getD 1 Sp.z).st, .int .i64 (l.getD 1 Sp.z).len, .int .i64 (l.getD 2 Sp.z).at_, .int .i64 (l.getD 2 Sp.z).st, .int .i64 (l.getD 2 Sp.z).len]
abbrev zero9 : Array Value := #[.int .i64 0, .int .i64 0, .int .i64 0, .int .i64 0, .int .i64 0, .int .i64 0, .int .i64 0, .int .i64 0, .int .i64 0]
set_option maxRecDepth 100000 in
theorem nine_nil : nine [] = zero9 := rfl
set_option maxRecDepth 100000 in
theorem nine_le (l : List Sp) (h : l.length ≤ 3) : ((spsCells l) ++ zero9.toList.drop (spsCells l).length).toArray = nine l := by
  match l, h with
  | [], _ => rfl
  | [a], _ => rfl
  | [a, b], _ => rfl
  | [a, b, c], _ => rfl

set_option maxRecDepth 100000 in
theorem copy3_run (W : World) (g t ty n c B : Nat) (A : Option Addr) (l : List Sp) (hg : W.heap[g]? = some (.cells zero9 t (0, 0))) (hA : SpsAt W B A n l) (hn : n ≤ 3) :
    ∃ W', (Builtin.copy_ #[38, 38] ty #[.slice (some ⟨g, 0, none⟩) 3 3, .slice A n c]).run Tryz.prog W = .ok (.int .i64 (n : Int)) W' ∧ W'.heap[g]? = some (.cells (nine l) t (0, 0)) ∧ (∀ base w0, base ≤ g → Below base w0 W → Below base w0 W') := by
  obtain ⟨i0, hi, hz0, hz1, hz2⟩ := info_parts info48
  have hl := hA.len
  have hmin : Nat.min n 3 = n := by simp [Nat.min_def]; omega
  rcases Nat.eq_zero_or_pos n with h0 | h0
  · subst h0
    have hl0 : l = [] := List.eq_nil_of_length_eq_zero hl
    subst hl0
    refine ⟨W, ?_, hg, fun base w0 _ hb => hb⟩
    have hld : ∀ (x : Addr), (loadCells x 0).run Tryz.prog W = .ok #[] W := fun x => by simpa using run_loadCells_list (P := Tryz.prog) W x [] (by simp)
    cases A <;> simp [Builtin.copy_, run_underlying Tryz.underlying38, Builtin.lenOf, Builtin.firstCells, sizeOf, typeInfo, hi, storeCells, hld, goInt]
  · obtain ⟨b, o, rfl, hb, -⟩ := hA.at_ h0
    have hlen : (spsCells l).length = n * 3 := by rw [spsCells_len, hl]
    have hload := run_loadCells_list (P := Tryz.prog) W ⟨b, o, none⟩ (spsCells l) (fun j v hj => by
      have hj2 : j < n * 3 := by
        have := (List.getElem?_eq_some_iff.1 hj).1
        rwa [hlen] at this
      obtain ⟨b', o', e, _, h1, h2, h3⟩ := hA.at_ (k := j / 3) (by omega)
      cases e
      obtain ⟨g1, g2, g3⟩ := spsCells_at l (j / 3) (by omega)
      rw [Go.WideShapes.add_plain]
      have hm : j = j / 3 * 3 ∨ j = j / 3 * 3 + 1 ∨ j = j / 3 * 3 + 2 := by omega
      rcases hm with hm | hm | hm
      · rw [hm] at hj ⊢; rw [g1] at hj; rw [h1, hj]
      · rw [hm] at hj ⊢; rw [g2] at hj; rw [← Nat.add_assoc, h2, hj]
      · rw [hm] at hj ⊢; rw [g3] at hj; rw [← Nat.add_assoc, h3, hj])
    have hone : ∀ v ∈ spsCells l, v.oneCell' = true := by
      intro v hv
      simp only [spsCells, List.mem_flatMap, spCells] at hv
      obtain ⟨s, _, hs⟩ := hv
      simp at hs
      rcases hs with rfl | rfl | rfl <;> rfl
    have hst := run_storeCells_at Tryz.prog g 0 t (spsCells l) 0 zero9 W hg (by rw [hlen]; show 0 + 0 + n * 3 ≤ 9; omega) hone
    refine ⟨_, ?_, setRow_heap W g _ _ t _ hg, fun base w0 hbg hb => hb.trans ⟨rfl, rfl, rfl, by simp [World.setRow], fun k hk => setRow_other W g k _ (by omega)⟩⟩
    rotate_left
    rotate_left
    · rw [hlen] at hload
      simp [Builtin.copy_, run_underlying Tryz.underlying38, Builtin.lenOf, Builtin.firstCells, sizeOf, typeInfo, hi, hz1, hmin, hload, goInt]
      rw [hst]
      simp only [Result.andThen_ok]
      congr 2
      rw [← nine_le l (by omega)]
      simp

set_option maxRecDepth 100000 in
theorem step_copy3 {ops : Array Oper} {o : Oper} {a : Act} {K : Act → World → Prop} {Q : Exit → Act → World → Prop} {E : Prop} (hgd : o.guard = none) (d s : Operand)
    (ho : o.op = .call { callee := .builtin .copy, args := #[d, s], argTypes := #[38, 38] }) (W : World) (g t n c B : Nat) (A : Option Addr) (l : List Sp)
    (hd : a.eval d = .slice (some ⟨g, 0, none⟩) 3 3) (hs : a.eval s = .slice A n c) (hg : W.heap[g]? = some (.cells zero9 t (0, 0))) (hA : SpsAt W B A n l) (hn : n ≤ 3)
    (h : ∀ W', W'.heap[g]? = some (.cells (nine l) t (0, 0)) → (∀ base w0, base ≤ g → Below base w0 W → Below base w0 W') → K (a.put o.dst (.int .i64 (n : Int))) W') :
    if Region.wanted o (yielded ops a.tmps) = true then Oper.wp Tryz.prog o a W K Q else E := by
  have hw : Region.wanted o (yielded ops a.tmps) = true := by simp [Region.wanted, hgd]
  rw [if_pos hw]
  obtain ⟨W', hrun, h1, h2⟩ := copy3_run W g t o.type n c B A l hg hA hn
  unfold Oper.wp
  simp [execOp, ho, resolve, invoke, builtin, hd, hs, hrun, Result.andThen]
  exact h W' h1 h2
end Go.Proofs.YtapjbffhihhnbaaGreat

namespace Go.Proofs.YtapjbffhihhnbaaGreat
open Go.RowKit

set_option maxRecDepth 100000 in
theorem vals2 {fm kd ln sz sg db ov : Int} {ps : List Int} {rs : List Sp} (h : fm = 2) : valuesC ⟨fm, kd, ln, sz, ps, sg, db, rs, ov⟩ = [fm, kd, ln, sz] ++ [(rs.length : Int)] ++ runI rs 0 ++ runI rs 1 ++ runI rs 2 ++ [ov] := by
  subst h; simp [valuesC]
/-- the head, and the first k runs. -/
def headR (fm kd ln sz : Int) (rs : List Sp) (k : Nat) : List Int := [fm, kd, ln, sz] ++ [(rs.length : Int)] ++ (List.range k).flatMap (runI rs)
set_option maxRecDepth 100000 in
theorem headR_succ (fm kd ln sz : Int) (rs : List Sp) (k : Nat) : headR fm kd ln sz rs (k + 1) = headR fm kd ln sz rs k ++ runI rs k := by
  simp [headR, List.range_succ, List.flatMap_append]
set_option maxRecDepth 100000 in
theorem headR_len (fm kd ln sz : Int) (rs : List Sp) (k : Nat) : (headR fm kd ln sz rs k).length = 5 + 3 * k := by
  induction k with
  | zero => rfl
  | succ k ih => rw [headR_succ, List.length_append, ih]; simp [runI]; omega
set_option maxRecDepth 100000 in
theorem headR_zero (fm kd ln sz : Int) (rs : List Sp) : headR fm kd ln sz rs 0 = [fm, kd, ln, sz] ++ [(rs.length : Int)] := by simp [headR]
set_option maxRecDepth 100000 in
theorem headR_all (fm kd ln sz ov : Int) (rs : List Sp) : headR fm kd ln sz rs 3 ++ [ov] = [fm, kd, ln, sz] ++ [(rs.length : Int)] ++ runI rs 0 ++ runI rs 1 ++ runI rs 2 ++ [ov] := by
  rw [headR_succ, headR_succ, headR_succ, headR_zero]

set_option maxRecDepth 100000 in
/-- a row stays where another block, made behind it, turns. -/
theorem row_keep {w w' : World} {base n sz g : Nat} {e : TypeId} {v : Value} {xs : List Value} (h : w.ownsRow base e sz v n xs) (hv : ∀ q, v.ownBlock = some q → q < g) (hb : Below g w w') : w'.ownsRow base e sz v n xs := by
  rcases h.2 with ⟨rfl, h0⟩ | ⟨q, cap, cur, rfl, h1, h2, h3⟩
  · exact ⟨h.1, Or.inl ⟨rfl, h0⟩⟩
  · exact ⟨h.1, Or.inr ⟨q, cap, cur, rfl, h1, (hb.block q (hv q rfl)).trans h2, h3⟩⟩

set_option maxRecDepth 100000 in
set_option maxHeartbeats 2000000 in
theorem values2_any (fm kd ln sz sg db ov : Int) (ps : List Int) (rs : List Sp) (A : Option Addr) (n k : Nat) (A' : Option Addr) (n' k' B : Nat) (w : World) (hf : fm = 2)
    (s1 : SpsAt w B A' n' rs) (hn' : n' ≤ 3) (hB : B ≤ w.heap.size) :
    Calls Tryz.prog 85 #[cdv ⟨fm, kd, ln, sz, ps, sg, db, rs, ov⟩ A n k A' n' k'] w (RetO w (valuesC ⟨fm, kd, ln, sz, ps, sg, db, rs, ov⟩)) := by
  have HL := Lib.hid s1.len
  rw [vals2 hf, ← headR_all]
  have HW : Hid (∀ v, Below w.heap.size w v → SpsAt v B A' n' rs) := fun v hv => s1.below hv hB
  have hne : (fm == 1) = false := by subst hf; rfl
  have hne2 : (fm == 2) = true := by subst hf; rfl
  clear s1 hf
  have HO1 : Hid (∀ o : Obj, ((w.alloc o).alloc (.cells #[.int .i64 fm, .int .i64 kd, .int .i64 ln, .int .i64 sz] 3)).ownsRow (w.heap.size + 1) 3 1 (.slice (some ⟨w.heap.size + 1, 0, none⟩) 4 4) [fm, kd, ln, sz].length (ints [fm, kd, ln, sz])) := fun o => by
    have := World.ownsRow_lit (base := w.heap.size + 1) (e := 3) (size := 1) (w.alloc o) #[.int .i64 fm, .int .i64 kd, .int .i64 ln, .int .i64 sz] 4 (by simp) (by unfold maxLen; omega) rfl
    simpa using this
  have HROW : Hid (CdRow ((w.alloc (.cells (cells9 ⟨fm, kd, ln, sz, ps, sg, db, rs, ov⟩ A n k A' n' k') 40)).alloc (.cells #[.int .i64 fm, .int .i64 kd, .int .i64 ln, .int .i64 sz] 3)) w.heap.size ⟨fm, kd, ln, sz, ps, sg, db, rs, ov⟩ A n k A' n' k') :=
    (CdRow.new w _ A n k A' n' k').below ((Below.refl _ _).alloc (Nat.le_refl _) _) (by simp)
  have HB1 : Hid (Below w.heap.size w ((w.alloc (.cells (cells9 ⟨fm, kd, ln, sz, ps, sg, db, rs, ov⟩ A n k A' n' k') 40)).alloc (.cells #[.int .i64 fm, .int .i64 kd, .int .i64 ln, .int .i64 sz] 3))) := ((Below.refl _ _).alloc (Nat.le_refl _) _).alloc (by simp) _
  have HS2 : Hid (((w.alloc (.cells (cells9 ⟨fm, kd, ln, sz, ps, sg, db, rs, ov⟩ A n k A' n' k') 40)).alloc (.cells #[.int .i64 fm, .int .i64 kd, .int .i64 ln, .int .i64 sz] 3)).heap.size = w.heap.size + 1 + 1) := by show _ = _; simp
  have HO2 := Lib.hid (HO1.out (.cells (cells9 ⟨fm, kd, ln, sz, ps, sg, db, rs, ov⟩ A n k A' n' k') 40))
  clear HO1
  go_enter Tryz.func85, Tryz.ntmps85
  go_upto_region 6 with fail
  generalize (w.alloc (.cells (cells9 ⟨fm, kd, ln, sz, ps, sg, db, rs, ov⟩ A n k A' n' k') 40)).alloc (.cells #[.int .i64 fm, .int .i64 kd, .int .i64 ln, .int .i64 sz] 3) = W2 at *
  obtain ⟨c0, c1, c2, c3, c4, c5, c6, c7, c8⟩ := HROW.out.cells
  go_wp2_with (at_builtin; refine pushN_law rfl (.tmp 33) (.tmp 37) rfl (w.heap.size + 1) W2 (.slice (some ⟨w.heap.size + 1, 0, none⟩) 4 4) [fm, kd, ln, sz] [(n' : Int)] 1 1 _ rfl rfl rfl rfl HO2.out (by simp) (by rw [HS2.out]; omega) ?_)
  intro v3 w3 ho3 hb3
  have HO3 := Lib.hid ho3
  have HROW3 := Lib.hid (HROW.out.below hb3 (by omega))
  have HB3 := Lib.hid (HB1.out.trans (hb3.mono (by omega)))
  have hws := HB3.out.size
  clear c0 c1 c2 c3 c4 c5 c6 c7 c8 hb3 ho3
  obtain ⟨c0, c1, c2, c3, c4, c5, c6, c7, c8⟩ := HROW3.out.cells
  go_upto_region 8 with fail
  have HG4 : Hid ((w3.alloc (.cells zero9 142)).heap[w3.heap.size]? = some (.cells zero9 142 (0, 0))) := by show _ = _; exact heap_alloc_new w3 _
  have HO4 : Hid ((w3.alloc (.cells zero9 142)).ownsRow (w.heap.size + 1) 3 1 v3 ([fm, kd, ln, sz] ++ [(n' : Int)]).length (ints ([fm, kd, ln, sz] ++ [(n' : Int)]))) := HO3.out.alloc _
  have HV4 : Hid (∀ q, v3.ownBlock = some q → q < w3.heap.size) := fun q hq => (HO3.out.lt q hq).2
  have HROW4 : Hid (CdRow (w3.alloc (.cells zero9 142)) w.heap.size ⟨fm, kd, ln, sz, ps, sg, db, rs, ov⟩ A n k A' n' k') := HROW3.out.below ((Below.refl _ _).alloc (Nat.le_refl _) _) HROW3.out.lt
  have HB4 : Hid (Below w.heap.size w (w3.alloc (.cells zero9 142))) := HB3.out.alloc hws _
  have hg3 : w.heap.size < w3.heap.size := HROW3.out.lt
  have hz4 : (w3.alloc (.cells zero9 142)).heap.size = w3.heap.size + 1 := by simp
  have HZ4 := Lib.hid hz4
  clear c0 c1 c2 c3 c4 c5 c6 c7 c8 hz4
  generalize w3.alloc (.cells zero9 142) = w4 at *
  generalize w3.heap.size = g at *
  obtain ⟨c0, c1, c2, c3, c4, c5, c6, c7, c8⟩ := HROW4.out.cells
  go_region_law (refine step_copy3 rfl (.tmp 39) (.tmp 41) rfl _ g 142 n' k' B A' rs rfl rfl HG4.out (SpsAt.keep (HW.out w4 HB4.out) (fun _ _ => rfl)) hn' ?_; intro w5 hg5 hb5)
  have HB5 := Lib.hid (hb5 w.heap.size w (by omega) ⟨HB4.out.os, HB4.out.tape, HB4.out.output, HB4.out.size, HB4.out.block⟩)
  have hbg := hb5 g w4 (Nat.le_refl _) ⟨rfl, rfl, rfl, Nat.le_refl _, fun _ _ => rfl⟩
  have HO5 : Hid (w5.ownsRow (w.heap.size + 1) 3 1 v3 (headR fm kd ln sz rs 0).length (ints (headR fm kd ln sz rs 0))) := by
    show World.ownsRow _ _ _ _ _ _ _
    rw [headR_zero, HL.out]
    exact row_keep HO4.out HV4.out hbg
  have HROW5 : Hid (CdRow w5 w.heap.size ⟨fm, kd, ln, sz, ps, sg, db, rs, ov⟩ A n k A' n' k') := (hbg.block _ hg3).trans HROW4.out
  have HS : Hid (∀ j, headR fm kd ln sz rs (j + 1) = headR fm kd ln sz rs j ++ [(rs.getD j Sp.z).at_, (rs.getD j Sp.z).st, (rs.getD j Sp.z).len]) := fun j => headR_succ fm kd ln sz rs j
  have HSL : Hid (∀ j, (headR fm kd ln sz rs j).length = 5 + 3 * j) := fun j => headR_len fm kd ln sz rs j
  have HS0 := Lib.hid (HS.out 0)
  have HS1 := Lib.hid (HS.out 1)
  have HS2' := Lib.hid (HS.out 2)
  unfold nine at hg5
  generalize rs.getD 0 Sp.z = s0 at *
  generalize rs.getD 1 Sp.z = s1 at *
  generalize rs.getD 2 Sp.z = s2 at *
  obtain ⟨x0, x1, x2⟩ := s0
  obtain ⟨x3, x4, x5⟩ := s1
  obtain ⟨x6, x7, x8⟩ := s2
  have k0 : w5.cell? ⟨g, 0, none⟩ = some (.int .i64 x0) := by rw [cell_of_row w5 g 0 _ 142 _ hg5]; rfl
  have k1 : w5.cell? ⟨g, 1, none⟩ = some (.int .i64 x1) := by rw [cell_of_row w5 g 1 _ 142 _ hg5]; rfl
  have k2 : w5.cell? ⟨g, 2, none⟩ = some (.int .i64 x2) := by rw [cell_of_row w5 g 2 _ 142 _ hg5]; rfl
  have k3 : w5.cell? ⟨g, 3, none⟩ = some (.int .i64 x3) := by rw [cell_of_row w5 g 3 _ 142 _ hg5]; rfl
  have k4 : w5.cell? ⟨g, 4, none⟩ = some (.int .i64 x4) := by rw [cell_of_row w5 g 4 _ 142 _ hg5]; rfl
  have k5 : w5.cell? ⟨g, 5, none⟩ = some (.int .i64 x5) := by rw [cell_of_row w5 g 5 _ 142 _ hg5]; rfl
  have k6 : w5.cell? ⟨g, 6, none⟩ = some (.int .i64 x6) := by rw [cell_of_row w5 g 6 _ 142 _ hg5]; rfl
  have k7 : w5.cell? ⟨g, 7, none⟩ = some (.int .i64 x7) := by rw [cell_of_row w5 g 7 _ 142 _ hg5]; rfl
  have k8 : w5.cell? ⟨g, 8, none⟩ = some (.int .i64 x8) := by rw [cell_of_row w5 g 8 _ 142 _ hg5]; rfl
  clear hg5 hb5 hbg c0 c1 c2 c3 c4 c5 c6 c7 c8 HS
  go_wp2
  have ix0 : ∀ w : World, (Instr.index 142 (.agg #[.int .i64 x0, .int .i64 x1, .int .i64 x2, .int .i64 x3, .int .i64 x4, .int .i64 x5, .int .i64 x6, .int .i64 x7, .int .i64 x8]) (.int .i64 0)).run Tryz.prog w = .ok (.agg #[.int .i64 x0, .int .i64 x1, .int .i64 x2]) w := fun w => by kernel_rfl
  have ix1 : ∀ w : World, (Instr.index 142 (.agg #[.int .i64 x0, .int .i64 x1, .int .i64 x2, .int .i64 x3, .int .i64 x4, .int .i64 x5, .int .i64 x6, .int .i64 x7, .int .i64 x8]) (.int .i64 1)).run Tryz.prog w = .ok (.agg #[.int .i64 x3, .int .i64 x4, .int .i64 x5]) w := fun w => by kernel_rfl
  have ix2 : ∀ w : World, (Instr.index 142 (.agg #[.int .i64 x0, .int .i64 x1, .int .i64 x2, .int .i64 x3, .int .i64 x4, .int .i64 x5, .int .i64 x6, .int .i64 x7, .int .i64 x8]) (.int .i64 2)).run Tryz.prog w = .ok (.agg #[.int .i64 x6, .int .i64 x7, .int .i64 x8]) w := fun w => by kernel_rfl
  clear k0 k1 k2 k3 k4 k5 k6 k7 k8
  go_loopw [4, 44] (fun v i wr => ∃ j : Nat, j ≤ 3 ∧ i = .int .i64 (j : Int) ∧ wr.ownsRow (w.heap.size + 1) 3 1 v (headR fm kd ln sz rs j).length (ints (headR fm kd ln sz rs j)) ∧ Below w.heap.size w wr ∧ CdRow wr w.heap.size ⟨fm, kd, ln, sz, ps, sg, db, rs, ov⟩ A n k A' n' k') (fun _ i _ => 3 - (intOf i).toNat)
  case atStart => exact ⟨0, by omega, rfl, HO5.out, HB5.out, HROW5.out⟩
  case round =>
    clear HO5 HB5 HROW5 HO4 HROW4 HB4 HZ4 HG4
    obtain ⟨j, hj, rfl, ho, hb, hrow⟩ := hrel
    have hgl := hrow.lt
    have HO := Lib.hid ho
    have HB := Lib.hid hb
    have HROW := Lib.hid hrow
    clear ho hb hrow
    by_cases hlt : j < 3
    · have hj3 : j = 0 ∨ j = 1 ∨ j = 2 := by omega
      rcases hj3 with rfl | rfl | rfl
      · go_upto_region 12 with fail
        have n1 := cell_new wr #[.int .i64 x0, .int .i64 x1, .int .i64 x2] 121 0 rfl
        have n2 := cell_new wr #[.int .i64 x0, .int .i64 x1, .int .i64 x2] 121 1 rfl
        have n3 := cell_new wr #[.int .i64 x0, .int .i64 x1, .int .i64 x2] 121 2 rfl
        have HO6 := Lib.hid (HO.out.alloc (.cells #[.int .i64 x0, .int .i64 x1, .int .i64 x2] 121))
        have HROW6 := Lib.hid (HROW.out.below ((Below.refl wr.heap.size wr).alloc (Nat.le_refl _) (.cells #[.int .i64 x0, .int .i64 x1, .int .i64 x2] 121)) hgl)
        have HB6 := Lib.hid (HB.out.alloc (by omega) (.cells #[.int .i64 x0, .int .i64 x1, .int .i64 x2] 121))
        have hsz := HROW6.out.lt
        generalize wr.alloc (.cells #[.int .i64 x0, .int .i64 x1, .int .i64 x2] 121) = W6 at *
        go_wp2_with (at_builtin; refine pushN_law rfl (.tmp 47) (.tmp 54) rfl (w.heap.size + 1) W6 u4 (headR fm kd ln sz rs 0) [x0, x1, x2] 3 3 _ rfl rfl rfl rfl HO6.out (by rw [HSL.out]; simp) (by omega) ?_)
        intro v' w6 ho6 hb6
        have HO7 := Lib.hid ho6
        have HB7 := Lib.hid (HB6.out.trans (hb6.mono (by omega)))
        have HROW7 := Lib.hid (HROW6.out.below hb6 (by omega))
        clear ho6 hb6 n1 n2 n3
        go_wp2
        go_roundw
        case rel => exact ⟨1, by omega, rfl, by rw [HS0.out]; exact HO7.out, HB7.out, HROW7.out⟩
        case measure => simp [intOf]
      · go_upto_region 12 with fail
        have n1 := cell_new wr #[.int .i64 x3, .int .i64 x4, .int .i64 x5] 121 0 rfl
        have n2 := cell_new wr #[.int .i64 x3, .int .i64 x4, .int .i64 x5] 121 1 rfl
        have n3 := cell_new wr #[.int .i64 x3, .int .i64 x4, .int .i64 x5] 121 2 rfl
        have HO6 := Lib.hid (HO.out.alloc (.cells #[.int .i64 x3, .int .i64 x4, .int .i64 x5] 121))
        have HROW6 := Lib.hid (HROW.out.below ((Below.refl wr.heap.size wr).alloc (Nat.le_refl _) (.cells #[.int .i64 x3, .int .i64 x4, .int .i64 x5] 121)) hgl)
        have HB6 := Lib.hid (HB.out.alloc (by omega) (.cells #[.int .i64 x3, .int .i64 x4, .int .i64 x5] 121))
        have hsz := HROW6.out.lt
        generalize wr.alloc (.cells #[.int .i64 x3, .int .i64 x4, .int .i64 x5] 121) = W6 at *
        go_wp2_with (at_builtin; refine pushN_law rfl (.tmp 47) (.tmp 54) rfl (w.heap.size + 1) W6 u4 (headR fm kd ln sz rs 1) [x3, x4, x5] 3 3 _ rfl rfl rfl rfl HO6.out (by rw [HSL.out]; simp) (by omega) ?_)
        intro v' w6 ho6 hb6
        have HO7 := Lib.hid ho6
        have HB7 := Lib.hid (HB6.out.trans (hb6.mono (by omega)))
        have HROW7 := Lib.hid (HROW6.out.below hb6 (by omega))
        clear ho6 hb6 n1 n2 n3
        go_wp2
        go_roundw
        case rel => exact ⟨2, by omega, rfl, by rw [HS1.out]; exact HO7.out, HB7.out, HROW7.out⟩
        case measure => simp [intOf]
      · go_upto_region 12 with fail
        have n1 := cell_new wr #[.int .i64 x6, .int .i64 x7, .int .i64 x8] 121 0 rfl
        have n2 := cell_new wr #[.int .i64 x6, .int .i64 x7, .int .i64 x8] 121 1 rfl
        have n3 := cell_new wr #[.int .i64 x6, .int .i64 x7, .int .i64 x8] 121 2 rfl
        have HO6 := Lib.hid (HO.out.alloc (.cells #[.int .i64 x6, .int .i64 x7, .int .i64 x8] 121))
        have HROW6 := Lib.hid (HROW.out.below ((Below.refl wr.heap.size wr).alloc (Nat.le_refl _) (.cells #[.int .i64 x6, .int .i64 x7, .int .i64 x8] 121)) hgl)
        have HB6 := Lib.hid (HB.out.alloc (by omega) (.cells #[.int .i64 x6, .int .i64 x7, .int .i64 x8] 121))
        have hsz := HROW6.out.lt
        generalize wr.alloc (.cells #[.int .i64 x6, .int .i64 x7, .int .i64 x8] 121) = W6 at *
        go_wp2_with (at_builtin; refine pushN_law rfl (.tmp 47) (.tmp 54) rfl (w.heap.size + 1) W6 u4 (headR fm kd ln sz rs 2) [x6, x7, x8] 3 3 _ rfl rfl rfl rfl HO6.out (by rw [HSL.out]; simp) (by omega) ?_)
        intro v' w6 ho6 hb6
        have HO7 := Lib.hid ho6
        have HB7 := Lib.hid (HB6.out.trans (hb6.mono (by omega)))
        have HROW7 := Lib.hid (HROW6.out.below hb6 (by omega))
        clear ho6 hb6 n1 n2 n3
        go_wp2
        go_roundw
        case rel => exact ⟨3, by omega, rfl, by rw [HS2'.out]; exact HO7.out, HB7.out, HROW7.out⟩
        case measure => simp [intOf]
    · obtain rfl : j = 3 := by omega
      obtain ⟨c0, c1, c2, c3, c4, c5, c6, c7, c8⟩ := HROW.out.cells
      have hsz := HB.out.size
      go_wp2_with (at_builtin; refine pushN_law rfl (.tmp 57) (.tmp 60) rfl (w.heap.size + 1) wr u4 (headR fm kd ln sz rs 3) [ov] 1 1 _ rfl rfl rfl rfl HO.out (by rw [HSL.out]; simp) (by omega) ?_)
      intro v' w6 ho6 hb6
      have HO7 := Lib.hid ho6
      have HB7 := Lib.hid (HB.out.trans (hb6.mono (by omega)))
      clear ho6 hb6
      go_wp2
      go_ret
      exact ⟨_, rfl, own_base HO7.out (by omega), HB7.out⟩

set_option maxRecDepth 100000 in
set_option maxHeartbeats 1000000 in
theorem values0_any (A : Option Addr) (n k : Nat) (A' : Option Addr) (n' k' : Nat) (w : World) :
    Calls Tryz.prog 85 #[cdv zeroC A n k A' n' k'] w (RetO w []) := by
  unfold zeroC
  have HB : Hid (∀ o o' : Obj, Below w.heap.size w ((w.alloc o).alloc o')) := fun o o' => ((Below.refl _ _).alloc (Nat.le_refl _) _).alloc (by simp) _
  go_enter Tryz.func85, Tryz.ntmps85
  go_wp2
  go_ret
  exact ⟨_, rfl, World.ownsRow_nil _ _ _ _, HB.out _ _⟩

set_option maxRecDepth 100000 in
theorem values_any (v : Value) (c : Cd) (B : Nat) (w : World) (hr : rightC c = true) (hc : CdAt w B v c) (hB : B ≤ w.heap.size) : Calls Tryz.prog 85 #[v] w (RetO w (valuesC c)) := by
  obtain ⟨A, n, k, A', n', k', rfl, i1, s1, bn, bn', f1⟩ := hc
  rcases rightC_iff.1 hr with rfl | ⟨_, h | h⟩
  · exact values0_any A n k A' n' k' w
  · obtain ⟨fm, kd, ln, sz, ps, sg, db, rs, ov⟩ := c
    have h' := oneB_iff.1 h
    simp only at h'
    obtain rfl : n = 4 := by have := i1.len; simp only at this; omega
    exact values1_any fm kd ln sz sg db ov ps rs A k A' n' k' B w h'.1 f1 i1 hB
  · obtain ⟨fm, kd, ln, sz, ps, sg, db, rs, ov⟩ := c
    have h' := twoB_iff.1 h
    simp only at h'
    exact values2_any fm kd ln sz sg db ov ps rs A n k A' n' k' B w h'.1 s1 (by have := s1.len; simp only at this; omega) hB
end Go.Proofs.YtapjbffhihhnbaaGreat

namespace Go.Proofs.YtapjbffhihhnbaaGreat
open Go.RowKit

set_option maxRecDepth 100000 in
theorem fitTo_all {ws vs : List Int} : ∀ n, fitTo ws vs n = true → ∀ k, k < n → 0 ≤ vs.getD k 0 ∧ vs.getD k 0 ≤ 4294967295 := fun n h k hk => by
  have := fitTo_at ws vs hk h
  unfold fitB at this
  have this := of_decide_eq_true this
  unfold mostOf at this
  split at this
  · omega
  · split at this <;> omega
set_option maxRecDepth 100000 in
theorem Below.dr {B : Nat} {a b : World} (h : Below B a b) : Below B a b.drew := ⟨h.os, h.tape, h.output, h.size, h.block⟩
set_option maxRecDepth 100000 in
theorem Below.und {B : Nat} {a b : World} (h : Below B a.drew b) : Below B a b := ⟨h.os, h.tape, h.output, h.size, h.block⟩
set_option maxRecDepth 100000 in
theorem CdRow.dr {W : World} {g : Nat} {c : Cd} {A : Option Addr} {n k : Nat} {A' : Option Addr} {n' k' : Nat} (h : CdRow W g c A n k A' n' k') : CdRow W.drew g c A n k A' n' k' := h
set_option maxRecDepth 100000 in
theorem IntsAt.dr {w : World} {B n : Nat} {A : Option Addr} {l : List Int} (h : IntsAt w B A n l) : IntsAt w.drew B A n l := h.keep fun _ _ => rfl
set_option maxRecDepth 100000 in
theorem vals_fit {c : Cd} (h : rightC c = true) : ∀ z ∈ valuesC c, Fit z := by
  obtain ⟨h1, h2, h3⟩ := fits_right h
  intro z hz
  obtain ⟨k, hk, rfl⟩ := List.getElem_of_mem hz
  have := fitTo_all _ h3 k (by omega)
  simp only [List.getD, List.getElem?_eq_getElem hk, Option.getD_some] at this
  unfold Fit; omega

set_option maxRecDepth 100000 in
theorem writeC_ok {c : Cd} (h : rightC c = true) : writeC c = (padS (bytesC c) 32, 0) := by unfold writeC; rw [if_pos h]
set_option maxRecDepth 100000 in
theorem writeC_no {c : Cd} (h : rightC c = false) : writeC c = (⟨#[]⟩, 1) := by unfold writeC; rw [if_neg (by rw [h]; decide)]
set_option maxRecDepth 100000 in
theorem box_row {v : World} {g : Nat} {c : Cd} {A : Option Addr} {n k : Nat} {A' : Option Addr} {n' k' : Nat} (h : CdRow v g c A n k A' n' k') : v.cell? ⟨g, 0, none⟩ = some (.int .i64 c.fm) ∧ v.cell? ⟨g, 1, none⟩ = some (.int .i64 c.kd) ∧ v.cell? ⟨g, 2, none⟩ = some (.int .i64 c.ln) ∧ v.cell? ⟨g, 3, none⟩ = some (.int .i64 c.sz) ∧ v.cell? ⟨g, 4, none⟩ = some (.slice A n k) ∧ v.cell? ⟨g, 5, none⟩ = some (.int .i64 c.sg) ∧ v.cell? ⟨g, 6, none⟩ = some (.int .i64 c.db) ∧ v.cell? ⟨g, 7, none⟩ = some (.slice A' n' k') ∧ v.cell? ⟨g, 8, none⟩ = some (.int .i64 c.ov) := h.cells

set_option maxRecDepth 100000 in
set_option maxHeartbeats 2000000 in
theorem write9_any (v : Value) (c : Cd) (B : Nat) (w : World) (hc : CdAt w B v c) (hB : B ≤ w.heap.size) :
    Calls Tryz.prog 55 #[v] w fun e w' => e = .returned (.tuple #[.string (writeC c).1, .int .i64 (writeC c).2]) ∧ Below w.heap.size w w' := by
  have HCD : Hid (∀ v', Below w.heap.size w v' → CdAt v' B v c) := fun v' hv => hc.below hv hB
  have HR : Hid (∀ v', Below w.heap.size w v' → Calls Tryz.prog 82 #[v] v' fun e w' => e = .returned (.bool (rightC c)) ∧ Below v'.heap.size v' w') :=
    fun v' hv => rightc_any v c B _ v' rfl (HCD.out v' hv) (Nat.le_trans hB hv.size)
  have HV : Hid (rightC c = true → ∀ v', Below w.heap.size w v' → Calls Tryz.prog 85 #[v] v' fun e w' => RetI v' (valuesC c) e w') :=
    fun hr v' hv => (values_any v c B v' hr (HCD.out v' hv) (Nat.le_trans hB hv.size)).mono fun e w' h => h.ints (vals_fit hr)
  obtain ⟨A, n, k, A', n', k', rfl, i1, s1, bn, bn', f1⟩ := hc
  have HO : Hid (∀ o : Obj, Below w.heap.size w (w.alloc o)) := fun o => (Below.refl _ _).alloc (Nat.le_refl _) _
  have HO' : Hid (∀ (o : Obj) (v : World), Below (w.alloc o).heap.size (w.alloc o) v → Below w.heap.size w v) := fun o v hv => (HO.out o).trans (hv.mono (by simp))
  have HROW : Hid (∀ v', Below (w.alloc (.cells (cells9 c A n k A' n' k') 40)).heap.size (w.alloc (.cells (cells9 c A n k A' n' k') 40)) v' → CdRow v' w.heap.size c A n k A' n' k') := fun v' hv => (CdRow.new w c A n k A' n' k').below hv (by simp)
  clear i1 s1 f1 bn bn' HCD
  cases hr : rightC c with
  | false =>
    have HW := Lib.hid (writeC_no hr)
    rw [hr] at HR
    generalize writeC c = wc at *
    go_enter Tryz.func55, Tryz.ntmps55
    go_wp2_with fail
    refine (HR.out _ (HO.out _)).mono ?_
    rintro e w2 ⟨rfl, b2⟩
    have HB2 := Lib.hid (HO'.out _ _ b2)
    clear b2
    go_wp2
    go_ret2
    rw [HW.out]
    exact ⟨rfl, HB2.out⟩
  | true =>
    have HW := Lib.hid (writeC_ok hr)
    have HWR : Hid (writeR (widthsC c.fm) (valuesC c) = ((writeR (widthsC c.fm) (valuesC c)).1, 0)) := by show _ = _; rw [bytesC_ok hr]
    have HPAD : Hid (padR (bytesC c) 32 = (padS (bytesC c) 32, 0)) := padR_ok (by omega) (by have := bytesC_len hr; omega)
    have hbl := bytesC_len hr
    have HVV := Lib.hid (HV.out hr)
    have HLEN : Hid ((widthsC c.fm).length ≤ 15 ∧ (valuesC c).length ≤ 15) := by
      have h1 := (fits_right hr).1
      have : (widthsC c.fm).length ≤ 15 := by unfold widthsC; split; (· simp); split <;> simp
      exact ⟨this, by omega⟩
    have HBC : Hid (strOfNums (writeR (widthsC c.fm) (valuesC c)).1 = bytesC c) := by show _ = _; rfl
    have HWID : Hid (∀ v : World, Calls Tryz.prog 84 #[.int .i64 c.fm] v fun e w' => RetI v (widthsC c.fm) e w') := fun v => widths_any c.fm v
    rw [hr] at HR
    generalize writeC c = wc at *
    generalize valuesC c = vs at *
    generalize widthsC c.fm = ws at *
    go_enter Tryz.func55, Tryz.ntmps55
    go_wp2_with fail
    refine (HR.out _ (HO.out _)).mono ?_
    rintro e w2 ⟨rfl, b2⟩
    have HB2 := Lib.hid (HO'.out _ _ b2)
    have HROW2 := Lib.hid (HROW.out _ b2)
    clear b2 HR HV HROW
    go_upto_region 3 with fail
    have HB2d := Lib.hid (Below.dr HB2.out)
    have S2 := Lib.hid (box_row HROW2.out)
    have hg2 := HROW2.out.lt
    have hws2 := HB2.out.size
    have hwl := HLEN.out
    go_region_held3 (fun v' => v'.cell? ⟨w.heap.size, 0, none⟩ = some (.int .i64 c.fm) ∧ v'.cell? ⟨w.heap.size, 1, none⟩ = some (.int .i64 c.kd) ∧ v'.cell? ⟨w.heap.size, 2, none⟩ = some (.int .i64 c.ln) ∧ v'.cell? ⟨w.heap.size, 3, none⟩ = some (.int .i64 c.sz) ∧ v'.cell? ⟨w.heap.size, 4, none⟩ = some (.slice A n k) ∧ v'.cell? ⟨w.heap.size, 5, none⟩ = some (.int .i64 c.sg) ∧ v'.cell? ⟨w.heap.size, 6, none⟩ = some (.int .i64 c.db) ∧ v'.cell? ⟨w.heap.size, 7, none⟩ = some (.slice A' n' k') ∧ v'.cell? ⟨w.heap.size, 8, none⟩ = some (.int .i64 c.ov))
      (first | exact S2.out | exact S3.out | exact S4.out | exact S5.out)
      (first
        | (go_at_call 83; go_must (go_fit (write_any A3 A4 ws.length c3 vs.length c4 _ ws vs _ i3'.out i4'.out (Nat.le_refl _) (by omega) (by omega)))
           rintro e w5 ⟨rfl, b5⟩
           have HB5 := Lib.hid (HB4.out.trans (b5.mono HB4.out.size))
           have S5 := Lib.hid (box_row (HROW4.out.below b5 hg4))
           clear b5)
        | (go_at_call 85; go_must (go_fit (HVV.out _ HB3.out))
           rintro e w4 ⟨A4, c4, rfl, i4, b4⟩
           have HB4 := Lib.hid (HB3.out.trans (b4.mono HB3.out.size))
           have HROW4 := Lib.hid (HROW3.out.below b4 hg3)
           have S4 := Lib.hid (box_row HROW4.out)
           have i3' := Lib.hid ((i3.below b4 (Nat.le_refl _)).more b4.size)
           have i4' := Lib.hid i4
           have hg4 := HROW4.out.lt
           clear b4 i4)
        | (go_at_call 84; go_must (go_fit (HWID.out _))
           rintro e w3 ⟨A3, c3, rfl, i3, b3⟩
           have HB3 := Lib.hid (HB2.out.trans (Below.und (b3.mono hws2)))
           have HROW3 := Lib.hid (CdRow.below (w' := w3) HROW2.out.dr b3 hg2)
           have S3 := Lib.hid (box_row HROW3.out)
           have hg3 := HROW3.out.lt
           clear b3))
    rw [HBC.out]
    have HP := Lib.hid (fun v => pad_any (bytesC c) 32 v (by omega) (by omega))
    rw [HPAD.out] at HP
    clear S2 S3 S4 S5
    generalize bytesC c = bc at *
    go_wp2_with fail
    refine (HP.out _).mono ?_
    rintro e w6 ⟨rfl, b6⟩
    have HB6 := Lib.hid (HB5.out.trans (b6.mono HB5.out.size))
    clear b6
    go_wp2
    go_ret2
    rw [HW.out]
    exact ⟨rfl, HB6.out⟩
end Go.Proofs.YtapjbffhihhnbaaGreat

namespace Go.Proofs.YtapjbffhihhnbaaGreat
open Go.RowKit

/-- an answer that is a card. -/
def Fresh (N : Nat) (A : Option Addr) : Prop := ∀ b o, A = some ⟨b, o, none⟩ → N ≤ b
set_option maxRecDepth 100000 in
theorem Fresh.none (N : Nat) : Fresh N none := fun _ _ h => by cases h
set_option maxRecDepth 100000 in
theorem own_fresh {w : World} {base N n c sz : Nat} {e : TypeId} {A : Option Addr} {xs : List Value} (h : w.ownsRow base e sz (.slice A n c) n xs) (hN : N ≤ base) : Fresh N A := by
  intro b o hA
  subst hA
  rcases h.2 with ⟨h1, _⟩ | ⟨g, cap, cur, h1, h2, _⟩
  · injection h1 with h1; cases h1
  · injection h1 with h1; injection h1 with h1; injection h1 with h1; omega
/-- The value v reads as the card c, whose lists lie in blocks from number N on. -/
def CdNew (w : World) (N : Nat) (v : Value) (c : Cd) : Prop :=
  ∃ A n k A' n' k', Fresh N A ∧ Fresh N A' ∧ v = cdv c A n k A' n' k' ∧ IntsAt w w.heap.size A n c.ps ∧ SpsAt w w.heap.size A' n' c.rs ∧ n ≤ 9223372036854775807 ∧ n' ≤ 9223372036854775807 ∧ c.fit
set_option maxRecDepth 100000 in
theorem CdNew.at_ {w : World} {N : Nat} {v : Value} {c : Cd} (h : CdNew w N v c) : CdAt w w.heap.size v c := by
  obtain ⟨A, n, k, A', n', k', _, _, h⟩ := h
  exact ⟨A, n, k, A', n', k', h⟩
set_option maxRecDepth 100000 in
theorem cdn_zero (w : World) (N : Nat) : CdNew w N (cdv zeroC none 0 0 none 0 0) zeroC :=
  ⟨none, 0, 0, none, 0, 0, Fresh.none _, Fresh.none _, rfl, ⟨rfl, by simp [zeroC], fun k hk => absurd hk (by omega)⟩, ⟨rfl, by simp [zeroC], fun k hk => absurd hk (by omega)⟩, by omega, by omega, by simp [Cd.fit, zeroC, Fit]⟩
def RetCd (w : World) (c : Cd) (e : Ending) (w' : World) : Prop := ∃ v, e = .returned v ∧ CdNew w' w.heap.size v c ∧ Below w.heap.size w w'
set_option maxRecDepth 100000 in
theorem row_set {w : World} {g j : Nat} {cs cs' : Array Value} {t : TypeId} {v : Value} (h : w.heap[g]? = some (.cells cs t (0, 0))) (e : cs.setIfInBounds j v = cs') : (w.setCell ⟨g, j, none⟩ v).heap[g]? = some (.cells cs' t (0, 0)) := by
  rw [setCell_eq_setRow w g j cs t (0, 0) v h, e]
  exact setRow_heap w g cs cs' t (0, 0) h
set_option maxRecDepth 100000 in
theorem own_set {w : World} {base n sz : Nat} {e : TypeId} {v : Value} {xs : List Value} (h : w.ownsRow base e sz v n xs) (q j : Nat) (u : Value) (hq : q < base) : (w.setCell ⟨q, j, none⟩ u).ownsRow base e sz v n xs := by
  rcases h.2 with ⟨rfl, h0⟩ | ⟨g, cap, cur, rfl, h1, h2, h3⟩
  · exact ⟨h.1, Or.inl ⟨rfl, h0⟩⟩
  · refine ⟨h.1, Or.inr ⟨g, cap, cur, rfl, h1, ?_, h3⟩⟩
    rw [← h2]
    show (w.heap.modify q _)[g]? = _
    rw [Array.getElem?_modify, if_neg (by omega)]
set_option maxRecDepth 100000 in
theorem cd_fit (bs : List Int) (hb : ∀ i, 0 ≤ bs.getD i 0 ∧ bs.getD i 0 ≤ 255) (a n : Nat) (hn : n ≤ 4) : Fit (decF bs a n) := by
  have h1 := decF_bd bs hb n a
  have h2 := pow_le4 n hn
  unfold Fit; omega

set_option maxRecDepth 100000 in
set_option maxHeartbeats 2000000 in
theorem card1_any (s : ByteArray) (w : World) (hs : s.size = 32) (h1 : decF (bytesOf s) 0 1 = 1) : Calls Tryz.prog 81 #[.string s] w (RetCd w (cardD (bytesOf s))) := by
  have hlen : (bytesOf s).length = 32 := by rw [bytesOf_len, hs]
  have HRD := Lib.hid (readR1 hlen)
  have hpos : 0 < s.size := by omega
  have HC : Hid (cardD (bytesOf s) = ⟨1, decF (bytesOf s) 1 1, decF (bytesOf s) 2 2, decF (bytesOf s) 4 4, [decF (bytesOf s) 8 2, decF (bytesOf s) 10 2, decF (bytesOf s) 12 2, decF (bytesOf s) 14 2], decF (bytesOf s) 16 2, decF (bytesOf s) 18 2, [], 0⟩) := by
    show _ = _; unfold cardD; rw [if_pos h1]
  have hx : ((s[0].toNat : Nat) : Int) = 1 := (dec0 s hpos).symm.trans h1
  have HF : Hid (∀ a n, n ≤ 4 → Fit (decF (bytesOf s) a n)) := fun a n hn => cd_fit _ (bytesOf_bd s) a n hn
  have HRA := Lib.hid (fun (A : Option Addr) (n c B : Nat) (v : World) (hr : IntsAt v B A n (widthsC 1)) (hB : B ≤ v.heap.size) (hn : n ≤ 20000000000000) => read_any A n c B (widthsC 1) s v hr hB hn (by omega))
  rw [HRD.out] at HRA
  have HX := Lib.hid hx
  clear hlen hs h1 HRD hx
  generalize bytesOf s = bs at *
  have HWID : Hid (∀ v : World, Calls Tryz.prog 84 #[.int .i64 1] v fun e w' => RetI v (widthsC 1) e w') := fun v => widths_any 1 v
  go_enter Tryz.func81, Tryz.ntmps81
  go_wp2_with fail
  rw [HX.out, show wrap64 1 = 1 by decide +kernel]
  refine (HWID.out _).mono ?_
  rintro e w1 ⟨A1, c1, rfl, i1, b1⟩
  have HR0 : Hid (CdRow w1 w.heap.size zeroC none 0 0 none 0 0) := (CdRow.new w zeroC none 0 0 none 0 0).below b1 (by simp)
  have HB1 : Hid (Below w.heap.size w w1) := ((Below.refl _ _).alloc (Nat.le_refl _) _).trans (b1.mono (by simp))
  have I1 := Lib.hid i1
  clear b1 i1
  go_wp2_with fail
  refine (HRA.out _ _ _ _ _ I1.out (Nat.le_refl _) (by decide)).mono ?_
  rintro e w2 ⟨A2, n2, c2, rfl, hc2, i2, b2⟩
  have hn2 : 10 = n2 := i2.len
  subst hn2
  obtain ⟨b, o, rfl, hbw, -⟩ := i2.at_ (k := 0) (by omega)
  have HCELL : Hid (∀ k, k < 10 → w2.cell? ⟨b, o + k, none⟩ = some (.int .i64 ((fields1 bs).getD k 0))) := fun k hk => by
    obtain ⟨b', o', e, _, h⟩ := i2.at_ hk
    cases e; exact h
  have HR2 := Lib.hid (HR0.out.below b2 HR0.out.lt)
  have HB2 := Lib.hid (HB1.out.trans (b2.mono HB1.out.size))
  have hg2 := HR2.out.lt
  have hw2 := HB2.out.size
  have hcne : ¬ (c2 = 4) := by omega
  clear b2 i2 HR0 HB1 I1 HRA HWID
  have k1 : w2.cell? ⟨b, o + 1, none⟩ = some (.int .i64 (decF bs 1 1)) := HCELL.out 1 (by omega)
  have k2 : w2.cell? ⟨b, o + 2, none⟩ = some (.int .i64 (decF bs 2 2)) := HCELL.out 2 (by omega)
  have k3 : w2.cell? ⟨b, o + 3, none⟩ = some (.int .i64 (decF bs 4 4)) := HCELL.out 3 (by omega)
  go_wp2
  go_region
  have HG3 : Hid (CdRow (w2.alloc (.cells #[.int .i64 1, .int .i64 (decF bs 1 1), .int .i64 (decF bs 2 2), .int .i64 (decF bs 4 4), .slice none 0 0, .int .i64 0, .int .i64 0, .slice none 0 0, .int .i64 0] 40)).drew w2.heap.size ⟨1, decF bs 1 1, decF bs 2 2, decF bs 4 4, [], 0, 0, [], 0⟩ none 0 0 none 0 0) := CdRow.dr (CdRow.new w2 ⟨1, decF bs 1 1, decF bs 2 2, decF bs 4 4, [], 0, 0, [], 0⟩ none 0 0 none 0 0)
  have b3 : Below w2.heap.size w2 (w2.alloc (.cells #[.int .i64 1, .int .i64 (decF bs 1 1), .int .i64 (decF bs 2 2), .int .i64 (decF bs 4 4), .slice none 0 0, .int .i64 0, .int .i64 0, .slice none 0 0, .int .i64 0] 40)).drew := Below.dr ((Below.refl _ _).alloc (Nat.le_refl _) _)
  have HR3 := Lib.hid (HR2.out.below b3 hg2)
  have HB3 := Lib.hid (HB2.out.trans (b3.mono hw2))
  have HK : Hid (∀ k, k < 10 → (w2.alloc (.cells #[.int .i64 1, .int .i64 (decF bs 1 1), .int .i64 (decF bs 2 2), .int .i64 (decF bs 4 4), .slice none 0 0, .int .i64 0, .int .i64 0, .slice none 0 0, .int .i64 0] 40)).drew.cell? ⟨b, o + k, none⟩ = some (.int .i64 ((fields1 bs).getD k 0))) := fun k hk => (b3.cell (p := ⟨b, o + k, none⟩) hbw).trans (HCELL.out k hk)
  have hz3 : (w2.alloc (.cells #[.int .i64 1, .int .i64 (decF bs 1 1), .int .i64 (decF bs 2 2), .int .i64 (decF bs 4 4), .slice none 0 0, .int .i64 0, .int .i64 0, .slice none 0 0, .int .i64 0] 40)).drew.heap.size = w2.heap.size + 1 := by show (w2.heap.push _).size = _; simp
  have HZ3 := Lib.hid hz3
  clear hz3 b3 k1 k2 k3 HCELL HR2 HB2
  generalize (w2.alloc (.cells #[.int .i64 1, .int .i64 (decF bs 1 1), .int .i64 (decF bs 2 2), .int .i64 (decF bs 4 4), .slice none 0 0, .int .i64 0, .int .i64 0, .slice none 0 0, .int .i64 0] 40)).drew = w3 at *
  generalize w2.heap.size = g at *
  have HI3 : Hid (IntsAt w3 w3.heap.size (some ⟨b, o + 4, none⟩) 4 [decF bs 8 2, decF bs 10 2, decF bs 12 2, decF bs 14 2]) := by
    refine ⟨rfl, fun z hz => ?_, fun k hk => ⟨b, o + 4, rfl, by rw [HZ3.out]; omega, ?_⟩⟩
    · simp only [List.mem_cons, List.mem_nil_iff, or_false] at hz
      rcases hz with rfl | rfl | rfl | rfl <;> exact HF.out _ _ (by omega)
    · have h := HK.out (4 + k) (by omega)
      rw [← Nat.add_assoc] at h
      rw [h]
      have : k = 0 ∨ k = 1 ∨ k = 2 ∨ k = 3 := by omega
      rcases this with rfl | rfl | rfl | rfl <;> rfl
  have HCL := Lib.hid (cloneI_any b (o + 4) 4 (c2 - 4) w3.heap.size [decF bs 8 2, decF bs 10 2, decF bs 12 2, decF bs 14 2] w3 HI3.out (Nat.le_refl _) (by omega))
  go_wp2_with fail
  refine HCL.out.mono ?_
  intro e w4 hr
  obtain ⟨v4, rfl, o4, b4⟩ := hr
  obtain ⟨A4, c4, rfl, -⟩ := own_slice o4
  have HO4 : Hid (w4.ownsRow (g + 1) 3 1 (.slice A4 4 c4) 4 (ints [decF bs 8 2, decF bs 10 2, decF bs 12 2, decF bs 14 2])) := by
    show World.ownsRow _ _ _ _ _ _ _
    rw [← HZ3.out]; exact o4
  have HFI := Lib.hid HI3.out.2.1
  have hb3 : b < w3.heap.size := by rw [HZ3.out]; omega
  have HG4 := Lib.hid (HG3.out.below b4 HG3.out.lt)
  have HR4 := Lib.hid (HR3.out.below b4 HR3.out.lt)
  have HB4 := Lib.hid (HB3.out.trans (b4.mono HB3.out.size))
  have k8 : w4.cell? ⟨b, o + 8, none⟩ = some (.int .i64 (decF bs 16 2)) := (b4.cell (p := ⟨b, o + 8, none⟩) hb3).trans (HK.out 8 (by omega))
  have k9 : w4.cell? ⟨b, o + 9, none⟩ = some (.int .i64 (decF bs 18 2)) := (b4.cell (p := ⟨b, o + 9, none⟩) hb3).trans (HK.out 9 (by omega))
  have hg4 := HG4.out.lt
  have hb4' : b < w4.heap.size := Nat.lt_of_lt_of_le hb3 b4.size
  clear b4 o4 HG3 HR3 HB3 HK HI3 HCL
  obtain ⟨e0, e1, e2, e3, e4, e5, e6, e7, e8⟩ := HG4.out.cells
  have z0 := HG4.out.fz
  go_upto_region 9 with fail
  have HG5 : Hid (CdRow (w4.setCell ⟨g, 4, none⟩ (.slice A4 4 c4)) g ⟨1, decF bs 1 1, decF bs 2 2, decF bs 4 4, [decF bs 8 2, decF bs 10 2, decF bs 12 2, decF bs 14 2], 0, 0, [], 0⟩ A4 4 c4 none 0 0) := row_set HG4.out rfl
  have hb5 : Below g w4 (w4.setCell ⟨g, 4, none⟩ (.slice A4 4 c4)) := (Below.refl g w4).setCell (p := ⟨g, 4, none⟩) (Nat.le_refl g) _
  have k8' : (w4.setCell ⟨g, 4, none⟩ (.slice A4 4 c4)).cell? ⟨b, o + 8, none⟩ = some (.int .i64 (decF bs 16 2)) := (hb5.cell (p := ⟨b, o + 8, none⟩) hbw).trans k8
  have k9' : (w4.setCell ⟨g, 4, none⟩ (.slice A4 4 c4)).cell? ⟨b, o + 9, none⟩ = some (.int .i64 (decF bs 18 2)) := (hb5.cell (p := ⟨b, o + 9, none⟩) hbw).trans k9
  have HR5 := Lib.hid (HR4.out.below hb5 hg2)
  have HO5 := Lib.hid (own_set HO4.out g 4 (.slice A4 4 c4) (by omega))
  have HB5 : Hid (Below w.heap.size w (w4.setCell ⟨g, 4, none⟩ (.slice A4 4 c4))) := HB4.out.setCell (Nat.le_of_lt hg2) _
  clear e0 e1 e2 e3 e4 e5 e6 e7 e8 z0 hb5 k8 k9
  generalize w4.setCell ⟨g, 4, none⟩ (.slice A4 4 c4) = w5 at *
  obtain ⟨e0, e1, e2, e3, e4, e5, e6, e7, e8⟩ := HG5.out.cells
  have z0 := HG5.out.fz
  go_region
  go_upto_region 10 with fail
  have HG6 : Hid (CdRow ((w5.setCell ⟨g, 5, none⟩ (.int .i64 (decF bs 16 2))).setCell ⟨g, 6, none⟩ (.int .i64 (decF bs 18 2))).drew g ⟨1, decF bs 1 1, decF bs 2 2, decF bs 4 4, [decF bs 8 2, decF bs 10 2, decF bs 12 2, decF bs 14 2], decF bs 16 2, decF bs 18 2, [], 0⟩ A4 4 c4 none 0 0) := CdRow.dr (row_set (row_set HG5.out rfl) rfl)
  have hb6 : Below g w5 ((w5.setCell ⟨g, 5, none⟩ (.int .i64 (decF bs 16 2))).setCell ⟨g, 6, none⟩ (.int .i64 (decF bs 18 2))).drew := Below.dr ((((Below.refl g w5).setCell (p := ⟨g, 5, none⟩) (Nat.le_refl g) _)).setCell (p := ⟨g, 6, none⟩) (Nat.le_refl g) _)
  have HR6 := Lib.hid (HR5.out.below hb6 hg2)
  have HO6 : Hid (((w5.setCell ⟨g, 5, none⟩ (.int .i64 (decF bs 16 2))).setCell ⟨g, 6, none⟩ (.int .i64 (decF bs 18 2))).drew.ownsRow (g + 1) 3 1 (.slice A4 4 c4) 4 (ints [decF bs 8 2, decF bs 10 2, decF bs 12 2, decF bs 14 2])) := own_set (own_set HO5.out g 5 _ (by omega)) g 6 _ (by omega)
  have HB6 : Hid (Below w.heap.size w ((w5.setCell ⟨g, 5, none⟩ (.int .i64 (decF bs 16 2))).setCell ⟨g, 6, none⟩ (.int .i64 (decF bs 18 2))).drew) := Below.dr ((HB5.out.setCell (Nat.le_of_lt hg2) _).setCell (Nat.le_of_lt hg2) _)
  clear e0 e1 e2 e3 e4 e5 e6 e7 e8 z0 hb6 k8' k9'
  generalize ((w5.setCell ⟨g, 5, none⟩ (.int .i64 (decF bs 16 2))).setCell ⟨g, 6, none⟩ (.int .i64 (decF bs 18 2))).drew = w6 at *
  obtain ⟨e0, e1, e2, e3, e4, e5, e6, e7, e8⟩ := HG6.out.cells
  obtain ⟨r0, r1, r2, r3, r4, r5, r6, r7, r8⟩ := HR6.out.cells
  have zr := HR6.out.fz
  go_wp2
  have HR7 : Hid (CdRow (((((((((w6.setCell ⟨w.heap.size, 0, none⟩ (.int .i64 1)).setCell ⟨w.heap.size, 1, none⟩ (.int .i64 (decF bs 1 1))).setCell ⟨w.heap.size, 2, none⟩ (.int .i64 (decF bs 2 2))).setCell ⟨w.heap.size, 3, none⟩ (.int .i64 (decF bs 4 4))).setCell ⟨w.heap.size, 4, none⟩ (.slice A4 4 c4)).setCell ⟨w.heap.size, 5, none⟩ (.int .i64 (decF bs 16 2))).setCell ⟨w.heap.size, 6, none⟩ (.int .i64 (decF bs 18 2))).setCell ⟨w.heap.size, 7, none⟩ (.slice none 0 0)).setCell ⟨w.heap.size, 8, none⟩ (.int .i64 0)) w.heap.size ⟨1, decF bs 1 1, decF bs 2 2, decF bs 4 4, [decF bs 8 2, decF bs 10 2, decF bs 12 2, decF bs 14 2], decF bs 16 2, decF bs 18 2, [], 0⟩ A4 4 c4 none 0 0) := (row_set (row_set (row_set (row_set (row_set (row_set (row_set (row_set (row_set HR6.out rfl) rfl) rfl) rfl) rfl) rfl) rfl) rfl) rfl)
  have HO7 : Hid ((((((((((w6.setCell ⟨w.heap.size, 0, none⟩ (.int .i64 1)).setCell ⟨w.heap.size, 1, none⟩ (.int .i64 (decF bs 1 1))).setCell ⟨w.heap.size, 2, none⟩ (.int .i64 (decF bs 2 2))).setCell ⟨w.heap.size, 3, none⟩ (.int .i64 (decF bs 4 4))).setCell ⟨w.heap.size, 4, none⟩ (.slice A4 4 c4)).setCell ⟨w.heap.size, 5, none⟩ (.int .i64 (decF bs 16 2))).setCell ⟨w.heap.size, 6, none⟩ (.int .i64 (decF bs 18 2))).setCell ⟨w.heap.size, 7, none⟩ (.slice none 0 0)).setCell ⟨w.heap.size, 8, none⟩ (.int .i64 0)).ownsRow (g + 1) 3 1 (.slice A4 4 c4) 4 (ints [decF bs 8 2, decF bs 10 2, decF bs 12 2, decF bs 14 2])) := (own_set (own_set (own_set (own_set (own_set (own_set (own_set (own_set (own_set HO6.out w.heap.size 0 _ (by omega)) w.heap.size 1 _ (by omega)) w.heap.size 2 _ (by omega)) w.heap.size 3 _ (by omega)) w.heap.size 4 _ (by omega)) w.heap.size 5 _ (by omega)) w.heap.size 6 _ (by omega)) w.heap.size 7 _ (by omega)) w.heap.size 8 _ (by omega))
  have HB7 : Hid (Below w.heap.size w (((((((((w6.setCell ⟨w.heap.size, 0, none⟩ (.int .i64 1)).setCell ⟨w.heap.size, 1, none⟩ (.int .i64 (decF bs 1 1))).setCell ⟨w.heap.size, 2, none⟩ (.int .i64 (decF bs 2 2))).setCell ⟨w.heap.size, 3, none⟩ (.int .i64 (decF bs 4 4))).setCell ⟨w.heap.size, 4, none⟩ (.slice A4 4 c4)).setCell ⟨w.heap.size, 5, none⟩ (.int .i64 (decF bs 16 2))).setCell ⟨w.heap.size, 6, none⟩ (.int .i64 (decF bs 18 2))).setCell ⟨w.heap.size, 7, none⟩ (.slice none 0 0)).setCell ⟨w.heap.size, 8, none⟩ (.int .i64 0))) := (((((((((HB6.out.setCell (p := ⟨w.heap.size, 0, none⟩) (Nat.le_refl w.heap.size) _).setCell (p := ⟨w.heap.size, 1, none⟩) (Nat.le_refl w.heap.size) _).setCell (p := ⟨w.heap.size, 2, none⟩) (Nat.le_refl w.heap.size) _).setCell (p := ⟨w.heap.size, 3, none⟩) (Nat.le_refl w.heap.size) _).setCell (p := ⟨w.heap.size, 4, none⟩) (Nat.le_refl w.heap.size) _).setCell (p := ⟨w.heap.size, 5, none⟩) (Nat.le_refl w.heap.size) _).setCell (p := ⟨w.heap.size, 6, none⟩) (Nat.le_refl w.heap.size) _).setCell (p := ⟨w.heap.size, 7, none⟩) (Nat.le_refl w.heap.size) _).setCell (p := ⟨w.heap.size, 8, none⟩) (Nat.le_refl w.heap.size) _)
  clear e0 e1 e2 e3 e4 e5 e6 e7 e8 r0 r1 r2 r3 r4 r5 r6 r7 r8 zr
  generalize (((((((((w6.setCell ⟨w.heap.size, 0, none⟩ (.int .i64 1)).setCell ⟨w.heap.size, 1, none⟩ (.int .i64 (decF bs 1 1))).setCell ⟨w.heap.size, 2, none⟩ (.int .i64 (decF bs 2 2))).setCell ⟨w.heap.size, 3, none⟩ (.int .i64 (decF bs 4 4))).setCell ⟨w.heap.size, 4, none⟩ (.slice A4 4 c4)).setCell ⟨w.heap.size, 5, none⟩ (.int .i64 (decF bs 16 2))).setCell ⟨w.heap.size, 6, none⟩ (.int .i64 (decF bs 18 2))).setCell ⟨w.heap.size, 7, none⟩ (.slice none 0 0)).setCell ⟨w.heap.size, 8, none⟩ (.int .i64 0)) = w7 at *
  obtain ⟨r0, r1, r2, r3, r4, r5, r6, r7, r8⟩ := HR7.out.cells
  refine bodyPost_ret (v := cdv ⟨1, decF bs 1 1, decF bs 2 2, decF bs 4 4, [decF bs 8 2, decF bs 10 2, decF bs 12 2, decF bs 14 2], decF bs 16 2, decF bs 18 2, [], 0⟩ A4 4 c4 none 0 0) (by simp [results, Tryz.results81, go_sem, r0, r1, r2, r3, r4, r5, r6, r7, r8]) rfl ?_
  rw [HC.out]
  exact ⟨_, rfl, ⟨A4, 4, c4, none, 0, 0, own_fresh HO7.out (by omega), Fresh.none _, rfl, IntsAt.of_own HO7.out rfl HFI.out, ⟨rfl, by simp, fun k hk => absurd hk (by omega)⟩, by omega, by omega, (by show Fit 1; decide), HF.out _ _ (by omega), HF.out _ _ (by omega), HF.out _ _ (by omega), HF.out _ _ (by omega), HF.out _ _ (by omega), (by show Fit 0; decide)⟩, HB7.out⟩
end Go.Proofs.YtapjbffhihhnbaaGreat
