/-
  ROWS OF INTS of a call's own: append of a new slice, of a list; slices.Grow from nil, slices.Concat, slices.Clone at []int. Conditions: at most 100000 elements.
-/
import Derived.Test.YtmimfnbcffcdfaaCWords
import Derived.Lib.AppendZeros
import Derived.Lib.Walk
import Derived.Lib.SliceRun
namespace Go.Proofs.Ytmimfnbcffcdfaa
open Go.RowKit

abbrev ints (l : List Int) : List Value := l.map (Value.int .i64)
theorem ints_one (l : List Int) : ∀ u ∈ ints l, u.oneCell' = true := by
  intro u hu
  obtain ⟨x, _, rfl⟩ := List.mem_map.1 hu
  rfl
theorem ints_at (l : List Int) (k : Nat) (h : k < l.length) : (ints l)[k]? = some (.int .i64 (l.getD k 0)) := by
  simp [ints, List.getD, h]
theorem IntsAt.of_own {w : World} {base : Nat} {v : Value} {A : Option Addr} {c : Nat} {l : List Int} (h : w.ownsRow base 3 1 v l.length (ints l)) (hv : v = .slice A l.length c) (hf : ∀ z ∈ l, Fit z) : IntsAt w w.heap.size A l.length l := by
  refine ⟨rfl, hf, fun k hk => ?_⟩
  obtain ⟨g, cap, e, _, hlt⟩ := h.form (by omega)
  subst hv
  have hA : A = some ⟨g, 0, none⟩ := by injection e
  subst hA
  have hcell := h.cells (g := g) rfl _ _ (ints_at l k hk)
  rw [Go.WideShapes.add_plain] at hcell
  exact ⟨g, 0, rfl, hlt, hcell⟩
theorem own_slice {w : World} {base : Nat} {v : Value} {n : Nat} {xs : List Value} (h : w.ownsRow base 3 1 v n xs) : ∃ A c, v = .slice A n c ∧ n ≤ c := by
  rcases h.2 with ⟨rfl, h0⟩ | ⟨g, cap, cur, rfl, _, _, hc, _⟩
  · have : n = 0 := by have := h.1; simp only [Nat.mul_one] at this; omega
    subst this
    exact ⟨none, 0, rfl, Nat.le_refl _⟩
  · exact ⟨_, cap, rfl, by omega⟩

/-- an answer that is a new row of ints. -/
def RetO (w : World) (l : List Int) (e : Ending) (w' : World) : Prop := ∃ v, e = .returned v ∧ w'.ownsRow w.heap.size 3 1 v l.length (ints l) ∧ Below w.heap.size w w'
theorem RetO.ints {w w' : World} {l : List Int} {e : Ending} (h : RetO w l e w') (hf : ∀ z ∈ l, Fit z) : RetI w l e w' := by
  obtain ⟨v, rfl, ho, hb⟩ := h
  obtain ⟨A, c, rfl, _⟩ := own_slice ho
  exact ⟨A, c, rfl, .of_own ho rfl hf, hb⟩


theorem run_append_of_nil {P : Program} (w : World) (base : Nat) (t ty e : TypeId) (i : TypeInfo) (size : Nat) (ht : P.underlying t = some (.slice e)) (hi : P.info? e = some i)
    (v : Value) (n : Nat) (xs : List Value) (hown : w.ownsRow base e size v n xs) (c : Nat) : (Builtin.append_ #[t, t] ty #[v, .slice none 0 c]).run P w = .ok v w := by
  rcases hown.2 with ⟨rfl, rfl⟩ | ⟨g, cap, cur, rfl, _, _, hnc, _⟩
  · simp [Builtin.append_, run_underlying ht, sizeOf, typeInfo, hi, Builtin.lenOf, Builtin.firstCells]
  · simp [Builtin.append_, run_underlying ht, sizeOf, typeInfo, hi, Builtin.lenOf, Builtin.firstCells, hnc, storeCells]
/-- append of a list that lies in any memory. -/
theorem joinI_law {ops : Array Oper} {rest : List Oper} {o : Oper} {a : Act} {Q : Exit → Act → World → Prop} (hgd : o.guard = none) (s x : Operand)
    (ho : o.op = .call { callee := .builtin .append, args := #[s, x], argTypes := #[22, 22] })
    (base : Nat) (W : World) (v : Value) (l : List Int) (hs : a.eval s = v) (B : Nat) (A : Option Addr) (m c : Nat) (l2 : List Int) (hx : a.eval x = .slice A m c)
    (hown : W.ownsRow base 3 1 v l.length (ints l)) (hA : IntsAt W B A m l2) (hl : l.length + m ≤ 100000) (hbase : base ≤ W.heap.size)
    (h : ∀ v' w', w'.ownsRow base 3 1 v' (l ++ l2).length (ints (l ++ l2)) → Below base W w' → wpList Try.prog ops Q rest (a.put o.dst v') w') :
    wpList Try.prog ops Q (o :: rest) a W := by
  obtain ⟨i0, hi, hz0, hz1, hz2⟩ := info_parts Try.info3
  cases A with
  | none =>
    have hm : m = 0 := by
      rcases Nat.eq_zero_or_pos m with h0 | h0
      · exact h0
      · obtain ⟨b, o, e, _⟩ := hA.at_ h0; cases e
    subst hm
    have hl2 : l2 = [] := List.eq_nil_of_length_eq_zero hA.len
    subst hl2
    refine wpList_plain hgd fun K hK => ?_
    have hrun := run_append_of_nil (P := Try.prog) W base 22 o.type 3 i0 1 Try.underlying22 hi v l.length (ints l) hown c
    unfold Oper.wp
    simp [execOp, ho, resolve, invoke, builtin, hs, hx, hrun, Result.andThen]
    exact hK _ _ (h v W (by rw [List.append_nil]; exact hown) (Below.refl _ _))
  | some ad =>
    refine wpList_append_own _ hgd s x 22 ho base 3 i0 _ 1 8 Try.underlying22 hi hz0 hz1 hz2 rfl (by decide) v l.length (ints l) hs hown ad m c (ints l2) hx (by rw [List.length_map, hA.len, Nat.mul_one])
      ?_ (ints_one l2) (by unfold maxLen; omega) (by omega) hbase ?_
    · intro j u hj
      have hlt : j < (ints l2).length := (List.getElem?_eq_some_iff.1 hj).1
      rw [List.length_map] at hlt
      obtain ⟨b, o, e1, _, h1⟩ := hA.at_ (k := j) (by rw [← hA.len]; exact hlt)
      injection e1 with e1
      subst e1
      rw [Go.WideShapes.add_plain, h1, ← ints_at l2 j hlt, hj]
    · intro v' w' hown' hg _
      refine h v' w' ?_ ?_
      · rw [ints, List.map_append, List.length_append, hA.len]; exact hown'
      · exact (Below.refl base W).grown hg hbase (fun k hk => (hown.lt k hk).1)

/-- append of a slice that has just been made of the values l2. -/
theorem pushN_law {ops : Array Oper} {rest : List Oper} {o : Oper} {a : Act} {Q : Exit → Act → World → Prop} (hgd : o.guard = none) (s x : Operand)
    (ho : o.op = .call { callee := .builtin .append, args := #[s, x], argTypes := #[22, 22] })
    (base : Nat) (W : World) (v : Value) (l : List Int) (l2 : List Int) (n2 c2 : Nat) (Z : Array Value) (hZ : Z = (ints l2).toArray) (hn2 : n2 = l2.length) (hs : a.eval s = v) (hx : a.eval x = .slice (some ⟨W.heap.size, 0, none⟩) n2 c2)
    (hown : W.ownsRow base 3 1 v l.length (ints l)) (hl : l.length + l2.length ≤ 100000) (hbase : base ≤ W.heap.size)
    (h : ∀ v' w', w'.ownsRow base 3 1 v' (l ++ l2).length (ints (l ++ l2)) → Below base W w' → wpList Try.prog ops Q rest (a.put o.dst v') w') :
    wpList Try.prog ops Q (o :: rest) a (W.alloc (.cells Z 3)) := by
  subst hZ hn2
  obtain ⟨i0, hi, hz0, hz1, hz2⟩ := info_parts Try.info3
  refine wpList_append_own _ hgd s x 22 ho base 3 i0 _ 1 8 Try.underlying22 hi hz0 hz1 hz2 rfl (by decide) v l.length (ints l) hs (hown.alloc _) ⟨W.heap.size, 0, none⟩ l2.length c2 (ints l2) hx (by rw [List.length_map, Nat.mul_one])
    (World.news_of_block (heap_alloc_new W _)) (ints_one l2) (by unfold maxLen; omega) (by omega) (by simp; omega) ?_
  intro v' w' hown' hg _
  refine h v' w' ?_ ?_
  · rw [ints, List.map_append, List.length_append]; exact hown'
  · exact (((Below.refl base W).alloc hbase _).grown hg (by simp; omega) (fun k hk => (hown.lt k hk).1))

theorem zI : (Value.int .i64 0).cells.size = 1 := rfl
set_option maxHeartbeats 1000000 in
theorem growI_any (n : Nat) (w : World) (hn : n ≤ 100000) :
    Calls Try.prog 54 #[.slice none 0 0, .int .i64 (n : Int)] w fun e w' => ∃ v, e = .returned v ∧ w'.ownsRow w.heap.size 3 1 v 0 [] ∧ Below w.heap.size w w' := by
  rcases Nat.eq_zero_or_pos n with rfl | hp
  · go_enter Try.func54, Try.ntmps54
    go_wp2
    go_ret
    exact ⟨_, rfl, World.ownsRow_nil _ _ _ _, Below.refl _ _⟩
  · obtain ⟨i0, hi, hz0, hz1, hz2⟩ := info_parts Try.info3
    have hap := Lib.run_append_nil_zeros w 22 3 22 3 i0 _ .i64 .i64 Try.underlying22 Try.underlying3 hi hz0 n hp (by omega) (by omega) (by rw [hz2]; omega)
    have hcap := grownCap_ge w n 0 3
    have hmax := grownCap_le_maxLen w n 0 3 (by unfold maxLen; omega)
    have hown := World.ownsRow_made (base := w.heap.size) (e := 3) (size := 1) w.drew (Builtin.zeroCells (Value.int .i64 0).cells n ++ Builtin.zeroCells (Value.int .i64 0).cells (grownCap w n 0 3 - n)) (grownCap w n 0 3) (Nat.le_refl _) hmax (by rw [Array.size_append, size_zeroCells, size_zeroCells, zI]; omega)
    have HO := Lib.hid hown
    have HAP := Lib.hid hap
    have hb : Below w.heap.size w (w.drew.alloc (.cells (Builtin.zeroCells (Value.int .i64 0).cells n ++ Builtin.zeroCells (Value.int .i64 0).cells (grownCap w n 0 3 - n)) 3)) :=
      Below.alloc (a := w) (w := w.drew) ⟨rfl, rfl, rfl, Nat.le_refl _, fun _ _ => rfl⟩ (Nat.le_refl _) _
    have HB := Lib.hid hb
    clear hown hap hb
    generalize grownCap w n 0 3 = G at *
    generalize (.cells (Builtin.zeroCells (Value.int .i64 0).cells n ++ Builtin.zeroCells (Value.int .i64 0).cells (G - n)) 3 : Obj) = ob at *
    have e1 : ¬ (n : Int) < 0 := by omega
    have e2 : (0 : Int) < (n : Int) := by omega
    have hmi : (G : Int) ≤ 9223372036854775807 := by unfold maxLen at hmax; omega
    go_enter Try.func54, Try.ntmps54
    go_wp2_with (at_builtin; refine Lib.wpList_append_run _ rfl _ _ _ _ rfl _ _ rfl rfl _ _ HAP.out ?_)
    go_ret
    exact ⟨_, rfl, HO.out, HB.out⟩

/-- The slice at A with n elements holds the slices of ints zss. -/
def LstsAt (w : World) (B : Nat) (A : Option Addr) (n : Nat) (zss : List (List Int)) : Prop :=
  zss.length = n ∧ ∀ k, k < n → ∃ b o A' c', A = some ⟨b, o, none⟩ ∧ b < B ∧ w.cell? ⟨b, o + k, none⟩ = some (.slice A' (zss.getD k []).length c') ∧ IntsAt w B A' (zss.getD k []).length (zss.getD k [])
theorem flat_take {p : List (List Int)} {k : Nat} (hk : k < p.length) : (p.take (k + 1)).flatten = (p.take k).flatten ++ p.getD k [] := by
  rw [List.take_add_one, List.getElem?_eq_getElem hk, List.flatten_append]
  simp [List.getD, List.getElem?_eq_getElem hk]
theorem flat_le (p : List (List Int)) (k : Nat) : (p.take k).flatten.length ≤ p.flatten.length := by
  have : p.flatten = (p.take k).flatten ++ (p.drop k).flatten := by rw [← List.flatten_append, List.take_append_drop]
  rw [this, List.length_append]
  omega

set_option maxHeartbeats 4000000 in
theorem concatI_any (A : Option Addr) (n c B : Nat) (p : List (List Int)) (w : World) (hA : LstsAt w B A n p) (hB : B ≤ w.heap.size) (hn : n ≤ 100000) (hm : p.flatten.length ≤ 100000) :
    Calls Try.prog 45 #[.slice A n c] w (RetO w p.flatten) := by
  have HL : Hid (p.length = n) := hA.1
  have HA := Lib.hid hA
  have HF : Hid (∀ k, k < n → (p.take (k + 1)).flatten.length = (p.take k).flatten.length + (p.getD k []).length) := fun k hk => by
    rw [flat_take (by rw [HL.out]; exact hk), List.length_append]
  have HG : Hid (∀ k, k < n → (p.take (k + 1)).flatten = (p.take k).flatten ++ p.getD k []) := fun k hk => flat_take (by rw [HL.out]; exact hk)
  have HLE : Hid (∀ k, (p.take k).flatten.length ≤ p.flatten.length) := fun k => flat_le p k
  have HALL : Hid ((p.take n).flatten = p.flatten) := by show _ = _; rw [← HL.out, List.take_length]
  clear hA
  go_enter Try.func45, Try.ntmps45
  go_wp2
  go_loop [3, 11] (fun s i => ∃ k : Nat, k ≤ n ∧ i = .int .i64 (k : Int) ∧ s = .int .i64 (((p.take k).flatten.length : Nat) : Int)) (fun _ i => n - (intOf i).toNat)
  case atStart => exact ⟨0, by omega, rfl, by simp⟩
  case round =>
    obtain ⟨k, hk, rfl, rfl⟩ := hrel
    by_cases hlt : k < n
    · obtain ⟨b, o, A', c', rfl, hbB, hcell, -⟩ := HA.out.2 k hlt
      have hf := HF.out k hlt
      have h1 := HLE.out (k + 1)
      have HFk := Lib.hid hf
      generalize hT : (p.take k).flatten.length = t at *
      have HT := Lib.hid hT
      clear hT
      generalize (p.getD k []).length = len at *
      have x1 : ¬ ((t : Int) + (len : Int)) < 0 := by omega
      have x2 : ((t : Int) + (len : Int)) ≤ 100000 := by omega
      have HE : Hid ((t : Int) + (len : Int) = (((p.take (k + 1)).flatten.length : Nat) : Int)) := by show _ = _; rw [HFk.out]; omega
      clear hf
      go_wp2
      go_round
      case rel => exact ⟨k + 1, by omega, by go_num, by rw [HE.out]⟩
      case measure => simp [intOf]; omega
    · have HK : Hid (k = n) := by show k = n; omega
      have HGR : Hid (Calls Try.prog 54 #[.slice none 0 0, .int .i64 (((p.take k).flatten.length : Nat) : Int)] w fun e w' => ∃ v, e = .returned v ∧ w'.ownsRow w.heap.size 3 1 v 0 [] ∧ Below w.heap.size w w') := growI_any _ w (by have := HLE.out k; omega)
      generalize (p.take k).flatten.length = t at *
      go_wp2_with fail
      refine HGR.out.mono ?_
      rintro e w1 ⟨v, rfl, ho1, b1⟩
      have HO1 : Hid (w1.ownsRow w.heap.size 3 1 v ((p.take 0).flatten).length (ints (p.take 0).flatten)) := by
        show World.ownsRow _ _ _ _ _ _ _
        exact ho1
      clear ho1
      have HNV : Hid (∃ A c, v = .slice A 0 c) := by obtain ⟨A, c, e, -⟩ := own_slice HO1.out; exact ⟨A, c, e⟩
      obtain ⟨A1, c1, rfl⟩ := HNV.out
      have HB1 := Lib.hid b1
      clear b1 HNV HGR HK hlt hk
      go_wp2
      go_loopw [6, 8, 27] (fun v _ i wq => ∃ j : Nat, j ≤ n ∧ i = .int .i64 (j : Int) ∧ wq.ownsRow w.heap.size 3 1 v (p.take j).flatten.length (ints (p.take j).flatten) ∧ Below w.heap.size w wq) (fun _ _ i _ => n - (intOf i).toNat)
      case atStart => exact ⟨0, by omega, rfl, HO1.out, HB1.out⟩
      case round =>
        clear HO1 HB1
        obtain ⟨j, hj, rfl, hown, hb⟩ := hrel
        by_cases hjn : j < n
        · obtain ⟨b, o, A', c', rfl, hbB, hcell, hE⟩ := HA.out.2 j hjn
          have hc := bcell hb hcell (show b < _ by omega)
          have h1 := HLE.out (j + 1)
          have h2 := HF.out j hjn
          have HGj := Lib.hid (HG.out j hjn)
          have HE2 := Lib.hid (hE.below hb (by omega))
          have HOWN := Lib.hid hown
          have HB := Lib.hid hb
          have hlen : (p.take j).flatten.length + (p.getD j []).length ≤ 100000 := by omega
          have hsz := hb.size
          clear hE hown hcell hb h1 h2
          generalize (p.take j).flatten = acc at *
          generalize p.getD j [] = l at *
          go_wp2_with (at_builtin; refine joinI_law rfl (.tmp 31) (.tmp 32) rfl w.heap.size wr _ acc rfl B A' l.length c' l rfl HOWN.out HE2.out hlen hsz ?_)
          intro v' w6 ho6 b6
          obtain ⟨A6, c6, rfl, -⟩ := own_slice ho6
          have HO6 := Lib.hid ho6
          have HB6 := Lib.hid (HB.out.trans (b6.mono (Nat.le_refl _)))
          clear ho6 b6 hc
          go_wp2
          go_roundw
          case rel => exact ⟨j + 1, by omega, by go_num, by rw [HGj.out, List.length_append]; simpa using HO6.out, HB6.out⟩
          case measure => simp [intOf]; omega
        · obtain rfl : j = n := by omega
          rw [HALL.out] at hown
          obtain ⟨A6, c6, rfl, -⟩ := own_slice hown
          have HO6 := Lib.hid hown
          clear hown
          go_wp2
          go_ret
          exact ⟨_, rfl, HO6.out, hb⟩

set_option maxHeartbeats 2000000 in
/-- slices.Clone of a slice that is not nil. -/
theorem cloneI_any (b o n c B : Nat) (l : List Int) (w : World) (hA : IntsAt w B (some ⟨b, o, none⟩) n l) (hB : B ≤ w.heap.size) (hn : n ≤ 100000) :
    Calls Try.prog 50 #[.slice (some ⟨b, o, none⟩) n c] w (RetO w l) := by
  have q22 : ∀ (w : World) (a : Option Addr) (n c n' c' : Nat), (binOp .eql 22 (.slice a n c) (.slice none n' c')).run Try.prog w = .ok (.bool a.isNone) w := fun w a n c n' c' => Lib.run_eql_slice_nil w _ _ a n c n' c' Try.underlying22
  have HN := Lib.hid hA.len
  have HA : Hid (∀ v, Below w.heap.size w v → IntsAt v B (some ⟨b, o, none⟩) n l) := fun v hv => hA.below hv hB
  clear hA
  go_enter Try.func50, Try.ntmps50
  go_wp2_with (at_builtin; refine joinI_law rfl (.tmp 5) (.tmp 6) rfl w.heap.size _ _ [] rfl B (some ⟨b, o, none⟩) n c l rfl (World.ownsRow_made w #[] 0 (Nat.le_refl _) (Nat.zero_le _) rfl) (HA.out _ ((Below.refl _ _).alloc (Nat.le_refl _) _)) (by simp; omega) (by simp) ?_)
  intro v' w' ho hb
  obtain ⟨A6, c6, rfl, -⟩ := own_slice ho
  have HO := Lib.hid ho
  have HB := Lib.hid (((Below.refl w.heap.size w).alloc (Nat.le_refl _) (.cells #[] 3)).trans hb)
  clear ho hb
  generalize hm : l.length = m at *
  have HM := Lib.hid hm
  clear hm
  go_wp2
  go_ret
  refine ⟨_, rfl, ?_, HB.out⟩
  rw [HM.out]
  exact HO.out
end Go.Proofs.Ytmimfnbcffcdfaa
