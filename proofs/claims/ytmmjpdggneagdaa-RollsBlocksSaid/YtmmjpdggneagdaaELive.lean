/-
  WALKS: Live, Of, the reference's Live and Of. Conditions: at most 50000 entries.
-/
import Derived.Test.YtmmjpdggneagdaaEClone
import Derived.Deep.CutRange
namespace Go.Proofs.Ytmmjpdggneagdaa
open Go.RowKit

theorem run_append_of_nil {P : Program} (w : World) (base : Nat) (t ty e : TypeId) (i : TypeInfo) (size : Nat) (ht : P.underlying t = some (.slice e)) (hi : P.info? e = some i)
    (v : Value) (n : Nat) (xs : List Value) (hown : w.ownsRow base e size v n xs) (c : Nat) : (Builtin.append_ #[t, t] ty #[v, .slice none 0 c]).run P w = .ok v w := by
  rcases hown.2 with ⟨rfl, rfl⟩ | ⟨g, cap, cur, rfl, _, _, hnc, _⟩
  · simp [Builtin.append_, run_underlying ht, sizeOf, typeInfo, hi, Builtin.lenOf, Builtin.firstCells]
  · simp [Builtin.append_, run_underlying ht, sizeOf, typeInfo, hi, Builtin.lenOf, Builtin.firstCells, hnc, storeCells]
theorem ensCells_append (a b : List En) : ensCells (a ++ b) = ensCells a ++ ensCells b := by simp [ensCells]
theorem ensCells_one (l : List En) : ∀ u ∈ ensCells l, u.oneCell' = true := by
  intro u hu
  obtain ⟨s, _, hs⟩ := List.mem_flatMap.1 hu
  exact one_en s u hs
theorem EnsAt.news {w : World} {B : Nat} {ad : Addr} {m : Nat} {l : List En} (h : EnsAt w B (some ad) m l) : ∀ j u, (ensCells l)[j]? = some u → w.cell? (ad.add j) = some u := by
  intro j u hj
  have hlt : j < (ensCells l).length := (List.getElem?_eq_some_iff.1 hj).1
  rw [ensCells_len] at hlt
  obtain ⟨k, e⟩ : ∃ k, j = k * 2 ∨ j = k * 2 + 1 := ⟨j / 2, by omega⟩
  have hk : k < l.length := by omega
  obtain ⟨b, o, e1, _, h1, h2⟩ := h.at_ (k := k) (by rw [← h.len]; exact hk)
  obtain ⟨c1, c2⟩ := ensCells_at l k hk
  injection e1 with e1
  subst e1
  rw [Go.WideShapes.add_plain]
  rcases e with rfl | rfl
  · rw [h1, ← c1, hj]
  · rw [show o + (k * 2 + 1) = o + k * 2 + 1 by omega, h2, ← c2, hj]

/-- 'append(l, m...)' of entries, at the list of a plain region's operations. -/
theorem join_law {ops : Array Oper} {rest : List Oper} {o : Oper} {a : Act} {Q : Exit → Act → World → Prop} (hgd : o.guard = none) (s x : Operand)
    (ho : o.op = .call { callee := .builtin .append, args := #[s, x], argTypes := #[22, 22] })
    (base : Nat) (W : World) (v : Value) (l : List En) (hs : a.eval s = v) (B : Nat) (A : Option Addr) (m c : Nat) (l2 : List En) (hx : a.eval x = .slice A m c)
    (hown : W.ownsRow base 43 2 v l.length (ensCells l)) (hA : EnsAt W B A m l2) (hl : l.length + m ≤ 100000) (hbase : base ≤ W.heap.size)
    (h : ∀ v' w', w'.ownsRow base 43 2 v' (l ++ l2).length (ensCells (l ++ l2)) → Below base W w' → wpList Try.prog ops Q rest (a.put o.dst v') w') :
    wpList Try.prog ops Q (o :: rest) a W := by
  obtain ⟨i0, hi, hz0, hz1, hz2⟩ := info_parts info43
  cases A with
  | none =>
    have hm : m = 0 := by
      rcases Nat.eq_zero_or_pos m with h0 | h0
      · exact h0
      · obtain ⟨b, o, e, _⟩ := hA.at_ h0; cases e
    subst hm
    have hl2 : l2 = [] := List.eq_nil_of_length_eq_zero hA.len
    subst hl2
    refine wpList_plain hgd fun K hK => ?_
    have hrun := run_append_of_nil (P := Try.prog) W base 22 o.type 43 i0 2 Try.underlying22 hi v l.length (ensCells l) hown c
    unfold Oper.wp
    simp [execOp, ho, resolve, invoke, builtin, hs, hx, hrun, Result.andThen]
    exact hK _ _ (h v W (by rw [List.append_nil]; exact hown) (Below.refl _ _))
  | some ad =>
    refine wpList_append_own _ hgd s x 22 ho base 43 i0 _ 2 24 Try.underlying22 hi hz0 hz1 hz2 rfl (by decide) v l.length (ensCells l) hs hown ad m c (ensCells l2) hx (by rw [ensCells_len, hA.len])
      hA.news (ensCells_one l2) (by unfold maxLen; omega) (by omega) hbase ?_
    intro v' w' hown' hg _
    refine h v' w' ?_ ?_
    · rw [ensCells_append, List.length_append, hA.len]; exact hown'
    · exact (Below.refl base W).grown hg hbase (fun k hk => (hown.lt k hk).1)

theorem live_snoc (l : List En) {k : Nat} (h : k < l.length) : liveR (l.take (k + 1)) = liveR (l.take k) ++ if (l.getD k En.z).nd = 0 then [] else [l.getD k En.z] := by
  rw [take_snoc l h]
  unfold liveR
  rw [List.filter_append]
  split <;> rename_i e <;> simp at e <;> simp [e]
theorem live_len (l : List En) : (liveR l).length ≤ l.length := List.length_filter_le _ _
theorem live_take (l : List En) {k : Nat} (h : k ≤ l.length) : (liveR (l.take k)).length ≤ k := by
  have := live_len (l.take k)
  rw [List.length_take] at this
  omega
theorem live_fit {l : List En} (h : ∀ e ∈ l, e.fit) : ∀ e ∈ liveR l, e.fit := fun e he => h e (List.mem_filter.1 he).1

set_option maxHeartbeats 4000000 in
theorem rlive_any (A : Option Addr) (n c B : Nat) (l : List En) (w : World) (hA : EnsAt w B A n l) (hB : B ≤ w.heap.size) (hn : n ≤ 50000) :
    Calls Try.prog 16 #[.slice A n c] w (RetOwn w (liveR l)) := by
  have HL := Lib.hid hA.len
  have HA := Lib.hid hA
  clear hA
  go_enter Try.func16, Try.ntmps16
  go_wp2
  go_loopw [3, 4] (fun v i wr => ∃ k : Nat, k ≤ n ∧ i = .int .i64 (k : Int) ∧ wr.ownsRow w.heap.size 43 2 v (liveR (l.take k)).length (ensCells (liveR (l.take k))) ∧ Below w.heap.size w wr) (fun _ i _ => n - (intOf i).toNat)
  case atStart => exact ⟨0, by omega, rfl, World.ownsRow_nil _ _ _ _, Below.refl _ _⟩
  case round =>
    obtain ⟨k, hk, rfl, hown, hb⟩ := hrel
    obtain ⟨A', c', rfl, hc'⟩ := own_slice hown
    by_cases hlt : k < n
    · obtain ⟨b, o, rfl, hbB, h1, h2⟩ := HA.out.at_ hlt
      have hbl : b < w.heap.size := by omega
      have c1 := bcell hb h1 hbl
      have c2 := bcell hb h2 hbl
      have hkl : k < l.length := by rw [HL.out]; exact hlt
      have HST := Lib.hid (live_snoc l hkl)
      have hlen := live_take l (Nat.le_of_lt hkl)
      have HOWN := Lib.hid hown
      have HB := Lib.hid hb
      have hws := hb.size
      clear h1 h2 hown hb
      generalize liveR (l.take k) = L at *
      generalize l.getD k En.z = x at *
      obtain ⟨s, z⟩ := x
      simp only at c1 c2 HST
      by_cases hz : z = 0
      · have HE : Hid (liveR (l.take (k + 1)) = L) := by show _ = _; rw [HST.out, if_pos hz, List.append_nil]
        have d1 : (z != 0) = false := by simpa using hz
        have d2 : (z == 0) = true := by simpa using hz
        subst hz
        clear HST
        generalize hm : L.length = m at *
        have HM := Lib.hid hm
        clear hm
        go_wp2
        go_roundw
        case rel => exact ⟨k + 1, by omega, by go_num, by rw [HE.out, HM.out]; exact HOWN.out, HB.out⟩
        case measure => simp [intOf]; omega
      · have HE : Hid (liveR (l.take (k + 1)) = L ++ [⟨s, z⟩]) := by show _ = _; rw [HST.out, if_neg hz]
        have d1 : (z != 0) = true := by simpa using hz
        have d2 : (z == 0) = false := by simpa using hz
        clear HST
        generalize hm : L.length = m at *
        have HM := Lib.hid hm
        clear hm hz
        go_wp2_with (at_builtin; refine push_law rfl (.tmp 17) (.tmp 22) rfl w.heap.size wr (.slice A' m c') L s z rfl rfl (by rw [HM.out]; exact HOWN.out) (by rw [HM.out]; omega) hws ?_; intro v' w3 hown3 hb3)
        go_roundw
        case rel => exact ⟨k + 1, by omega, by go_num, by rw [HE.out]; exact hown3, HB.out.trans hb3⟩
        case measure => simp [intOf]; omega
    · have HK : Hid (k = n) := by show k = n; omega
      have hfin : RetOwn w (liveR l) (.returned (.slice A' (liveR (l.take k)).length c')) wr := by
        refine ⟨_, rfl, ?_, hb⟩
        have e : l.take k = l := by rw [HK.out, ← HL.out, List.take_length]
        rw [e] at hown ⊢
        exact hown
      have HF := Lib.hid hfin
      clear hfin hown hb
      go_wp2
      go_ret
      exact HF.out

set_option maxHeartbeats 4000000 in
theorem live_any (A : Option Addr) (n c B : Nat) (l : List En) (w : World) (hA : EnsAt w B A n l) (hB : B ≤ w.heap.size) (hn : n ≤ 50000) :
    Calls Try.prog 15 #[.slice A n c] w (RetOwn w (liveR l)) := by
  have HL := Lib.hid hA.len
  have HA := Lib.hid hA
  clear hA
  go_enter Try.func15, Try.ntmps15
  go_wp2
  go_loopw [3, 5, 8] (fun v _ i wr => ∃ k : Nat, k ≤ n ∧ i = .int .i64 (k : Int) ∧ wr.ownsRow w.heap.size 43 2 v (liveR (l.take k)).length (ensCells (liveR (l.take k))) ∧ Below w.heap.size w wr) (fun _ _ i _ => n - (intOf i).toNat)
  case atStart => exact ⟨0, by omega, rfl, World.ownsRow_nil _ _ _ _, Below.refl _ _⟩
  case round =>
    obtain ⟨k, hk, rfl, hown, hb⟩ := hrel
    obtain ⟨A', c', rfl, hc'⟩ := own_slice hown
    by_cases hlt : k < n
    · obtain ⟨b, o, rfl, hbB, h1, h2⟩ := HA.out.at_ hlt
      have hbl : b < w.heap.size := by omega
      have c1 := bcell hb h1 hbl
      have c2 := bcell hb h2 hbl
      have hkl : k < l.length := by rw [HL.out]; exact hlt
      have HST := Lib.hid (live_snoc l hkl)
      have hlen := live_take l (Nat.le_of_lt hkl)
      have HOWN := Lib.hid hown
      have HB := Lib.hid hb
      have hws := hb.size
      clear h1 h2 hown hb
      generalize liveR (l.take k) = L at *
      generalize l.getD k En.z = x at *
      obtain ⟨s, z⟩ := x
      simp only at c1 c2 HST
      by_cases hz : z = 0
      · have HE : Hid (liveR (l.take (k + 1)) = L) := by show _ = _; rw [HST.out, if_pos hz, List.append_nil]
        have d1 : (z != 0) = false := by simpa using hz
        have d2 : (z == 0) = true := by simpa using hz
        subst hz
        clear HST
        generalize hm : L.length = m at *
        have HM := Lib.hid hm
        clear hm
        go_wp2
        go_roundw
        case rel => exact ⟨k + 1, by omega, by go_num, by rw [HE.out, HM.out]; exact HOWN.out.alloc _, HB.out.alloc hws _⟩
        case measure => simp [intOf]; omega
      · have HE : Hid (liveR (l.take (k + 1)) = L ++ [⟨s, z⟩]) := by show _ = _; rw [HST.out, if_neg hz]
        have d1 : (z != 0) = true := by simpa using hz
        have d2 : (z == 0) = false := by simpa using hz
        clear HST
        generalize hm : L.length = m at *
        have HM := Lib.hid hm
        clear hm hz
        go_upto_region 6 with fail
        have n1 : (wr.alloc (.cells #[.string s, .int .i64 z] 43)).cell? ⟨wr.heap.size, 0, none⟩ = some (.string s) := cell_new wr _ 43 0 rfl
        have n2 : (wr.alloc (.cells #[.string s, .int .i64 z] 43)).cell? ⟨wr.heap.size, 1, none⟩ = some (.int .i64 z) := cell_new wr _ 43 1 rfl
        have HO2 : Hid ((wr.alloc (.cells #[.string s, .int .i64 z] 43)).ownsRow w.heap.size 43 2 (.slice A' m c') m (ensCells L)) := HOWN.out.alloc _
        have HB2 : Hid (Below w.heap.size w (wr.alloc (.cells #[.string s, .int .i64 z] 43))) := HB.out.alloc hws _
        clear c1 c2
        generalize wr.alloc (.cells #[.string s, .int .i64 z] 43) = W2 at *
        go_wp2_with (at_builtin; refine push_law rfl (.tmp 15) (.tmp 17) rfl w.heap.size W2 (.slice A' m c') L s z rfl rfl (by rw [HM.out]; exact HO2.out) (by rw [HM.out]; omega) HB2.out.size ?_; intro v' w3 hown3 hb3)
        go_roundw
        case rel => exact ⟨k + 1, by omega, by go_num, by rw [HE.out]; exact hown3, HB2.out.trans hb3⟩
        case measure => simp [intOf]; omega
    · have HK : Hid (k = n) := by show k = n; omega
      have e : l.take k = l := by rw [HK.out, ← HL.out, List.take_length]
      rw [e] at hown ⊢
      clear e
      have hlen := live_len l
      have hlen2 := HL.out
      have HE := Lib.hid (EnsAt.of_own hown rfl (live_fit HA.out.2.1))
      have HC := Lib.hid (cloneE_any A' (liveR l).length c' wr.heap.size (liveR l) wr HE.out (Nat.le_refl _) (by omega))
      have HB := Lib.hid hb
      clear hown hb hlen hlen2
      go_wp2_with fail
      refine HC.out.mono ?_
      rintro e w3 ⟨v, rfl, ho, b3⟩
      have hfin : RetOwn w (liveR l) (.returned v) w3 := ⟨v, rfl, ⟨ho.1, by
        rcases ho.2 with h | ⟨g, cap, cur, h1, h2, h3⟩
        · exact Or.inl h
        · exact Or.inr ⟨g, cap, cur, h1, Nat.le_trans HB.out.size h2, h3⟩⟩, HB.out.trans (b3.mono HB.out.size)⟩
      have HF := Lib.hid hfin
      clear hfin ho b3
      go_wp2
      go_ret
      exact HF.out
end Go.Proofs.Ytmmjpdggneagdaa
