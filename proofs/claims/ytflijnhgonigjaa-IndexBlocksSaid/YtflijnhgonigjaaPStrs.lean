/-
  WORDS OF MEMORY for IndexBlocks: a slice of texts that reads as a list, a text appended; WALKS: the reference's SameTexts, slices.Equal. Conditions: at most 100000 texts.
-/
import Derived.Test.YtflijnhgonigjaaPBlk
import Derived.Test.YtflijnhgonigjaaPWords
import Derived.Test.YtflijnhgonigjaaRefText
namespace Go.Proofs.Ytflijnhgonigjaa
open Go.RowKit
set_option linter.unusedVariables false

/-- the slice at A with n elements reads as the texts ls, and lies below block B. -/
def StrsAt (w : World) (B : Nat) (A : Option Addr) (n : Nat) (ls : List ByteArray) : Prop :=
  ls.length = n ∧ (∀ s ∈ ls, s.size ≤ 140737488355328) ∧ ∀ k, k < n → ∃ b o, A = some ⟨b, o, none⟩ ∧ b < B ∧ w.cell? ⟨b, o + k, none⟩ = some (.string (ls.getD k ⟨#[]⟩))
section
variable {w w' : World} {B B' : Nat} {A : Option Addr} {n : Nat} {ls : List ByteArray}
theorem StrsAt.len (h : StrsAt w B A n ls) : ls.length = n := h.1
theorem StrsAt.at_ (h : StrsAt w B A n ls) {k : Nat} (hk : k < n) : ∃ b o, A = some ⟨b, o, none⟩ ∧ b < B ∧ w.cell? ⟨b, o + k, none⟩ = some (.string (ls.getD k ⟨#[]⟩)) := h.2.2 k hk
theorem StrsAt.bd (h : StrsAt w B A n ls) (k : Nat) : (ls.getD k ⟨#[]⟩).size ≤ 140737488355328 := by
  rcases Nat.lt_or_ge k ls.length with hl | hl
  · have := h.2.1 ls[k] (List.getElem_mem hl)
    simpa [List.getD, List.getElem?_eq_getElem hl] using this
  · simp only [List.getD, List.getElem?_eq_none hl, Option.getD_none]; show 0 ≤ _; omega
theorem StrsAt.keep (h : StrsAt w B A n ls) (hk : ∀ p : Addr, p.block < B → w'.cell? p = w.cell? p) : StrsAt w' B A n ls :=
  ⟨h.1, h.2.1, fun k hkn => by
    obtain ⟨b, o, e, hb, hc⟩ := h.2.2 k hkn
    exact ⟨b, o, e, hb, (hk ⟨b, o + k, none⟩ hb).trans hc⟩⟩
theorem StrsAt.more (h : StrsAt w B A n ls) (hB : B ≤ B') : StrsAt w B' A n ls :=
  ⟨h.1, h.2.1, fun k hkn => by
    obtain ⟨b, o, e, hb, hc⟩ := h.2.2 k hkn
    exact ⟨b, o, e, Nat.lt_of_lt_of_le hb hB, hc⟩⟩
theorem StrsAt.below {C : Nat} (h : StrsAt w B A n ls) (hb : Below C w w') (hBC : B ≤ C) : StrsAt w' B A n ls := h.keep fun _ hp => hb.cell (by omega)
theorem StrsAt.take (h : StrsAt w B A n ls) (k : Nat) (hk : k ≤ n) : StrsAt w B A k (ls.take k) :=
  ⟨by rw [List.length_take, h.1]; omega, fun s hs => h.2.1 s (List.mem_of_mem_take hs), fun j hj => by
    obtain ⟨b, o, e, hb, hc⟩ := h.2.2 j (by omega)
    exact ⟨b, o, e, hb, by rw [hc]; simp [List.getD, List.getElem?_take_of_lt hj]⟩⟩
theorem StrsAt.nil (w : World) (B : Nat) (A : Option Addr) : StrsAt w B A 0 [] := ⟨rfl, by simp, fun k hk => by omega⟩
end

def strs (ls : List ByteArray) : List Value := ls.map Value.string
theorem strs_len (ls : List ByteArray) : (strs ls).length = ls.length := by simp [strs]
theorem strs_snoc (ls : List ByteArray) (s : ByteArray) : strs (ls ++ [s]) = strs ls ++ [.string s] := by simp [strs]
theorem StrsAt.of_own {w : World} {base : Nat} {v : Value} {A : Option Addr} {c : Nat} {l : List ByteArray} (h : w.ownsRow base 9 1 v l.length (strs l)) (hv : v = .slice A l.length c) (hf : ∀ s ∈ l, s.size ≤ 140737488355328) : StrsAt w w.heap.size A l.length l := by
  refine ⟨rfl, hf, fun k hk => ?_⟩
  obtain ⟨g, cap, e, _, hlt⟩ := h.form (by omega)
  subst hv
  have hA : A = some ⟨g, 0, none⟩ := by injection e
  subst hA
  have hg : (strs l)[k]? = some (.string (l.getD k ⟨#[]⟩)) := by simp [strs, List.getD, hk]
  have hcell := h.cells (g := g) rfl _ _ hg
  rw [Go.WideShapes.add_plain] at hcell
  exact ⟨g, 0, rfl, hlt, hcell⟩
theorem info9 : (Try.prog.info? 9).map (fun i => (i.zero, i.size, i.bytes)) = some (some (.string ⟨#[]⟩), 1, 16) := by kernel_rfl
theorem one_str (s : ByteArray) : ∀ u ∈ [Value.string s], u.oneCell' = true := by simp [Value.oneCell']
/-- 'append(l, s)' of texts, at the list of a plain region's operations. -/
theorem pushS_law {ops : Array Oper} {rest : List Oper} {o : Oper} {a : Act} {Q : Exit → Act → World → Prop} (hgd : o.guard = none) (s x : Operand)
    (ho : o.op = .call { callee := .builtin .append, args := #[s, x], argTypes := #[40, 40] })
    (base : Nat) (W : World) (v : Value) (l : List ByteArray) (z : ByteArray) (hs : a.eval s = v) (hx : a.eval x = .slice (some ⟨W.heap.size, 0, none⟩) 1 1)
    (hown : W.ownsRow base 9 1 v l.length (strs l)) (hl : l.length ≤ 100000) (hbase : base ≤ W.heap.size)
    (h : ∀ v' w', w'.ownsRow base 9 1 v' (l ++ [z]).length (strs (l ++ [z])) → Below base W w' → wpList Try.prog ops Q rest (a.put o.dst v') w') :
    wpList Try.prog ops Q (o :: rest) a (W.alloc (.cells #[.string z] 9)) := by
  obtain ⟨i0, hi, hz0, hz1, hz2⟩ := info_parts info9
  refine wpList_append_own _ hgd s x 40 ho base 9 i0 _ 1 16 Try.underlying40 hi hz0 hz1 hz2 rfl (by decide) v l.length (strs l) hs (hown.alloc _) ⟨W.heap.size, 0, none⟩ 1 1 [.string z] hx rfl
    (World.news_of_block (heap_alloc_new W _)) (one_str z) (by unfold maxLen; omega) (by omega) (by simp; omega) ?_
  intro v' w' hown' hg _
  refine h v' w' ?_ ?_
  · rw [strs_snoc, List.length_append]; exact hown'
  · exact (((Below.refl base W).alloc hbase _).grown hg (by simp; omega) (fun k hk => (hown.lt k hk).1))


theorem strs_ext {l l' : List ByteArray} {n : Nat} (h : l.length = n) (h' : l'.length = n) (he : ∀ j, j < n → l.getD j ⟨#[]⟩ = l'.getD j ⟨#[]⟩) : l = l' := by
  apply List.ext_getElem (by rw [h, h'])
  intro j h1 h2
  have := he j (by omega)
  simpa only [List.getD, List.getElem?_eq_getElem h1, List.getElem?_eq_getElem h2, Option.getD_some] using this
theorem strs_ne_len {l l' : List ByteArray} (h : l.length ≠ l'.length) : decide (l = l') = false := by
  rw [decide_eq_false_iff_not]; rintro rfl; exact h rfl
theorem strs_ne_at {l l' : List ByteArray} {j : Nat} (h : eqB (l.getD j ⟨#[]⟩) (l'.getD j ⟨#[]⟩) = false) : decide (l = l') = false := by
  rw [decide_eq_false_iff_not]; rintro rfl; exact eqB_ne.1 h rfl

set_option maxHeartbeats 2000000 in
theorem texts_any (A A' : Option Addr) (n m c c' B B' : Nat) (l l' : List ByteArray) (w : World) (hA : StrsAt w B A n l) (hA' : StrsAt w B' A' m l') (hn : n ≤ 100000) (hm : m ≤ 100000) :
    Calls Try.prog 28 #[.slice A n c, .slice A' m c'] w fun e w' => e = .returned (.bool (decide (l = l'))) ∧ Drew w w' := by
  have HL := Lib.hid hA.len
  have HL' := Lib.hid hA'.len
  have HA := Lib.hid hA
  have HA' := Lib.hid hA'
  clear hA hA'
  by_cases hnm : n = m
  · subst hnm
    have HX := Lib.hid (fun he => strs_ext HL.out HL'.out he)
    have HNE := Lib.hid (fun j h => strs_ne_at (l := l) (l' := l') (j := j) h)
    have HYS : Hid (l = l' → decide (l = l') = true) := fun h => by simpa using h
    generalize decide (l = l') = res at *
    go_enter Try.func28, Try.ntmps28
    go_wp2
    go_loopw [5] (fun i wr => ∃ k : Nat, k ≤ n ∧ i = .int .i64 (k : Int) ∧ Hid (∀ j, j < k → l.getD j ⟨#[]⟩ = l'.getD j ⟨#[]⟩) ∧ Drew w wr) (fun i _ => n - (intOf i).toNat)
    case atStart => exact ⟨0, by omega, rfl, fun j hj => absurd hj (Nat.not_lt_zero _), Drew.refl _⟩
    case round =>
      obtain ⟨k, hk, rfl, hok, hd⟩ := hrel
      by_cases hlt : k < n
      · obtain ⟨b, o, rfl, _, h1⟩ := HA.out.at_ hlt
        obtain ⟨b', o', rfl, _, g1⟩ := HA'.out.at_ hlt
        rw [← hd.cells] at h1 g1
        have HNEk := Lib.hid (HNE.out k)
        have HOKk : Hid (l.getD k ⟨#[]⟩ = l'.getD k ⟨#[]⟩ → ∀ j, j < k + 1 → l.getD j ⟨#[]⟩ = l'.getD j ⟨#[]⟩) := fun h j hj => by
          rcases Nat.lt_or_ge j k with h1 | h1
          · exact hok.out j h1
          · obtain rfl : j = k := by omega
            exact h
        generalize l.getD k ⟨#[]⟩ = s at *
        generalize l'.getD k ⟨#[]⟩ = t at *
        have h0 : (0 : Int) ≤ (k : Int) := by omega
        have hkn : (k : Int) < (n : Int) := by omega
        cases heq : eqB s t with
        | true =>
          have e1 : (s.toList == t.toList) = true := heq
          have HO := Lib.hid (HOKk.out (eqB_iff.1 heq))
          clear heq HOKk HNEk hok
          go_wp2
          go_quiet (fail)
          go_wp2
          go_roundw
          case rel => exact ⟨k + 1, by omega, by go_num, HO, hd.trans ⟨_, rfl⟩⟩
          case measure => simp [intOf]; omega
        | false =>
          have e1 : (s.toList == t.toList) = false := heq
          have HF := Lib.hid (HNEk.out heq)
          clear heq HOKk HNEk hok
          go_wp2
          go_quiet (fail)
          go_wp2
          go_ret
          exact ⟨ret_bool HF.out.symm, hd.trans ⟨_, rfl⟩⟩
      · have x1 : ¬ (k : Int) < (n : Int) := by omega
        have HT := Lib.hid (HYS.out (HX.out fun j hj => hok.out j (by omega)))
        go_wp2
        go_ret
        exact ⟨ret_bool HT.out.symm, hd⟩
  · have e1 : ((n : Int) == (m : Int)) = false := by rw [beq_eq_false_iff_ne]; omega
    have e2 : ¬ (n : Int) = (m : Int) := by omega
    rw [strs_ne_len (l := l) (l' := l') (by rw [HL.out, HL'.out]; exact hnm)]
    go_enter Try.func28, Try.ntmps28
    go_wp2
    go_ret
    exact ⟨rfl, Drew.refl _⟩

set_option maxHeartbeats 2000000 in
theorem equalS_any (A A' : Option Addr) (n m c c' B B' : Nat) (l l' : List ByteArray) (w : World) (hA : StrsAt w B A n l) (hA' : StrsAt w B' A' m l') (hn : n ≤ 100000) (hm : m ≤ 100000) :
    Calls Try.prog 56 #[.slice A n c, .slice A' m c'] w fun e w' => e = .returned (.bool (decide (l = l'))) ∧ Drew w w' := by
  have HL := Lib.hid hA.len
  have HL' := Lib.hid hA'.len
  have HA := Lib.hid hA
  have HA' := Lib.hid hA'
  clear hA hA'
  by_cases hnm : n = m
  · subst hnm
    have HX := Lib.hid (fun he => strs_ext HL.out HL'.out he)
    have HNE := Lib.hid (fun j h => strs_ne_at (l := l) (l' := l') (j := j) h)
    have HYS : Hid (l = l' → decide (l = l') = true) := fun h => by simpa using h
    generalize decide (l = l') = res at *
    go_enter Try.func56, Try.ntmps56
    go_wp2
    go_loopw [13] (fun i wr => ∃ k : Nat, k ≤ n ∧ i = .int .i64 (k : Int) ∧ Hid (∀ j, j < k → l.getD j ⟨#[]⟩ = l'.getD j ⟨#[]⟩) ∧ Drew w wr) (fun i _ => n - (intOf i).toNat)
    case atStart => exact ⟨0, by omega, rfl, fun j hj => absurd hj (Nat.not_lt_zero _), Drew.refl _⟩
    case round =>
      obtain ⟨k, hk, rfl, hok, hd⟩ := hrel
      by_cases hlt : k < n
      · obtain ⟨b, o, rfl, _, h1⟩ := HA.out.at_ hlt
        obtain ⟨b', o', rfl, _, g1⟩ := HA'.out.at_ hlt
        rw [← hd.cells] at h1 g1
        have HNEk := Lib.hid (HNE.out k)
        have HOKk : Hid (l.getD k ⟨#[]⟩ = l'.getD k ⟨#[]⟩ → ∀ j, j < k + 1 → l.getD j ⟨#[]⟩ = l'.getD j ⟨#[]⟩) := fun h j hj => by
          rcases Nat.lt_or_ge j k with h1 | h1
          · exact hok.out j h1
          · obtain rfl : j = k := by omega
            exact h
        generalize l.getD k ⟨#[]⟩ = s at *
        generalize l'.getD k ⟨#[]⟩ = t at *
        have h0 : (0 : Int) ≤ (k : Int) := by omega
        have hkn : (k : Int) < (n : Int) := by omega
        cases heq : eqB s t with
        | true =>
          have e1 : (s.toList == t.toList) = true := heq
          have HO := Lib.hid (HOKk.out (eqB_iff.1 heq))
          clear heq HOKk HNEk hok
          go_wp2
          go_quiet (fail)
          go_wp2
          go_roundw
          case rel => exact ⟨k + 1, by omega, by go_num, HO, hd.trans ⟨_, rfl⟩⟩
          case measure => simp [intOf]; omega
        | false =>
          have e1 : (s.toList == t.toList) = false := heq
          have HF := Lib.hid (HNEk.out heq)
          clear heq HOKk HNEk hok
          go_wp2
          go_quiet (fail)
          go_wp2
          go_ret
          exact ⟨ret_bool HF.out.symm, hd.trans ⟨_, rfl⟩⟩
      · have x1 : ¬ (k : Int) < (n : Int) := by omega
        have HT := Lib.hid (HYS.out (HX.out fun j hj => hok.out j (by omega)))
        go_wp2
        go_ret
        exact ⟨ret_bool HT.out.symm, hd⟩
  · have e1 : ((n : Int) == (m : Int)) = false := by rw [beq_eq_false_iff_ne]; omega
    have e2 : ¬ (n : Int) = (m : Int) := by omega
    rw [strs_ne_len (l := l) (l' := l') (by rw [HL.out, HL'.out]; exact hnm)]
    go_enter Try.func56, Try.ntmps56
    go_wp2
    go_ret
    exact ⟨rfl, Drew.refl _⟩

/-- what Write answers. -/
def RetW (w : World) (r : List ByteArray × Int) (e : Ending) (w' : World) : Prop := ∃ v, e = .returned (.tuple #[v, .int .i64 r.2]) ∧ w'.ownsRow w.heap.size 9 1 v r.1.length (strs r.1) ∧ Below w.heap.size w w'
end Go.Proofs.Ytflijnhgonigjaa
