/-
  WALKS: areRight; slices.Clone of spans. Conditions: at most 1000 spans; a crown that may be.
-/
import Derived.Test.YtgdlfiejjnjcpaaGreatHB
import Derived.Test.YtgdlfiejjnjcpaaGreatHC
import Derived.Test.YtgdlfiejjnjcpaaGreatBI
set_option linter.unusedVariables false
set_option linter.unusedSimpArgs false
set_option maxRecDepth 100000
set_option maxHeartbeats 4000000
namespace Go.Proofs.YtgdlfiejjnjcpaaGreat.Dl
open Go.RowKit
open Sl (Turns)
open Kr (crv rightK kf kb kc KBox cells3 I64 inB)

def spB (b : Int) (s : Sp) : Bool := decide (s.at_ + s.len ≤ 120) && (decide (51 ≤ s.st ∧ s.st < b) && decide (51 ≤ s.st + s.len - 1 ∧ s.st + s.len - 1 < b))
theorem rightS_is (b : Int) (l : List Sp) : rightS b l = (rightL none l && l.all (spB b)) := rfl
theorem sps_f {b : Int} {l : List Sp} {k : Nat} (hk : k < l.length) (h : spB b (l.getD k Sp.z) = false) : l.all (spB b) = false := by
  cases hh : l.all (spB b) with
  | false => rfl
  | true =>
    rw [List.all_eq_true] at hh
    have := hh l[k] (List.getElem_mem hk)
    rw [show l[k] = l.getD k Sp.z by simp [List.getD, List.getElem?_eq_getElem hk], h] at this
    cases this
theorem sps_t {b : Int} {l : List Sp} (h : ∀ k, k < l.length → spB b (l.getD k Sp.z) = true) : l.all (spB b) = true := by
  rw [List.all_eq_true]
  intro x hx
  obtain ⟨k, hk, rfl⟩ := List.getElem_of_mem hx
  have := h k hk
  rwa [show l.getD k Sp.z = l[k] by simp [List.getD, List.getElem?_eq_getElem hk]] at this
theorem own_in {f b c x : Int} (hk : rightK f b c = true) (hx : x ≠ 0) : Kr.ownK f b c x = decide (51 ≤ x ∧ x < b) := by
  rw [own_pt hk hx]
  unfold ptOk
  rw [beq_eq_false_iff_ne.2 hx, Bool.false_or, Bool.decide_and]
theorem areright_any (f b u : Int) (A : Option Addr) (n c B : Nat) (l : List Sp) (w : World) (hk : rightK f b u = true) (hr : SpsAt w B A n l) (hB : B ≤ w.heap.size) (hn : n ≤ 100000) :
    Calls Tryz.prog 77 #[crv f b u, .slice A n c] w fun e w' => e = .returned (.bool (rightS b l)) ∧ Below w.heap.size w w' := by
  have HX0 : Hid (KBox (w.alloc (.cells (cells3 f b u) 62)) w.heap.size f b u) := KBox.new _ _ _ _
  have HB0 : Hid (Below w.heap.size w (w.alloc (.cells (cells3 f b u) 62))) := (Below.refl _ _).alloc (Nat.le_refl _) _
  have HL := Lib.hid hr.len
  have HA := Lib.hid hr
  have HO := Lib.hid (fun x W => Kr.owned_any f b u x W)
  have HP := Lib.hid (fun x (hx : x ≠ 0) => own_in (f := f) (b := b) (c := u) hk hx)
  have HB1 := Lib.hid hB
  have HRT := Lib.hid (fun W (hW : Below w.heap.size w W) => Go.Proofs.YtgdlfiejjnjcpaaGreat.right_any A n c B l W (hr.below hW hB) (Nat.le_trans hB hW.size) (by omega))
  rw [rightS_is]
  cases hri : rightL none l with
  | false =>
    rw [hri] at HRT
    simp only [Bool.false_and]
    clear hr hk hB hri
    unfold crv cells3 at *
    go_enter Tryz.func77, Tryz.ntmps77
    go_wp2_with (go_at_call 108; refine (HRT.out _ HB0.out).mono ?_; rintro e w2 ⟨rfl, b2⟩; have HB2 := Lib.hid (HB0.out.trans (b2.mono HB0.out.size)); clear b2)
    go_ret
    exact ⟨rfl, HB2.out⟩
  | true =>
    rw [hri] at HRT
    simp only [Bool.true_and]
    have HIN : Hid (∀ k, k < n → (0 ≤ (l.getD k Sp.z).at_ ∧ (l.getD k Sp.z).at_ < 65536 ∧ 1 ≤ (l.getD k Sp.z).st ∧ (l.getD k Sp.z).st < 65536 ∧ 1 ≤ (l.getD k Sp.z).len ∧ (l.getD k Sp.z).len < 65536 ∧ (l.getD k Sp.z).at_ + (l.getD k Sp.z).len ≤ 65536 ∧ (l.getD k Sp.z).st + (l.getD k Sp.z).len ≤ 65536)) := fun k hk => by
      have hm : l.getD k Sp.z ∈ l := by
        rw [show l.getD k Sp.z = l[k]'(by rw [hr.len]; exact hk) by simp [List.getD, List.getElem?_eq_getElem (show k < l.length by rw [hr.len]; exact hk)]]
        exact List.getElem_mem _
      exact inB_iff.1 (right_mem l none hri _ hm)
    have HSF : Hid (∀ k, k < n → spB b (l.getD k Sp.z) = false → l.all (spB b) = false) := fun k hk => sps_f (by rw [HL.out]; exact hk)
    have HST : Hid ((∀ k, k < n → spB b (l.getD k Sp.z) = true) → l.all (spB b) = true) := fun h => sps_t (by rw [HL.out]; exact h)
    clear hr hk hB hri
    unfold crv cells3 at *
    generalize l.all (spB b) = R at *
    go_enter Tryz.func77, Tryz.ntmps77
    go_wp2_with (go_at_call 108; refine (HRT.out _ HB0.out).mono ?_; rintro e w2 ⟨rfl, b2⟩; have HB2 := Lib.hid (HB0.out.trans (b2.mono HB0.out.size)); have HX2 := Lib.hid (HX0.out.below b2 HX0.out.lt); clear b2)
    go_loopw [6, 12] (fun _ i wr => ∃ k : Nat, k ≤ n ∧ i = .int .i64 (k : Int) ∧ KBox wr w.heap.size f b u ∧ Below w.heap.size w wr ∧ Hid (∀ j, j < k → spB b (l.getD j Sp.z) = true)) (fun _ i _ => n - (intOf i).toNat)
    case atStart => exact ⟨0, by omega, rfl, HX2.out, HB2.out, fun j hj => absurd hj (Nat.not_lt_zero _)⟩
    case round =>
      obtain ⟨k, hk, rfl, hx, hb, hz⟩ := hrel
      by_cases hlt : k < n
      · have hlt2 : (k : Int) < (n : Int) := by omega
        obtain ⟨b', o, rfl, hbB, g1, g2, g3⟩ := (HA.out.below hb HB1.out).at_ hlt
        have hin := HIN.out k hlt
        have HS : Hid (spB b (l.getD k Sp.z) = true → ∀ j, j < k + 1 → spB b (l.getD j Sp.z) = true) := fun ht j hj => by
          by_cases e : j = k
          · subst e; exact ht
          · exact hz.out j (by omega)
        have HF := Lib.hid (HSF.out k hlt)
        generalize l.getD k Sp.z = sp at *
        obtain ⟨sa, ss, sl⟩ := sp
        unfold spB at HS HF
        simp only at g1 g2 g3 HS HF
        obtain ⟨i1, i2, i3, i4, i5, i6, i7, i8⟩ := hin
        simp only at i1 i2 i3 i4 i5 i6 i7 i8
        have hsz := hb.size
        have hxa := hx.below ((Below.refl wr.heap.size wr).alloc (Nat.le_refl _) (.cells #[.int .i64 sa, .int .i64 ss, .int .i64 sl] 85)) hx.lt
        obtain ⟨y0, y1, y2⟩ := hxa.row
        have n1 : (wr.alloc (.cells #[.int .i64 sa, .int .i64 ss, .int .i64 sl] 85)).cell? ⟨wr.heap.size, 0, none⟩ = some (.int .i64 sa) := cell_new wr _ 85 0 rfl
        have n2 : (wr.alloc (.cells #[.int .i64 sa, .int .i64 ss, .int .i64 sl] 85)).cell? ⟨wr.heap.size, 1, none⟩ = some (.int .i64 ss) := cell_new wr _ 85 1 rfl
        have n3 : (wr.alloc (.cells #[.int .i64 sa, .int .i64 ss, .int .i64 sl] 85)).cell? ⟨wr.heap.size, 2, none⟩ = some (.int .i64 sl) := cell_new wr _ 85 2 rfl
        have HXA := Lib.hid hxa
        have HBA := Lib.hid (hb.alloc hsz (.cells #[.int .i64 sa, .int .i64 ss, .int .i64 sl] 85))
        have HP1 := Lib.hid (HP.out ss (by omega))
        have HP2 := Lib.hid (HP.out (ss + sl - 1) (by omega))
        have HOW1 := Lib.hid (HO.out ss (wr.alloc (.cells #[.int .i64 sa, .int .i64 ss, .int .i64 sl] 85)))
        have HOW2 := Lib.hid (HO.out (ss + sl - 1))
        rw [HP1.out] at HOW1
        rw [HP2.out] at HOW2
        have HCL : Hid (∀ W, Below (wr.alloc (.cells #[.int .i64 sa, .int .i64 ss, .int .i64 sl] 85)).heap.size (wr.alloc (.cells #[.int .i64 sa, .int .i64 ss, .int .i64 sl] 85)) W → W.cell? ⟨wr.heap.size, 1, none⟩ = some (.int .i64 ss) ∧ W.cell? ⟨wr.heap.size, 2, none⟩ = some (.int .i64 sl)) := fun W hW => ⟨bcell hW n2 (by simp), bcell hW n3 (by simp)⟩
        clear hx hb hxa
        by_cases c1 : sa + sl ≤ 120
        · have c1' : ¬ sa + sl > 120 := by omega
          by_cases c2 : 51 ≤ ss ∧ ss < b
          · rw [decide_eq_true c2] at HOW1
            by_cases c3 : 51 ≤ ss + sl - 1 ∧ ss + sl - 1 < b
            · rw [decide_eq_true c3] at HOW2
              have HT := Lib.hid (HS.out (by rw [decide_eq_true c1, decide_eq_true c2, decide_eq_true c3]; rfl))
              clear c1 c2 c3 HS HF HSF HP1 HP2
              go_wp2_with (first
                | (go_at_call 46; refine (HOW2.out w3).mono ?_; rintro e w4 ⟨rfl, b4⟩; have HB4 := Lib.hid (HB3.out.trans (b4.mono HB3.out.size)); have HX4 := Lib.hid (HX3.out.below b4 HX3.out.lt); clear b4)
                | (go_at_call 46; refine HOW1.out.mono ?_; rintro e w3 ⟨rfl, b3⟩; have HB3 := Lib.hid (HBA.out.trans (b3.mono HBA.out.size)); have HX3 := Lib.hid (HXA.out.below b3 HXA.out.lt); obtain ⟨m2, m3⟩ := HCL.out w3 b3; clear b3 y0 y1 y2 n1 n2 n3; obtain ⟨y0, y1, y2⟩ := HX3.out.row))
              go_roundw
              case rel => exact ⟨k + 1, by omega, by go_num, HX4.out, HB4.out, HT.out⟩
              case measure => simp [intOf]; omega
            · rw [decide_eq_false c3] at HOW2
              have HT := Lib.hid (HF.out (by rw [decide_eq_true c1, decide_eq_true c2, decide_eq_false c3]; rfl))
              clear c1 c2 c3 HS HF HSF HP1 HP2
              go_wp2_with (first
                | (go_at_call 46; refine (HOW2.out w3).mono ?_; rintro e w4 ⟨rfl, b4⟩; have HB4 := Lib.hid (HB3.out.trans (b4.mono HB3.out.size)); clear b4)
                | (go_at_call 46; refine HOW1.out.mono ?_; rintro e w3 ⟨rfl, b3⟩; have HB3 := Lib.hid (HBA.out.trans (b3.mono HBA.out.size)); have HX3 := Lib.hid (HXA.out.below b3 HXA.out.lt); obtain ⟨m2, m3⟩ := HCL.out w3 b3; clear b3 y0 y1 y2 n1 n2 n3; obtain ⟨y0, y1, y2⟩ := HX3.out.row))
              go_ret
              exact ⟨by rw [HT.out]; rfl, HB4.out⟩
          · rw [decide_eq_false c2] at HOW1
            have HT := Lib.hid (HF.out (by rw [decide_eq_true c1, decide_eq_false c2]; rfl))
            clear c1 c2 HS HF HSF HP1 HP2
            go_wp2_with (go_at_call 46; refine HOW1.out.mono ?_; rintro e w3 ⟨rfl, b3⟩; have HB3 := Lib.hid (HBA.out.trans (b3.mono HBA.out.size)); clear b3 y0 y1 y2 n1 n2 n3)
            go_ret
            exact ⟨by rw [HT.out]; rfl, HB3.out⟩
        · have c1' : sa + sl > 120 := by omega
          have HT := Lib.hid (HF.out (by rw [decide_eq_false c1]; rfl))
          clear c1 HS HF HSF HP1 HP2
          go_wp2
          go_ret
          exact ⟨by rw [HT.out]; rfl, HBA.out⟩
      · have hlt2 : ¬ (k : Int) < (n : Int) := by omega
        have hkn : k = n := by omega
        subst hkn
        have HT := Lib.hid (HST.out hz.out)
        have HBW := Lib.hid hb
        clear hx hb hz
        go_wp2
        go_ret
        exact ⟨by rw [HT.out]; rfl, HBW.out⟩

/-! ### slices.Clone of spans -/
theorem sps_cell {w : World} {B b o n : Nat} {l : List Sp} (h : SpsAt w B (some ⟨b, o, none⟩) n l) {j : Nat} {u : Value} (hj : (spsCells l)[j]? = some u) : w.cell? ⟨b, o + j, none⟩ = some u := by
  have hlt : j < (spsCells l).length := (List.getElem?_eq_some_iff.1 hj).1
  rw [spsCells_len] at hlt
  obtain ⟨k, r, hr, rfl⟩ : ∃ k r, r < 3 ∧ j = k * 3 + r := ⟨j / 3, j % 3, by omega, by omega⟩
  have hk : k < l.length := by omega
  obtain ⟨b', o', e, _, g1, g2, g3⟩ := h.at_ (k := k) (by rw [← h.len]; exact hk)
  injection e with e
  injection e with e1 e2
  subst e1
  subst e2
  obtain ⟨c1, c2, c3⟩ := spsCells_at l k hk
  rcases (show r = 0 ∨ r = 1 ∨ r = 2 by omega) with rfl | rfl | rfl
  · rw [Nat.add_zero] at hj ⊢
    rw [c1] at hj
    exact g1.trans hj
  · rw [c2] at hj
    rw [← Nat.add_assoc]
    exact g2.trans hj
  · rw [c3] at hj
    rw [← Nat.add_assoc]
    exact g3.trans hj
theorem sps_one (l : List Sp) : ∀ u ∈ spsCells l, u.oneCell' = true := by
  intro u hu
  unfold spsCells at hu
  obtain ⟨s, _, hu⟩ := List.mem_flatMap.1 hu
  exact one_sp s u hu
/-- append of a list of spans that lies in any memory. -/
theorem joinS_law {ops : Array Oper} {rest : List Oper} {o : Oper} {a : Act} {Q : Exit → Act → World → Prop} (hgd : o.guard = none) (s x : Operand)
    (ho : o.op = .call { callee := .builtin .append, args := #[s, x], argTypes := #[28, 28] })
    (base : Nat) (W : World) (v : Value) (l : List Sp) (hs : a.eval s = v) (B : Nat) (A : Option Addr) (m c : Nat) (l2 : List Sp) (hx : a.eval x = .slice A m c)
    (hown : W.ownsRow base 85 3 v l.length (spsCells l)) (hA : SpsAt W B A m l2) (hl : l.length + m ≤ 100000) (hbase : base ≤ W.heap.size)
    (h : ∀ v' w', w'.ownsRow base 85 3 v' (l ++ l2).length (spsCells (l ++ l2)) → W.grownBy w' v.ownBlock → Below base W w' → wpList Tryz.prog ops Q rest (a.put o.dst v') w') :
    wpList Tryz.prog ops Q (o :: rest) a W := by
  obtain ⟨i0, hi, hz0, hz1, hz2⟩ := info_parts info48
  cases A with
  | none =>
    have hm : m = 0 := by
      rcases Nat.eq_zero_or_pos m with h0 | h0
      · exact h0
      · obtain ⟨b, o, e, _⟩ := hA.at_ h0; cases e
    subst hm
    have hl2 : l2 = [] := List.eq_nil_of_length_eq_zero hA.len
    subst hl2
    refine wpList_plain hgd fun K hK => ?_
    have hrun := run_append_of_nil (P := Tryz.prog) W base 28 o.type 85 i0 3 Tryz.underlying28 hi v l.length (spsCells l) hown c
    unfold Oper.wp
    simp [execOp, ho, resolve, invoke, builtin, hs, hx, hrun, Result.andThen]
    exact hK _ _ (h v W (by rw [List.append_nil]; exact hown) ⟨rfl, rfl, rfl, Nat.le_refl _, fun _ _ _ => rfl⟩ (Below.refl _ _))
  | some ad =>
    rcases Nat.eq_zero_or_pos m with h0 | h0
    · subst h0
      have hl2 : l2 = [] := List.eq_nil_of_length_eq_zero hA.len
      subst hl2
      refine wpList_append_own _ hgd s x 28 ho base 85 i0 _ 3 24 Tryz.underlying28 hi hz0 hz1 hz2 rfl (by decide) v l.length (spsCells l) hs hown ad 0 c [] hx rfl
        (fun j u hj => by cases hj) (fun u hu => by cases hu) (by unfold maxLen; omega) (by omega) hbase ?_
      intro v' w' hown' hg _
      refine h v' w' ?_ hg ((Below.refl base W).grown hg hbase (fun k hk => (hown.lt k hk).1))
      rw [List.append_nil] at hown' ⊢
      exact hown'
    · obtain ⟨b, o, e1, _⟩ := hA.at_ h0
      injection e1 with e1
      subst e1
      refine wpList_append_own _ hgd s x 28 ho base 85 i0 _ 3 24 Tryz.underlying28 hi hz0 hz1 hz2 rfl (by decide) v l.length (spsCells l) hs hown ⟨b, o, none⟩ m c (spsCells l2) hx (by rw [spsCells_len, hA.len])
        ?_ (sps_one l2) (by unfold maxLen; omega) (by omega) hbase ?_
      · intro j u hj
        rw [Go.WideShapes.add_plain]
        exact sps_cell hA hj
      · intro v' w' hown' hg _
        refine h v' w' ?_ hg ((Below.refl base W).grown hg hbase (fun k hk => (hown.lt k hk).1))
        rw [show spsCells (l ++ l2) = spsCells l ++ spsCells l2 by simp [spsCells], List.length_append, hA.len]
        exact hown'
/-- an answer that is a row of spans of the call's own. -/
def RetSpO (w : World) (l : List Sp) (e : Ending) (w' : World) : Prop := ∃ v, e = .returned v ∧ w'.ownsRow w.heap.size 85 3 v l.length (spsCells l) ∧ Below w.heap.size w w'
theorem cloneS_any (A : Option Addr) (n c B : Nat) (l : List Sp) (w : World) (hA : SpsAt w B A n l) (hB : B ≤ w.heap.size) (hn : n ≤ 1000) :
    Calls Tryz.prog 74 #[.slice A n c] w (RetSpO w l) := by
  have q22 : ∀ (w : World) (a : Option Addr) (n c n' c' : Nat), (binOp .eql 28 (.slice a n c) (.slice none n' c')).run Tryz.prog w = .ok (.bool a.isNone) w := fun w a n c n' c' => Lib.run_eql_slice_nil w _ _ a n c n' c' Tryz.underlying28
  have HN := Lib.hid hA.len
  have HA : Hid (∀ v, Below w.heap.size w v → SpsAt v B A n l) := fun v hv => hA.below hv hB
  have HOW : Hid ((w.alloc (.cells #[] 85)).ownsRow w.heap.size 85 3 (.slice (some ⟨w.heap.size, 0, none⟩) 0 0) 0 (spsCells [])) := World.ownsRow_made w #[] 0 (Nat.le_refl _) (Nat.zero_le _) rfl
  cases A with
  | none =>
    have hl : l = [] := by
      rcases Nat.eq_zero_or_pos n with h0 | h0
      · exact List.eq_nil_of_length_eq_zero (by rw [hA.len, h0])
      · obtain ⟨b, o, e, _⟩ := hA.at_ h0; cases e
    subst hl
    clear hA
    go_enter Tryz.func74, Tryz.ntmps74
    go_wp2
    go_ret
    exact ⟨_, rfl, World.ownsRow_nil _ _ _ _, Below.refl _ _⟩
  | some ad =>
    clear hA
    go_enter Tryz.func74, Tryz.ntmps74
    go_wp2_with (at_builtin; refine joinS_law rfl (.tmp 5) (.tmp 6) rfl w.heap.size _ _ [] rfl B (some ad) n c l rfl HOW.out (HA.out _ ((Below.refl _ _).alloc (Nat.le_refl _) _)) (by simp; omega) (by simp) ?_)
    intro v' w' ho _ hb
    obtain ⟨A6, c6, rfl, -⟩ := own_sps ho
    have HO := Lib.hid ho
    have HB := Lib.hid (((Below.refl w.heap.size w).alloc (Nat.le_refl _) (.cells #[] 85)).trans hb)
    clear ho hb HOW HA
    generalize hm : l.length = m at *
    have HM := Lib.hid hm
    clear hm
    go_wp2
    go_ret
    refine ⟨_, rfl, ?_, HB.out⟩
    rw [HM.out]
    exact HO.out
end Go.Proofs.YtgdlfiejjnjcpaaGreat.Dl
