/-
  WALK: Of. Conditions: at most 65536 elements.
-/
import Derived.Test.YtgdlfiejjnjcpaaGreatBI
import Derived.OwnWalk
namespace Go.Proofs.YtgdlfiejjnjcpaaGreat
open Go.RowKit

set_option maxRecDepth 100000 in
theorem info38 : (Tryz.prog.info? 85).map (fun i => (i.zero, i.size, i.bytes)) = some (some (.agg #[.int .i64 0, .int .i64 0, .int .i64 0]), 3, 24) := by kernel_rfl
set_option maxRecDepth 100000 in
theorem own_sliceE {w : World} {base n : Nat} {v : Value} {xs : List Value} {e : TypeId} {sz : Nat} (h : w.ownsRow base e sz v n xs) : ∃ A c, v = .slice A n c ∧ n ≤ c := by
  rcases h.2 with ⟨rfl, rfl⟩ | ⟨g, cap, cur, rfl, _, _, hc, _⟩
  · exact ⟨none, 0, rfl, Nat.le_refl _⟩
  · exact ⟨_, _, rfl, hc⟩
set_option maxRecDepth 100000 in
theorem step_len (acc : List Sp) (s : Sp) : (push acc s).length ≤ acc.length + 1 := by
  rcases snoc_cases acc with rfl | ⟨r, a, rfl⟩
  · simp [push]
  · rw [push_snoc]; split <;> simp
set_option maxRecDepth 100000 in
theorem ofN_len (zs : List Int) : ∀ k, (ofN zs k).length ≤ k
  | 0 => by simp [ofN]
  | k + 1 => by
    have := ofN_len zs k
    simp only [ofN, stepOf]
    split
    · omega
    · have := step_len (ofN zs k) ⟨k, zs.getD k 0, 1⟩; omega
set_option maxRecDepth 100000 in
theorem ofN_small (zs : List Int) (k : Nat) (hk : k ≤ 65536) : ∀ s ∈ ofN zs k, s.small := fun s hs => by
  have := (inv_of zs k hk).all s hs
  unfold Sp.small
  omega

set_option maxRecDepth 100000 in
theorem undrew {w w' : World} (b : Below w.drew.heap.size w.drew w') : Below w.heap.size w w' := ⟨b.os, b.tape, b.output, b.size, b.block⟩
set_option maxRecDepth 100000 in
/-- the last span of a row of one's own: where it lies. -/
theorem own_last {w : World} {base : Nat} {v : Value} {r : List Sp} {a : Sp} (h : w.ownsRow base 85 3 v (r ++ [a]).length (spsCells (r ++ [a]))) :
    ∃ g cap, v = .slice (some ⟨g, 0, none⟩) (r.length + 1) cap ∧ base ≤ g ∧ g < w.heap.size ∧ w.cell? ⟨g, r.length * 3, none⟩ = some (.int .i64 a.at_) ∧ w.cell? ⟨g, r.length * 3 + 1, none⟩ = some (.int .i64 a.st) ∧ w.cell? ⟨g, r.length * 3 + 2, none⟩ = some (.int .i64 a.len) := by
  have hl : (r ++ [a]).length = r.length + 1 := by simp
  have hc := spsCells_at (r ++ [a]) r.length (by omega)
  rw [snoc_get] at hc
  rw [hl] at h
  obtain ⟨g, cap, rfl, hbg, hlt⟩ := h.form (by omega)
  refine ⟨g, cap, rfl, hbg, hlt, ?_, ?_, ?_⟩
  · rw [h.cellAt _ (by omega)]; exact hc.1
  · rw [h.cellAt _ (by omega)]; exact hc.2.1
  · rw [h.cellAt _ (by omega)]; exact hc.2.2
set_option maxRecDepth 100000 in
theorem own_grow {w : World} {base g cap : Nat} {r : List Sp} {a : Sp} {x : Int} (h : w.ownsRow base 85 3 (.slice (some ⟨g, 0, none⟩) (r.length + 1) cap) (r.length + 1) (spsCells (r ++ [a]))) :
    (w.setCell ⟨g, r.length * 3 + 2, none⟩ (.int .i64 x)).ownsRow base 85 3 (.slice (some ⟨g, 0, none⟩) (r.length + 1) cap) (r.length + 1) (spsCells (r ++ [⟨a.at_, a.st, x⟩])) := by
  have := h.stored (r.length * 3 + 2) (.int .i64 x)
  rw [spsCells_last] at this
  exact this.1

set_option maxRecDepth 100000 in
/-- 'append(l, s)' of spans, at the list of a plain region's operations. -/
theorem push_law {ops : Array Oper} {rest : List Oper} {o : Oper} {a : Act} {Q : Exit → Act → World → Prop} (hgd : o.guard = none) (s x : Operand)
    (ho : o.op = .call { callee := .builtin .append, args := #[s, x], argTypes := #[28, 28] })
    (base : Nat) (W : World) (v : Value) (l : List Sp) (sp : Sp) (hs : a.eval s = v) (hx : a.eval x = .slice (some ⟨W.heap.size, 0, none⟩) 1 1)
    (hown : W.ownsRow base 85 3 v l.length (spsCells l)) (hl : l.length ≤ 100000) (hbase : base ≤ W.heap.size)
    (h : ∀ v' w', w'.ownsRow base 85 3 v' (l ++ [sp]).length (spsCells (l ++ [sp])) → Below base W w' → wpList Tryz.prog ops Q rest (a.put o.dst v') w') :
    wpList Tryz.prog ops Q (o :: rest) a (W.alloc (.cells #[.int .i64 sp.at_, .int .i64 sp.st, .int .i64 sp.len] 85)) := by
  obtain ⟨i0, hi, hz0, hz1, hz2⟩ := info_parts info38
  refine wpList_append_own _ hgd s x 28 ho base 85 i0 _ 3 24 Tryz.underlying28 hi hz0 hz1 hz2 rfl (by decide) v l.length (spsCells l) hs (hown.alloc _) ⟨W.heap.size, 0, none⟩ 1 1 (spCells sp) hx rfl
    (World.news_of_block (heap_alloc_new W _)) (one_sp sp) (by unfold maxLen; omega) (by omega) (by simp; omega) ?_
  intro v' w' hown' hg _
  refine h v' w' ?_ ?_
  · rw [spsCells_snoc, List.length_append]; exact hown'
  · exact (((Below.refl base W).alloc hbase _).grown hg (by simp; omega) (fun k hk => (hown.lt k hk).1))

/-- an answer that is a row of spans of the call's own. -/
def RetSpsO (w : World) (l : List Sp) (e : Ending) (w' : World) : Prop := ∃ v, e = .returned v ∧ w'.ownsRow w.heap.size 85 3 v l.length (spsCells l) ∧ (∀ s ∈ l, s.small) ∧ Below w.heap.size w w'
set_option maxRecDepth 100000 in
set_option maxHeartbeats 4000000 in
theorem of_any (A : Option Addr) (n c B : Nat) (zs : List Int) (w : World) (hA : IntsAt w B A n zs) (hB : B ≤ w.heap.size) (hnc : n ≤ c) (hn : n ≤ 65536) :
    Calls Tryz.prog 37 #[.slice A n c] w (RetSpsO w (ofR zs)) := by
  have hn2 : ¬ (65536 : Int) < (n : Int) := by omega
  have HL := Lib.hid hA.len
  have HA := Lib.hid hA
  have HR : Hid (ofR zs = ofN zs n) := by show _ = _; unfold ofR; rw [HL.out, Nat.min_eq_left hn]
  clear hA
  go_enter Tryz.func37, Tryz.ntmps37
  go_wp2
  go_loopw [3, 4, 5, 6, 7, 14] (fun v _ _ _ _ j wr => ∃ k : Nat, k ≤ n ∧ j = .int .i64 (k : Int) ∧ wr.ownsRow w.heap.size 85 3 v (ofN zs k).length (spsCells (ofN zs k)) ∧ Below w.heap.size w wr) (fun _ _ _ _ _ j _ => n - (intOf j).toNat)
  case atStart => exact ⟨0, by omega, rfl, World.ownsRow_nil _ _ _ _, Below.refl _ _⟩
  case round =>
    obtain ⟨k, hk, rfl, hown, hb⟩ := hrel
    have hlen := ofN_len zs k
    obtain ⟨A', c', rfl, hc'⟩ := own_sliceE hown
    by_cases hlt : k < n
    · obtain ⟨b, o, rfl, hbB, h1⟩ := HA.out.at_ hlt
      have hbl : b < w.heap.size := by omega
      have c1 := bcell hb h1 hbl
      have hws := hb.size
      have HOWN := Lib.hid hown
      have HB := Lib.hid hb
      have HST : Hid (ofN zs (k + 1) = stepOf (ofN zs k) k (zs.getD k 0)) := by show _ = _; rfl
      have hsm := ofN_small zs k (by omega)
      generalize zs.getD k 0 = z at *
      clear h1 hown hb
      by_cases hz : norm z = 0
      · have HE : Hid (ofN zs (k + 1) = ofN zs k) := by show _ = _; rw [HST.out]; unfold stepOf; rw [if_pos hz]
        have hz' : z < 1 ∨ 65536 ≤ z := by unfold norm at hz; split at hz <;> omega
        clear hz HST hsm
        generalize hLd : (ofN zs k).length = m at *
        have HLd := Lib.hid hLd
        clear hLd
        by_cases q1 : z < 1
        · have d1 : decide (z < 1) = true := by simpa using q1
          clear q1 hz'
          go_wp2
          go_roundw
          case rel => exact ⟨k + 1, by omega, by go_num, by rw [HE.out, HLd.out]; exact HOWN.out, HB.out⟩
          case measure => simp [intOf]; omega
        · have d1 : decide (z < 1) = false := by simpa using q1
          have d2 : decide (65536 ≤ z) = true := by simp; omega
          clear q1 hz'
          go_wp2
          go_roundw
          case rel => exact ⟨k + 1, by omega, by go_num, by rw [HE.out, HLd.out]; exact HOWN.out, HB.out⟩
          case measure => simp [intOf]; omega
      · obtain ⟨-, q1, q2⟩ := norm_id hz
        have HE : Hid (ofN zs (k + 1) = push (ofN zs k) ⟨k, z, 1⟩) := by show _ = _; rw [HST.out]; unfold stepOf; rw [if_neg hz]
        have d1 : decide (z < 1) = false := by simp; omega
        have d2 : decide (65536 ≤ z) = false := by simp; omega
        clear hz HST
        rcases snoc_cases (ofN zs k) with hL | ⟨r, a, hL⟩
        · rw [hL] at HE HOWN hlen hsm
          rw [hL]
          clear hL
          simp only [List.length_nil] at *
          have g1 : decide ((0 : Int) ≤ -1) = false := by simp
          have HNEW : Hid (push [] ⟨(k : Int), z, 1⟩ = [⟨(k : Int), z, 1⟩]) := by show _ = _; rfl
          go_wp2
          go_quiet (fail)
          have n1 : ((wr.alloc (.cells #[.int .i64 (k : Int), .int .i64 z, .int .i64 1] 85)).drewN nq).cell? ⟨wr.heap.size, 0, none⟩ = some (.int .i64 (k : Int)) := cell_new wr _ 85 0 rfl
          have n2 : ((wr.alloc (.cells #[.int .i64 (k : Int), .int .i64 z, .int .i64 1] 85)).drewN nq).cell? ⟨wr.heap.size, 1, none⟩ = some (.int .i64 z) := cell_new wr _ 85 1 rfl
          have n3 : ((wr.alloc (.cells #[.int .i64 (k : Int), .int .i64 z, .int .i64 1] 85)).drewN nq).cell? ⟨wr.heap.size, 2, none⟩ = some (.int .i64 1) := cell_new wr _ 85 2 rfl
          have HO2 : Hid (((wr.alloc (.cells #[.int .i64 (k : Int), .int .i64 z, .int .i64 1] 85)).drewN nq).ownsRow w.heap.size 85 3 (.slice A' 0 c') 0 (spsCells [])) := HOWN.out.alloc _
          have HB2 : Hid (Below w.heap.size w ((wr.alloc (.cells #[.int .i64 (k : Int), .int .i64 z, .int .i64 1] 85)).drewN nq)) := Below.drews (HB.out.alloc hws _) ⟨nq, rfl⟩
          generalize (wr.alloc (.cells #[.int .i64 (k : Int), .int .i64 z, .int .i64 1] 85)).drewN nq = W2 at *
          go_wp2_with (at_builtin; refine push_law rfl (.tmp 49) (.tmp 51) rfl w.heap.size W2 (.slice A' 0 c') [] ⟨(k : Int), z, 1⟩ rfl rfl HO2.out (by simp) HB2.out.size ?_; intro v' w3 hown3 hb3)
          go_roundw
          case rel => exact ⟨k + 1, by omega, by go_num, by rw [HE.out, HNEW.out]; exact hown3, HB2.out.trans hb3⟩
          case measure => simp [intOf]; omega
        · rw [hL] at HE HOWN hlen hsm
          rw [hL]
          clear hL
          obtain ⟨g, cap, e0, hbg, hgl, l1, l2, l3⟩ := own_last HOWN.out
          have asm := hsm a (by simp)
          have hlen2 : (r ++ [a]).length = r.length + 1 := by simp
          rw [hlen2] at hlen HOWN e0
          rw [hlen2]
          cases e0
          have HPS := Lib.hid (push_snoc r a ⟨(k : Int), z, 1⟩)
          have HO1 : Hid ((wr.alloc (.cells #[.int .i64 (k : Int), .int .i64 z, .int .i64 1] 85)).ownsRow w.heap.size 85 3 (.slice (some ⟨g, 0, none⟩) (r.length + 1) c') (r.length + 1) (spsCells (r ++ [a]))) := HOWN.out.alloc _
          have HB1 : Hid (Below w.heap.size w (wr.alloc (.cells #[.int .i64 (k : Int), .int .i64 z, .int .i64 1] 85))) := HB.out.alloc hws _
          have n1 : (wr.alloc (.cells #[.int .i64 (k : Int), .int .i64 z, .int .i64 1] 85)).cell? ⟨wr.heap.size, 0, none⟩ = some (.int .i64 (k : Int)) := cell_new wr _ 85 0 rfl
          have n2 : (wr.alloc (.cells #[.int .i64 (k : Int), .int .i64 z, .int .i64 1] 85)).cell? ⟨wr.heap.size, 1, none⟩ = some (.int .i64 z) := cell_new wr _ 85 1 rfl
          have n3 : (wr.alloc (.cells #[.int .i64 (k : Int), .int .i64 z, .int .i64 1] 85)).cell? ⟨wr.heap.size, 2, none⟩ = some (.int .i64 1) := cell_new wr _ 85 2 rfl
          have m1 := (World.cell?_alloc_lt wr (.cells #[.int .i64 (k : Int), .int .i64 z, .int .i64 1] 85) ⟨g, r.length * 3, none⟩ hgl).trans l1
          have m2 := (World.cell?_alloc_lt wr (.cells #[.int .i64 (k : Int), .int .i64 z, .int .i64 1] 85) ⟨g, r.length * 3 + 1, none⟩ hgl).trans l2
          have m3 := (World.cell?_alloc_lt wr (.cells #[.int .i64 (k : Int), .int .i64 z, .int .i64 1] 85) ⟨g, r.length * 3 + 2, none⟩ hgl).trans l3
          have hz1 : (wr.alloc (.cells #[.int .i64 (k : Int), .int .i64 z, .int .i64 1] 85)).heap.size = wr.heap.size + 1 := by simp
          cases hj : joinsB a ⟨(k : Int), z, 1⟩ with
          | true =>
            have HJ := Lib.hid (fun w => joins_is true a ⟨(k : Int), z, 1⟩ w asm hj)
            have HNEW : Hid (ofN zs (k + 1) = r ++ [⟨a.at_, a.st, a.len + 1⟩]) := by show _ = _; rw [HE.out, HPS.out, if_pos hj]
            have HZ1 := Lib.hid hz1
            obtain ⟨asm1, asm2, asm3⟩ := asm
            obtain ⟨aa, ap, al⟩ := a
            simp only at m1 m2 m3 asm1 asm2 asm3
            clear hj hsm HE HPS hlen2 HOWN HB hws l1 l2 l3 hz1
            generalize hm : r.length = m at *
            have HM := Lib.hid hm
            clear hm
            go_wp2_with fail
            have x1 : (0 : Int) ≤ (m : Int) := by omega
            have x2 : (m : Int) < (m : Int) + 1 := by omega
            have x3 : IntKind.i64.wrap (m : Int) = (m : Int) := IntWalk.i64_in _ (by omega)
            go_region_held3 (fun w' => w'.cell? ⟨wr.heap.size, 0, none⟩ = some (.int .i64 (k : Int)) ∧ w'.cell? ⟨wr.heap.size, 1, none⟩ = some (.int .i64 z) ∧ w'.cell? ⟨wr.heap.size, 2, none⟩ = some (.int .i64 1) ∧ w'.cell? ⟨g, m * 3, none⟩ = some (.int .i64 aa) ∧ w'.cell? ⟨g, m * 3 + 1, none⟩ = some (.int .i64 ap) ∧ w'.cell? ⟨g, m * 3 + 2, none⟩ = some (.int .i64 al))
              (first | exact ⟨n1, n2, n3, m1, m2, m3⟩ | exact ⟨n1', n2', n3', m1', m2', m3'⟩)
              (first
                | (go_at_call 66
                   go_fit (HJ.out _)
                   rintro e w3 ⟨rfl, b3'⟩
                   have b3 := undrew b3'
                   clear b3'
                   have n1' := bcell b3 (a := ⟨wr.heap.size, 0, none⟩) n1 (by simp)
                   have n2' := bcell b3 (a := ⟨wr.heap.size, 1, none⟩) n2 (by simp)
                   have n3' := bcell b3 (a := ⟨wr.heap.size, 2, none⟩) n3 (by simp)
                   have m1' := bcell b3 (a := ⟨g, m * 3, none⟩) m1 (by simp; omega)
                   have m2' := bcell b3 (a := ⟨g, m * 3 + 1, none⟩) m2 (by simp; omega)
                   have m3' := bcell b3 (a := ⟨g, m * 3 + 2, none⟩) m3 (by simp; omega)
                   have HO3 := Lib.hid (own_below HO1.out b3 (Nat.le_refl _))
                   have HB3 : Hid (Below w.heap.size w w3) := HB1.out.trans (b3.mono HB1.out.size)
                   clear b3))
            clear x1 x2 x3 n1 n2 n3 m1 m2 m3 HJ
            have fz := HO3.out.frozenAt (m * 3 + 2)
            rw [← HM.out] at HO3
            have HO4 := Lib.hid (own_grow (x := al + 1) HO3.out)
            rw [HM.out] at HO4
            have HB4 : Hid (Below w.heap.size w (w3.setCell ⟨g, m * 3 + 2, none⟩ (.int .i64 (al + 1)))) := HB3.out.setCell hbg _
            have HLE : Hid ((r ++ [(⟨aa, ap, al + 1⟩ : Sp)]).length = m + 1) := by show _ = _; rw [← HM.out]; simp
            clear HO3
            go_wp2
            go_roundw
            case rel => exact ⟨k + 1, by omega, by go_num, by rw [HNEW.out, HLE.out]; exact HO4.out, HB4.out⟩
            case measure => simp [intOf]; omega
          | false =>
            have HJ := Lib.hid (fun w => joins_is false a ⟨(k : Int), z, 1⟩ w asm hj)
            have HNEW : Hid (ofN zs (k + 1) = (r ++ [a]) ++ [⟨(k : Int), z, 1⟩]) := by show _ = _; rw [HE.out, HPS.out, if_neg (by rw [hj]; decide)]; simp
            have HZ1 := Lib.hid hz1
            obtain ⟨asm1, asm2, asm3⟩ := asm
            obtain ⟨aa, ap, al⟩ := a
            simp only at m1 m2 m3 asm1 asm2 asm3
            clear hj hsm HE HPS hlen2 HOWN HB hws l1 l2 l3 hz1
            generalize hm : r.length = m at *
            have HM := Lib.hid hm
            clear hm
            go_wp2_with fail
            have x1 : (0 : Int) ≤ (m : Int) := by omega
            have x2 : (m : Int) < (m : Int) + 1 := by omega
            have x3 : IntKind.i64.wrap (m : Int) = (m : Int) := IntWalk.i64_in _ (by omega)
            go_region_held3 (fun w' => w'.cell? ⟨wr.heap.size, 0, none⟩ = some (.int .i64 (k : Int)) ∧ w'.cell? ⟨wr.heap.size, 1, none⟩ = some (.int .i64 z) ∧ w'.cell? ⟨wr.heap.size, 2, none⟩ = some (.int .i64 1) ∧ w'.cell? ⟨g, m * 3, none⟩ = some (.int .i64 aa) ∧ w'.cell? ⟨g, m * 3 + 1, none⟩ = some (.int .i64 ap) ∧ w'.cell? ⟨g, m * 3 + 2, none⟩ = some (.int .i64 al))
              (first | exact ⟨n1, n2, n3, m1, m2, m3⟩ | exact ⟨n1', n2', n3', m1', m2', m3'⟩)
              (first
                | (go_at_call 66
                   go_fit (HJ.out _)
                   rintro e w3 ⟨rfl, b3'⟩
                   have b3 := undrew b3'
                   clear b3'
                   have n1' := bcell b3 (a := ⟨wr.heap.size, 0, none⟩) n1 (by simp)
                   have n2' := bcell b3 (a := ⟨wr.heap.size, 1, none⟩) n2 (by simp)
                   have n3' := bcell b3 (a := ⟨wr.heap.size, 2, none⟩) n3 (by simp)
                   have m1' := bcell b3 (a := ⟨g, m * 3, none⟩) m1 (by simp; omega)
                   have m2' := bcell b3 (a := ⟨g, m * 3 + 1, none⟩) m2 (by simp; omega)
                   have m3' := bcell b3 (a := ⟨g, m * 3 + 2, none⟩) m3 (by simp; omega)
                   have HO3 := Lib.hid (own_below HO1.out b3 (Nat.le_refl _))
                   have HB3 : Hid (Below w.heap.size w w3) := HB1.out.trans (b3.mono HB1.out.size)
                   clear b3))
            clear x1 x2 x3 n1 n2 n3 m1 m2 m3 HJ
            have HLE : Hid ((r ++ [(⟨aa, ap, al⟩ : Sp)]).length = m + 1) := by show _ = _; rw [← HM.out]; simp
            go_wp2_with (at_builtin; refine push_law rfl (.tmp 49) (.tmp 51) rfl w.heap.size w3 (.slice (some ⟨g, 0, none⟩) (m + 1) c') (r ++ [⟨aa, ap, al⟩]) ⟨(k : Int), z, 1⟩ rfl rfl (by rw [HLE.out]; exact HO3.out) (by rw [HLE.out]; omega) HB3.out.size ?_; intro v' w4 hown4 hb4)
            go_roundw
            case rel => exact ⟨k + 1, by omega, by go_num, by rw [HNEW.out]; exact hown4, HB3.out.trans hb4⟩
            case measure => simp [intOf]; omega
    · have hNk : n = k := by omega
      have HE : Hid (ofR zs = ofN zs k) := by show _ = _; rw [HR.out, hNk]
      have hsm := ofN_small zs k (by omega)
      clear hNk HR
      have hfin : RetSpsO w (ofR zs) (.returned (.slice A' (ofN zs k).length c')) wr := by
        rw [HE.out]
        exact ⟨_, rfl, hown, hsm, hb⟩
      have HF := Lib.hid hfin
      clear hfin
      go_wp2
      go_ret
      exact HF.out
end Go.Proofs.YtgdlfiejjnjcpaaGreat
