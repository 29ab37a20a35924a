/-
  WALKS: Same and the reference's Same tell whether two cards are one. Conditions: the lists have as many elements as an int64 counts.
-/
import Derived.Test.YtgdlfiejjnjcpaaGreatBC
import Derived.ChangeKeysEq
namespace Go.Proofs.YtgdlfiejjnjcpaaGreat
open Go.RowKit

set_option maxRecDepth 100000 in
theorem flag (p : Prop) : ∃ R : Bool, R = true ↔ p := by
  rcases Classical.em p with h | h
  · exact ⟨true, by simp [h]⟩
  · exact ⟨false, by simp [h]⟩

abbrev nums7 (c : Cd) : Value := .agg #[.int .i64 c.fm, .int .i64 c.kd, .int .i64 c.ln, .int .i64 c.sz, .int .i64 c.sg, .int .i64 c.db, .int .i64 c.ov]
set_option maxRecDepth 100000 in
theorem cellsOf3 : Tryz.prog.cellsOf 3 = 1 := by kernel_rfl
set_option maxRecDepth 100000 in
theorem nums_eq (a b : Cd) (N : Bool) (h : N = true ↔ (a.fm = b.fm ∧ a.kd = b.kd ∧ a.ln = b.ln ∧ a.sz = b.sz ∧ a.sg = b.sg ∧ a.db = b.db ∧ a.ov = b.ov)) (w : World) :
    (Op.equalIn 10000 171 (nums7 a) (nums7 b)).run Tryz.prog w = .ok N w := by
  obtain ⟨i0, hi, hz0, hz1, hz2⟩ := info_parts Tryz.info3
  obtain ⟨a0, a1, a2, a3, a4, a5, a6, a7, a8⟩ := a
  obtain ⟨b0, b1, b2, b3, b4, b5, b6, b7, b8⟩ := b
  simp only at h ⊢
  rw [run_equalIn_array w 9999 _ _ Tryz.underlying171 hi, cellsOf3]
  simp only [List.range, List.range.loop, Op.eqItems]
  by_cases e0 : a0 = b0
  · by_cases e1 : a1 = b1
    · by_cases e2 : a2 = b2
      · by_cases e3 : a3 = b3
        · by_cases e5 : a5 = b5
          · by_cases e6 : a6 = b6
            · by_cases e8 : a8 = b8
              · have : N = true := h.2 ⟨e0, e1, e2, e3, e5, e6, e8⟩
                subst e0 e1 e2 e3 e5 e6 e8 this
                simp [go_sem]
              · have hN : N = false := by
                  cases N with
                  | false => rfl
                  | true => exact absurd (h.1 rfl).2.2.2.2.2.2 e8
                subst e0 e1 e2 e3 e5 e6
                subst hN
                simp [go_sem, e8]
            · have hN : N = false := by
                cases N with
                | false => rfl
                | true => exact absurd (h.1 rfl).2.2.2.2.2.1 e6
              subst e0 e1 e2 e3 e5
              subst hN
              simp [go_sem, e6]
          · have hN : N = false := by
              cases N with
              | false => rfl
              | true => exact absurd (h.1 rfl).2.2.2.2.1 e5
            subst e0 e1 e2 e3
            subst hN
            simp [go_sem, e5]
        · have hN : N = false := by
            cases N with
            | false => rfl
            | true => exact absurd (h.1 rfl).2.2.2.1 e3
          subst e0 e1 e2
          subst hN
          simp [go_sem, e3]
      · have hN : N = false := by
          cases N with
          | false => rfl
          | true => exact absurd (h.1 rfl).2.2.1 e2
        subst e0 e1
        subst hN
        simp [go_sem, e2]
    · have hN : N = false := by
        cases N with
        | false => rfl
        | true => exact absurd (h.1 rfl).2.1 e1
      subst e0
      subst hN
      simp [go_sem, e1]
  · have hN : N = false := by
      cases N with
      | false => rfl
      | true => exact absurd (h.1 rfl).1 e0
    subst hN
    simp [go_sem, e0]

set_option maxRecDepth 100000 in
theorem and_box {v : World} {g h : Nat} {a b : Cd} {A : Option Addr} {n k : Nat} {A' : Option Addr} {n' k' : Nat} {C : Option Addr} {m l : Nat} {C' : Option Addr} {m' l' : Nat}
    (h1 : CdRow v g a A n k A' n' k') (h2 : CdRow v h b C m l C' m' l') :
    v.cell? ⟨g, 0, none⟩ = some (.int .i64 a.fm) ∧ v.cell? ⟨g, 1, none⟩ = some (.int .i64 a.kd) ∧ v.cell? ⟨g, 2, none⟩ = some (.int .i64 a.ln) ∧ v.cell? ⟨g, 3, none⟩ = some (.int .i64 a.sz) ∧ v.cell? ⟨g, 4, none⟩ = some (.slice A n k) ∧ v.cell? ⟨g, 5, none⟩ = some (.int .i64 a.sg) ∧ v.cell? ⟨g, 6, none⟩ = some (.int .i64 a.db) ∧ v.cell? ⟨g, 7, none⟩ = some (.slice A' n' k') ∧ v.cell? ⟨g, 8, none⟩ = some (.int .i64 a.ov) ∧ v.cell? ⟨h, 0, none⟩ = some (.int .i64 b.fm) ∧ v.cell? ⟨h, 1, none⟩ = some (.int .i64 b.kd) ∧ v.cell? ⟨h, 2, none⟩ = some (.int .i64 b.ln) ∧ v.cell? ⟨h, 3, none⟩ = some (.int .i64 b.sz) ∧ v.cell? ⟨h, 4, none⟩ = some (.slice C m l) ∧ v.cell? ⟨h, 5, none⟩ = some (.int .i64 b.sg) ∧ v.cell? ⟨h, 6, none⟩ = some (.int .i64 b.db) ∧ v.cell? ⟨h, 7, none⟩ = some (.slice C' m' l') ∧ v.cell? ⟨h, 8, none⟩ = some (.int .i64 b.ov) := by
  obtain ⟨a0, a1, a2, a3, a4, a5, a6, a7, a8⟩ := h1.cells
  exact ⟨a0, a1, a2, a3, a4, a5, a6, a7, a8, h2.cells⟩

set_option maxRecDepth 100000 in
set_option maxHeartbeats 2000000 in
theorem same_any (va vb : Value) (a b : Cd) (B : Nat) (R : Bool) (w : World) (hR : R = true ↔ a = b) (ha : CdAt w B va a) (hb : CdAt w B vb b) (hB : B ≤ w.heap.size) :
    Calls Tryz.prog 101 #[va, vb] w fun e w' => e = .returned (.bool R) ∧ Below w.heap.size w w' := by
  obtain ⟨A, n, k, A', n', k', rfl, i1, s1, bn, bn', f1⟩ := ha
  obtain ⟨C, m, l, C', m', l', rfl, i2, s2, bm, bm', f2⟩ := hb
  obtain ⟨N, hN⟩ := flag (a.fm = b.fm ∧ a.kd = b.kd ∧ a.ln = b.ln ∧ a.sz = b.sz ∧ a.sg = b.sg ∧ a.db = b.db ∧ a.ov = b.ov)
  obtain ⟨P, hP⟩ := flag (a.ps = b.ps)
  obtain ⟨S, hS⟩ := flag (a.rs = b.rs)
  have HE := Lib.hid (nums_eq a b N hN)
  have HR : Hid (R = (N && (P && S))) := by
    show _ = _
    rw [Bool.eq_iff_iff, hR]
    simp only [Bool.and_eq_true, hN, hP, hS]
    obtain ⟨a0, a1, a2, a3, a4, a5, a6, a7, a8⟩ := a
    obtain ⟨b0, b1, b2, b3, b4, b5, b6, b7, b8⟩ := b
    simp only [Cd.mk.injEq]
    constructor
    · rintro ⟨h0, h1, h2, h3, h4, h5, h6, h7, h8⟩; exact ⟨⟨h0, h1, h2, h3, h5, h6, h8⟩, h4, h7⟩
    · rintro ⟨⟨h0, h1, h2, h3, h5, h6, h8⟩, h4, h7⟩; exact ⟨h0, h1, h2, h3, h4, h5, h6, h7, h8⟩
  have HN1 := Lib.hid (fun w => numbers_any a A n k A' n' k' w)
  have HN2 := Lib.hid (fun w => numbers_any b C m l C' m' l' w)
  have HP : Hid (∀ v, Below w.heap.size w v → Calls Tryz.prog 136 #[.slice A n k, .slice C m l] v fun e w' => e = .returned (.bool P) ∧ Drew v w') :=
    fun v hv => eq_ints A C n k m l B B a.ps b.ps P v hP (i1.below hv hB) (i2.below hv hB) bn bm
  have HS : Hid (∀ v, Below w.heap.size w v → Calls Tryz.prog 137 #[.slice A' n' k', .slice C' m' l'] v fun e w' => e = .returned (.bool S) ∧ Drew v w') :=
    fun v hv => eq_sps A' C' n' k' m' l' B B a.rs b.rs S v hS (s1.below hv hB) (s2.below hv hB) bn' bm'
  clear hN hP hS hR i1 i2 s1 s2 f1 f2 bn bn' bm bm'
  go_enter Tryz.func101, Tryz.ntmps101
  go_wp2_with fail
  have r1 : CdRow ((w.alloc (.cells (cells9 a A n k A' n' k') 30)).alloc (.cells (cells9 b C m l C' m' l') 30)) w.heap.size a A n k A' n' k' := (CdRow.new w a A n k A' n' k').below ((Below.refl _ _).alloc (Nat.le_refl _) _) (by simp)
  have r2 := CdRow.new (w.alloc (.cells (cells9 a A n k A' n' k') 30)) b C m l C' m' l'
  have ew : ((w.alloc (.cells (cells9 a A n k A' n' k') 30)).alloc (.cells (cells9 b C m l C' m' l') 30)).heap.size = w.heap.size + 2 := by simp
  have b0 : Below w.heap.size w ((w.alloc (.cells (cells9 a A n k A' n' k') 30)).alloc (.cells (cells9 b C m l C' m' l') 30)) := ((Below.refl _ _).alloc (Nat.le_refl _) _).alloc (by simp) _
  rw [show (w.alloc (.cells (cells9 a A n k A' n' k') 30)).heap.size = w.heap.size + 1 by simp] at r2
  simp only [cells9] at r1 r2 ew b0
  generalize (w.alloc (.cells #[.int .i64 a.fm, .int .i64 a.kd, .int .i64 a.ln, .int .i64 a.sz, .slice A n k, .int .i64 a.sg, .int .i64 a.db, .slice A' n' k', .int .i64 a.ov] 30)).alloc (.cells #[.int .i64 b.fm, .int .i64 b.kd, .int .i64 b.ln, .int .i64 b.sz, .slice C m l, .int .i64 b.sg, .int .i64 b.db, .slice C' m' l', .int .i64 b.ov] 30) = W2 at *
  have KS : Hid (∀ v, Below W2.heap.size W2 v → v.cell? ⟨w.heap.size, 0, none⟩ = some (.int .i64 a.fm) ∧ v.cell? ⟨w.heap.size, 1, none⟩ = some (.int .i64 a.kd) ∧ v.cell? ⟨w.heap.size, 2, none⟩ = some (.int .i64 a.ln) ∧ v.cell? ⟨w.heap.size, 3, none⟩ = some (.int .i64 a.sz) ∧ v.cell? ⟨w.heap.size, 4, none⟩ = some (.slice A n k) ∧ v.cell? ⟨w.heap.size, 5, none⟩ = some (.int .i64 a.sg) ∧ v.cell? ⟨w.heap.size, 6, none⟩ = some (.int .i64 a.db) ∧ v.cell? ⟨w.heap.size, 7, none⟩ = some (.slice A' n' k') ∧ v.cell? ⟨w.heap.size, 8, none⟩ = some (.int .i64 a.ov) ∧ v.cell? ⟨w.heap.size + 1, 0, none⟩ = some (.int .i64 b.fm) ∧ v.cell? ⟨w.heap.size + 1, 1, none⟩ = some (.int .i64 b.kd) ∧ v.cell? ⟨w.heap.size + 1, 2, none⟩ = some (.int .i64 b.ln) ∧ v.cell? ⟨w.heap.size + 1, 3, none⟩ = some (.int .i64 b.sz) ∧ v.cell? ⟨w.heap.size + 1, 4, none⟩ = some (.slice C m l) ∧ v.cell? ⟨w.heap.size + 1, 5, none⟩ = some (.int .i64 b.sg) ∧ v.cell? ⟨w.heap.size + 1, 6, none⟩ = some (.int .i64 b.db) ∧ v.cell? ⟨w.heap.size + 1, 7, none⟩ = some (.slice C' m' l') ∧ v.cell? ⟨w.heap.size + 1, 8, none⟩ = some (.int .i64 b.ov)) := fun v hv => and_box (r1.below hv (by omega)) (r2.below hv (by omega))
  have S2 := Lib.hid (KS.out _ (Below.refl _ _))
  have hx2 : w.heap.size ≤ W2.heap.size := b0.size
  have HB2 := Lib.hid b0
  have HX2 : Hid (Below W2.heap.size W2 W2.drew) := Below.drews (Below.refl _ _) ⟨1, rfl⟩
  have SD := Lib.hid (KS.out _ HX2.out)
  clear r1 r2 b0 ew
  cases N with
  | false =>
    have he := HE.out
    refine wp_region_held_drew (S := fun v => v.cell? ⟨w.heap.size, 0, none⟩ = some (.int .i64 a.fm) ∧ v.cell? ⟨w.heap.size, 1, none⟩ = some (.int .i64 a.kd) ∧ v.cell? ⟨w.heap.size, 2, none⟩ = some (.int .i64 a.ln) ∧ v.cell? ⟨w.heap.size, 3, none⟩ = some (.int .i64 a.sz) ∧ v.cell? ⟨w.heap.size, 4, none⟩ = some (.slice A n k) ∧ v.cell? ⟨w.heap.size, 5, none⟩ = some (.int .i64 a.sg) ∧ v.cell? ⟨w.heap.size, 6, none⟩ = some (.int .i64 a.db) ∧ v.cell? ⟨w.heap.size, 7, none⟩ = some (.slice A' n' k') ∧ v.cell? ⟨w.heap.size, 8, none⟩ = some (.int .i64 a.ov) ∧ v.cell? ⟨w.heap.size + 1, 0, none⟩ = some (.int .i64 b.fm) ∧ v.cell? ⟨w.heap.size + 1, 1, none⟩ = some (.int .i64 b.kd) ∧ v.cell? ⟨w.heap.size + 1, 2, none⟩ = some (.int .i64 b.ln) ∧ v.cell? ⟨w.heap.size + 1, 3, none⟩ = some (.int .i64 b.sz) ∧ v.cell? ⟨w.heap.size + 1, 4, none⟩ = some (.slice C m l) ∧ v.cell? ⟨w.heap.size + 1, 5, none⟩ = some (.int .i64 b.sg) ∧ v.cell? ⟨w.heap.size + 1, 6, none⟩ = some (.int .i64 b.db) ∧ v.cell? ⟨w.heap.size + 1, 7, none⟩ = some (.slice C' m' l') ∧ v.cell? ⟨w.heap.size + 1, 8, none⟩ = some (.int .i64 b.ov)) (by kernel_rfl) (SD.out) (fun hHeld => ?_)
    refine wpAnyH_take (i := 0) (oi := { dst := some 5, op := Op.load 30 (Operand.tmp 2), type := 30, pos := _, after := _, guard := none }) (v := ?va0) rfl (by kernel_rfl) (by kernel_rfl) (by kernel_rfl) (fun _ _ _ h => h) (Or.inl ⟨by rfl, ?hya0⟩) (by assumption) ?resta0
    case hya0 => (intro w hSw; (try dsimp only at hSw); go_simp <;> with_reducible rfl)
    simp only [Act.put, List.setIfInBounds_toArray, List.set_cons_zero, List.set_cons_succ]
    refine wpAnyH_take (i := 2) (oi := { dst := some 7, op := Op.load 30 (Operand.tmp 3), type := 30, pos := _, after := _, guard := none }) (v := ?va2) rfl (by kernel_rfl) (by kernel_rfl) (by kernel_rfl) (fun _ _ _ h => h) (Or.inl ⟨by rfl, ?hya2⟩) (by assumption) ?resta2
    case hya2 => (intro w hSw; (try dsimp only at hSw); go_simp <;> with_reducible rfl)
    simp only [Act.put, List.setIfInBounds_toArray, List.set_cons_zero, List.set_cons_succ]
    refine wpAnyH_ready (rs := [1]) (by kernel_rfl) (by simp) ?_
    refine AllReadyH.cons (o := { dst := some 6, op := Op.call { callee := Callee.value (Operand.func 135), args := #[Operand.tmp 5], argTypes := #[30] }, type := 171, pos := _, after := _, guard := none }) rfl (fun K' hK => ?_) AllReadyH.nil
    go_simp
    go_fit (HN1.out W2.drew)
    rintro e w3 ⟨rfl, b3⟩
    have X3 := Lib.hid (HX2.out.trans (b3.mono HX2.out.size))
    clear b3
    go_wp2_with fail
    refine hK.out _ _ (KS.out w3 X3.out) (fun hHeld => ?_)
    clear hK K'
    refine wpAnyH_ready (rs := [3]) (by kernel_rfl) (by simp) ?_
    refine AllReadyH.cons (o := { dst := some 8, op := Op.call { callee := Callee.value (Operand.func 135), args := #[Operand.tmp 7], argTypes := #[30] }, type := 171, pos := _, after := _, guard := none }) rfl (fun K' hK => ?_) AllReadyH.nil
    go_simp
    go_fit (HN2.out w3)
    rintro e w4 ⟨rfl, b4⟩
    have X4 := Lib.hid (X3.out.trans (b4.mono X3.out.size))
    have Y4 := Lib.hid (HB2.out.trans (X4.out.mono HB2.out.size))
    clear b4
    go_wp2_with fail
    refine hK.out _ _ (KS.out w4 X4.out) (fun hHeld => ?_)
    clear hK K'
    refine wpAnyH_take (i := 4) (oi := { dst := some 9, op := Op.binOp BinOp.eql 171 (Operand.tmp 6) (Operand.tmp 8) 171, type := 4, pos := _, after := _, guard := none }) (v := ?va4) rfl (by kernel_rfl) (by kernel_rfl) (by kernel_rfl) (fun _ _ _ h => h) (Or.inl ⟨by rfl, ?hya4⟩) (by assumption) ?resta4
    case hya4 => (intro w hSw; (try dsimp only at hSw); go_simp <;> with_reducible rfl)
    simp only [Act.put, List.setIfInBounds_toArray, List.set_cons_zero, List.set_cons_succ]
    refine wpAnyH_take (i := 5) (oi := { dst := some 10, op := Op.move (Operand.tmp 9), type := 4, pos := _, after := _, guard := none }) (v := ?va5) rfl (by kernel_rfl) (by kernel_rfl) (by kernel_rfl) (fun _ _ _ h => h) (Or.inl ⟨by rfl, ?hya5⟩) (by assumption) ?resta5
    case hya5 => (intro w hSw; (try dsimp only at hSw); go_simp <;> with_reducible rfl)
    simp only [Act.put, List.setIfInBounds_toArray, List.set_cons_zero, List.set_cons_succ]
    refine wpAnyH_take (i := 6) (oi := { dst := some 11, op := Op.fieldAddr 30 (Operand.tmp 2) 4, type := 0, pos := _, after := _, guard := some (5, true) }) rfl (by kernel_rfl) (by kernel_rfl) (by kernel_rfl) (fun _ _ _ h => h) (Or.inr ⟨by rfl, rfl⟩) (by assumption) ?_
    simp only [Act.put, List.setIfInBounds_toArray, List.set_cons_zero, List.set_cons_succ]
    refine wpAnyH_take (i := 7) (oi := { dst := some 12, op := Op.load 27 (Operand.tmp 11), type := 27, pos := _, after := _, guard := some (5, true) }) rfl (by kernel_rfl) (by kernel_rfl) (by kernel_rfl) (fun _ _ _ h => h) (Or.inr ⟨by rfl, rfl⟩) (by assumption) ?_
    simp only [Act.put, List.setIfInBounds_toArray, List.set_cons_zero, List.set_cons_succ]
    refine wpAnyH_take (i := 8) (oi := { dst := some 13, op := Op.fieldAddr 30 (Operand.tmp 3) 4, type := 0, pos := _, after := _, guard := some (5, true) }) rfl (by kernel_rfl) (by kernel_rfl) (by kernel_rfl) (fun _ _ _ h => h) (Or.inr ⟨by rfl, rfl⟩) (by assumption) ?_
    simp only [Act.put, List.setIfInBounds_toArray, List.set_cons_zero, List.set_cons_succ]
    refine wpAnyH_take (i := 9) (oi := { dst := some 14, op := Op.load 27 (Operand.tmp 13), type := 27, pos := _, after := _, guard := some (5, true) }) rfl (by kernel_rfl) (by kernel_rfl) (by kernel_rfl) (fun _ _ _ h => h) (Or.inr ⟨by rfl, rfl⟩) (by assumption) ?_
    simp only [Act.put, List.setIfInBounds_toArray, List.set_cons_zero, List.set_cons_succ]
    refine wpAnyH_take (i := 10) (oi := { dst := some 15, op := Op.call { callee := Callee.value (Operand.func 136), args := #[Operand.tmp 12, Operand.tmp 14], argTypes := #[27, 27] }, type := 4, pos := _, after := _, guard := some (5, true) }) rfl (by kernel_rfl) (by kernel_rfl) (by kernel_rfl) (fun _ _ _ h => h) (Or.inr ⟨by rfl, rfl⟩) (by assumption) ?_
    simp only [Act.put, List.setIfInBounds_toArray, List.set_cons_zero, List.set_cons_succ]
    refine wpAnyH_take (i := 11) (oi := { dst := some 16, op := Op.pick (Operand.tmp 10) (Operand.tmp 15) (Operand.const (Value.bool false)), type := 4, pos := _, after := _, guard := none }) (v := ?va11) rfl (by kernel_rfl) (by kernel_rfl) (by kernel_rfl) (fun _ _ _ h => h) (Or.inl ⟨by rfl, ?hya11⟩) (by assumption) ?resta11
    case hya11 => (intro w hSw; (try dsimp only at hSw); go_simp <;> with_reducible rfl)
    simp only [Act.put, List.setIfInBounds_toArray, List.set_cons_zero, List.set_cons_succ]
    refine wpAnyH_take (i := 12) (oi := { dst := some 17, op := Op.move (Operand.tmp 16), type := 4, pos := _, after := _, guard := none }) (v := ?va12) rfl (by kernel_rfl) (by kernel_rfl) (by kernel_rfl) (fun _ _ _ h => h) (Or.inl ⟨by rfl, ?hya12⟩) (by assumption) ?resta12
    case hya12 => (intro w hSw; (try dsimp only at hSw); go_simp <;> with_reducible rfl)
    simp only [Act.put, List.setIfInBounds_toArray, List.set_cons_zero, List.set_cons_succ]
    refine wpAnyH_take (i := 13) (oi := { dst := some 18, op := Op.fieldAddr 30 (Operand.tmp 2) 7, type := 0, pos := _, after := _, guard := some (12, true) }) rfl (by kernel_rfl) (by kernel_rfl) (by kernel_rfl) (fun _ _ _ h => h) (Or.inr ⟨by rfl, rfl⟩) (by assumption) ?_
    simp only [Act.put, List.setIfInBounds_toArray, List.set_cons_zero, List.set_cons_succ]
    refine wpAnyH_take (i := 14) (oi := { dst := some 19, op := Op.load 28 (Operand.tmp 18), type := 28, pos := _, after := _, guard := some (12, true) }) rfl (by kernel_rfl) (by kernel_rfl) (by kernel_rfl) (fun _ _ _ h => h) (Or.inr ⟨by rfl, rfl⟩) (by assumption) ?_
    simp only [Act.put, List.setIfInBounds_toArray, List.set_cons_zero, List.set_cons_succ]
    refine wpAnyH_take (i := 15) (oi := { dst := some 20, op := Op.fieldAddr 30 (Operand.tmp 3) 7, type := 0, pos := _, after := _, guard := some (12, true) }) rfl (by kernel_rfl) (by kernel_rfl) (by kernel_rfl) (fun _ _ _ h => h) (Or.inr ⟨by rfl, rfl⟩) (by assumption) ?_
    simp only [Act.put, List.setIfInBounds_toArray, List.set_cons_zero, List.set_cons_succ]
    refine wpAnyH_take (i := 16) (oi := { dst := some 21, op := Op.load 28 (Operand.tmp 20), type := 28, pos := _, after := _, guard := some (12, true) }) rfl (by kernel_rfl) (by kernel_rfl) (by kernel_rfl) (fun _ _ _ h => h) (Or.inr ⟨by rfl, rfl⟩) (by assumption) ?_
    simp only [Act.put, List.setIfInBounds_toArray, List.set_cons_zero, List.set_cons_succ]
    refine wpAnyH_take (i := 17) (oi := { dst := some 22, op := Op.call { callee := Callee.value (Operand.func 137), args := #[Operand.tmp 19, Operand.tmp 21], argTypes := #[28, 28] }, type := 4, pos := _, after := _, guard := some (12, true) }) rfl (by kernel_rfl) (by kernel_rfl) (by kernel_rfl) (fun _ _ _ h => h) (Or.inr ⟨by rfl, rfl⟩) (by assumption) ?_
    simp only [Act.put, List.setIfInBounds_toArray, List.set_cons_zero, List.set_cons_succ]
    refine wpAnyH_take (i := 18) (oi := { dst := some 23, op := Op.pick (Operand.tmp 17) (Operand.tmp 22) (Operand.const (Value.bool false)), type := 4, pos := _, after := _, guard := none }) (v := ?va18) rfl (by kernel_rfl) (by kernel_rfl) (by kernel_rfl) (fun _ _ _ h => h) (Or.inl ⟨by rfl, ?hya18⟩) (by assumption) ?resta18
    case hya18 => (intro w hSw; (try dsimp only at hSw); go_simp <;> with_reducible rfl)
    simp only [Act.put, List.setIfInBounds_toArray, List.set_cons_zero, List.set_cons_succ]
    refine wpAnyH_take (i := 19) (oi := { dst := some 4, op := Op.assign (Operand.tmp 23), type := 4, pos := _, after := _, guard := none }) (v := ?va19) rfl (by kernel_rfl) (by kernel_rfl) (by kernel_rfl) (fun _ _ _ h => h) (Or.inl ⟨by rfl, ?hya19⟩) (by assumption) ?resta19
    case hya19 => (intro w hSw; (try dsimp only at hSw); go_simp <;> with_reducible rfl)
    simp only [Act.put, List.setIfInBounds_toArray, List.set_cons_zero, List.set_cons_succ]
    refine wpAnyH_done (by kernel_rfl) ?_ _
    go_wp2
    go_ret
    exact ⟨ret_bool HR.out.symm, Y4.out⟩
  | true =>
    have he := HE.out
    cases P with
    | false =>
      refine wp_region_held_drew (S := fun v => v.cell? ⟨w.heap.size, 0, none⟩ = some (.int .i64 a.fm) ∧ v.cell? ⟨w.heap.size, 1, none⟩ = some (.int .i64 a.kd) ∧ v.cell? ⟨w.heap.size, 2, none⟩ = some (.int .i64 a.ln) ∧ v.cell? ⟨w.heap.size, 3, none⟩ = some (.int .i64 a.sz) ∧ v.cell? ⟨w.heap.size, 4, none⟩ = some (.slice A n k) ∧ v.cell? ⟨w.heap.size, 5, none⟩ = some (.int .i64 a.sg) ∧ v.cell? ⟨w.heap.size, 6, none⟩ = some (.int .i64 a.db) ∧ v.cell? ⟨w.heap.size, 7, none⟩ = some (.slice A' n' k') ∧ v.cell? ⟨w.heap.size, 8, none⟩ = some (.int .i64 a.ov) ∧ v.cell? ⟨w.heap.size + 1, 0, none⟩ = some (.int .i64 b.fm) ∧ v.cell? ⟨w.heap.size + 1, 1, none⟩ = some (.int .i64 b.kd) ∧ v.cell? ⟨w.heap.size + 1, 2, none⟩ = some (.int .i64 b.ln) ∧ v.cell? ⟨w.heap.size + 1, 3, none⟩ = some (.int .i64 b.sz) ∧ v.cell? ⟨w.heap.size + 1, 4, none⟩ = some (.slice C m l) ∧ v.cell? ⟨w.heap.size + 1, 5, none⟩ = some (.int .i64 b.sg) ∧ v.cell? ⟨w.heap.size + 1, 6, none⟩ = some (.int .i64 b.db) ∧ v.cell? ⟨w.heap.size + 1, 7, none⟩ = some (.slice C' m' l') ∧ v.cell? ⟨w.heap.size + 1, 8, none⟩ = some (.int .i64 b.ov)) (by kernel_rfl) (SD.out) (fun hHeld => ?_)
      refine wpAnyH_take (i := 0) (oi := { dst := some 5, op := Op.load 30 (Operand.tmp 2), type := 30, pos := _, after := _, guard := none }) (v := ?vb0) rfl (by kernel_rfl) (by kernel_rfl) (by kernel_rfl) (fun _ _ _ h => h) (Or.inl ⟨by rfl, ?hyb0⟩) (by assumption) ?restb0
      case hyb0 => (intro w hSw; (try dsimp only at hSw); go_simp <;> with_reducible rfl)
      simp only [Act.put, List.setIfInBounds_toArray, List.set_cons_zero, List.set_cons_succ]
      refine wpAnyH_take (i := 2) (oi := { dst := some 7, op := Op.load 30 (Operand.tmp 3), type := 30, pos := _, after := _, guard := none }) (v := ?vb2) rfl (by kernel_rfl) (by kernel_rfl) (by kernel_rfl) (fun _ _ _ h => h) (Or.inl ⟨by rfl, ?hyb2⟩) (by assumption) ?restb2
      case hyb2 => (intro w hSw; (try dsimp only at hSw); go_simp <;> with_reducible rfl)
      simp only [Act.put, List.setIfInBounds_toArray, List.set_cons_zero, List.set_cons_succ]
      refine wpAnyH_ready (rs := [1]) (by kernel_rfl) (by simp) ?_
      refine AllReadyH.cons (o := { dst := some 6, op := Op.call { callee := Callee.value (Operand.func 135), args := #[Operand.tmp 5], argTypes := #[30] }, type := 171, pos := _, after := _, guard := none }) rfl (fun K' hK => ?_) AllReadyH.nil
      go_simp
      go_fit (HN1.out W2.drew)
      rintro e w3 ⟨rfl, b3⟩
      have X3 := Lib.hid (HX2.out.trans (b3.mono HX2.out.size))
      clear b3
      go_wp2_with fail
      refine hK.out _ _ (KS.out w3 X3.out) (fun hHeld => ?_)
      clear hK K'
      refine wpAnyH_ready (rs := [3]) (by kernel_rfl) (by simp) ?_
      refine AllReadyH.cons (o := { dst := some 8, op := Op.call { callee := Callee.value (Operand.func 135), args := #[Operand.tmp 7], argTypes := #[30] }, type := 171, pos := _, after := _, guard := none }) rfl (fun K' hK => ?_) AllReadyH.nil
      go_simp
      go_fit (HN2.out w3)
      rintro e w4 ⟨rfl, b4⟩
      have X4 := Lib.hid (X3.out.trans (b4.mono X3.out.size))
      have Y4 := Lib.hid (HB2.out.trans (X4.out.mono HB2.out.size))
      clear b4
      go_wp2_with fail
      refine hK.out _ _ (KS.out w4 X4.out) (fun hHeld => ?_)
      clear hK K'
      refine wpAnyH_take (i := 4) (oi := { dst := some 9, op := Op.binOp BinOp.eql 171 (Operand.tmp 6) (Operand.tmp 8) 171, type := 4, pos := _, after := _, guard := none }) (v := ?vb4) rfl (by kernel_rfl) (by kernel_rfl) (by kernel_rfl) (fun _ _ _ h => h) (Or.inl ⟨by rfl, ?hyb4⟩) (by assumption) ?restb4
      case hyb4 => (intro w hSw; (try dsimp only at hSw); go_simp <;> with_reducible rfl)
      simp only [Act.put, List.setIfInBounds_toArray, List.set_cons_zero, List.set_cons_succ]
      refine wpAnyH_take (i := 5) (oi := { dst := some 10, op := Op.move (Operand.tmp 9), type := 4, pos := _, after := _, guard := none }) (v := ?vb5) rfl (by kernel_rfl) (by kernel_rfl) (by kernel_rfl) (fun _ _ _ h => h) (Or.inl ⟨by rfl, ?hyb5⟩) (by assumption) ?restb5
      case hyb5 => (intro w hSw; (try dsimp only at hSw); go_simp <;> with_reducible rfl)
      simp only [Act.put, List.setIfInBounds_toArray, List.set_cons_zero, List.set_cons_succ]
      refine wpAnyH_take (i := 6) (oi := { dst := some 11, op := Op.fieldAddr 30 (Operand.tmp 2) 4, type := 0, pos := _, after := _, guard := some (5, true) }) (v := ?vb6) rfl (by kernel_rfl) (by kernel_rfl) (by kernel_rfl) (fun _ _ _ h => h) (Or.inl ⟨by rfl, ?hyb6⟩) (by assumption) ?restb6
      case hyb6 => (intro w hSw; (try dsimp only at hSw); go_simp <;> with_reducible rfl)
      simp only [Act.put, List.setIfInBounds_toArray, List.set_cons_zero, List.set_cons_succ]
      refine wpAnyH_take (i := 7) (oi := { dst := some 12, op := Op.load 27 (Operand.tmp 11), type := 27, pos := _, after := _, guard := some (5, true) }) (v := ?vb7) rfl (by kernel_rfl) (by kernel_rfl) (by kernel_rfl) (fun _ _ _ h => h) (Or.inl ⟨by rfl, ?hyb7⟩) (by assumption) ?restb7
      case hyb7 => (intro w hSw; (try dsimp only at hSw); go_simp <;> with_reducible rfl)
      simp only [Act.put, List.setIfInBounds_toArray, List.set_cons_zero, List.set_cons_succ]
      refine wpAnyH_take (i := 8) (oi := { dst := some 13, op := Op.fieldAddr 30 (Operand.tmp 3) 4, type := 0, pos := _, after := _, guard := some (5, true) }) (v := ?vb8) rfl (by kernel_rfl) (by kernel_rfl) (by kernel_rfl) (fun _ _ _ h => h) (Or.inl ⟨by rfl, ?hyb8⟩) (by assumption) ?restb8
      case hyb8 => (intro w hSw; (try dsimp only at hSw); go_simp <;> with_reducible rfl)
      simp only [Act.put, List.setIfInBounds_toArray, List.set_cons_zero, List.set_cons_succ]
      refine wpAnyH_take (i := 9) (oi := { dst := some 14, op := Op.load 27 (Operand.tmp 13), type := 27, pos := _, after := _, guard := some (5, true) }) (v := ?vb9) rfl (by kernel_rfl) (by kernel_rfl) (by kernel_rfl) (fun _ _ _ h => h) (Or.inl ⟨by rfl, ?hyb9⟩) (by assumption) ?restb9
      case hyb9 => (intro w hSw; (try dsimp only at hSw); go_simp <;> with_reducible rfl)
      simp only [Act.put, List.setIfInBounds_toArray, List.set_cons_zero, List.set_cons_succ]
      refine wpAnyH_ready (rs := [10]) (by kernel_rfl) (by simp) ?_
      refine AllReadyH.cons (o := { dst := some 15, op := Op.call { callee := Callee.value (Operand.func 136), args := #[Operand.tmp 12, Operand.tmp 14], argTypes := #[27, 27] }, type := 4, pos := _, after := _, guard := some (5, true) }) rfl (fun K' hK => ?_) AllReadyH.nil
      go_simp
      go_fit (HP.out w4 Y4.out)
      rintro e w5 ⟨rfl, d5⟩
      have X5 := Lib.hid (Below.drews X4.out d5)
      have Y5 := Lib.hid (Below.drews Y4.out d5)
      clear d5
      go_wp2_with fail
      refine hK.out _ _ (KS.out w5 X5.out) (fun hHeld => ?_)
      clear hK K'
      refine wpAnyH_take (i := 11) (oi := { dst := some 16, op := Op.pick (Operand.tmp 10) (Operand.tmp 15) (Operand.const (Value.bool false)), type := 4, pos := _, after := _, guard := none }) (v := ?vb11) rfl (by kernel_rfl) (by kernel_rfl) (by kernel_rfl) (fun _ _ _ h => h) (Or.inl ⟨by rfl, ?hyb11⟩) (by assumption) ?restb11
      case hyb11 => (intro w hSw; (try dsimp only at hSw); go_simp <;> with_reducible rfl)
      simp only [Act.put, List.setIfInBounds_toArray, List.set_cons_zero, List.set_cons_succ]
      refine wpAnyH_take (i := 12) (oi := { dst := some 17, op := Op.move (Operand.tmp 16), type := 4, pos := _, after := _, guard := none }) (v := ?vb12) rfl (by kernel_rfl) (by kernel_rfl) (by kernel_rfl) (fun _ _ _ h => h) (Or.inl ⟨by rfl, ?hyb12⟩) (by assumption) ?restb12
      case hyb12 => (intro w hSw; (try dsimp only at hSw); go_simp <;> with_reducible rfl)
      simp only [Act.put, List.setIfInBounds_toArray, List.set_cons_zero, List.set_cons_succ]
      refine wpAnyH_take (i := 13) (oi := { dst := some 18, op := Op.fieldAddr 30 (Operand.tmp 2) 7, type := 0, pos := _, after := _, guard := some (12, true) }) rfl (by kernel_rfl) (by kernel_rfl) (by kernel_rfl) (fun _ _ _ h => h) (Or.inr ⟨by rfl, rfl⟩) (by assumption) ?_
      simp only [Act.put, List.setIfInBounds_toArray, List.set_cons_zero, List.set_cons_succ]
      refine wpAnyH_take (i := 14) (oi := { dst := some 19, op := Op.load 28 (Operand.tmp 18), type := 28, pos := _, after := _, guard := some (12, true) }) rfl (by kernel_rfl) (by kernel_rfl) (by kernel_rfl) (fun _ _ _ h => h) (Or.inr ⟨by rfl, rfl⟩) (by assumption) ?_
      simp only [Act.put, List.setIfInBounds_toArray, List.set_cons_zero, List.set_cons_succ]
      refine wpAnyH_take (i := 15) (oi := { dst := some 20, op := Op.fieldAddr 30 (Operand.tmp 3) 7, type := 0, pos := _, after := _, guard := some (12, true) }) rfl (by kernel_rfl) (by kernel_rfl) (by kernel_rfl) (fun _ _ _ h => h) (Or.inr ⟨by rfl, rfl⟩) (by assumption) ?_
      simp only [Act.put, List.setIfInBounds_toArray, List.set_cons_zero, List.set_cons_succ]
      refine wpAnyH_take (i := 16) (oi := { dst := some 21, op := Op.load 28 (Operand.tmp 20), type := 28, pos := _, after := _, guard := some (12, true) }) rfl (by kernel_rfl) (by kernel_rfl) (by kernel_rfl) (fun _ _ _ h => h) (Or.inr ⟨by rfl, rfl⟩) (by assumption) ?_
      simp only [Act.put, List.setIfInBounds_toArray, List.set_cons_zero, List.set_cons_succ]
      refine wpAnyH_take (i := 17) (oi := { dst := some 22, op := Op.call { callee := Callee.value (Operand.func 137), args := #[Operand.tmp 19, Operand.tmp 21], argTypes := #[28, 28] }, type := 4, pos := _, after := _, guard := some (12, true) }) rfl (by kernel_rfl) (by kernel_rfl) (by kernel_rfl) (fun _ _ _ h => h) (Or.inr ⟨by rfl, rfl⟩) (by assumption) ?_
      simp only [Act.put, List.setIfInBounds_toArray, List.set_cons_zero, List.set_cons_succ]
      refine wpAnyH_take (i := 18) (oi := { dst := some 23, op := Op.pick (Operand.tmp 17) (Operand.tmp 22) (Operand.const (Value.bool false)), type := 4, pos := _, after := _, guard := none }) (v := ?vb18) rfl (by kernel_rfl) (by kernel_rfl) (by kernel_rfl) (fun _ _ _ h => h) (Or.inl ⟨by rfl, ?hyb18⟩) (by assumption) ?restb18
      case hyb18 => (intro w hSw; (try dsimp only at hSw); go_simp <;> with_reducible rfl)
      simp only [Act.put, List.setIfInBounds_toArray, List.set_cons_zero, List.set_cons_succ]
      refine wpAnyH_take (i := 19) (oi := { dst := some 4, op := Op.assign (Operand.tmp 23), type := 4, pos := _, after := _, guard := none }) (v := ?vb19) rfl (by kernel_rfl) (by kernel_rfl) (by kernel_rfl) (fun _ _ _ h => h) (Or.inl ⟨by rfl, ?hyb19⟩) (by assumption) ?restb19
      case hyb19 => (intro w hSw; (try dsimp only at hSw); go_simp <;> with_reducible rfl)
      simp only [Act.put, List.setIfInBounds_toArray, List.set_cons_zero, List.set_cons_succ]
      refine wpAnyH_done (by kernel_rfl) ?_ _
      go_wp2
      go_ret
      exact ⟨ret_bool HR.out.symm, Y5.out⟩
    | true =>
      refine wp_region_held_drew (S := fun v => v.cell? ⟨w.heap.size, 0, none⟩ = some (.int .i64 a.fm) ∧ v.cell? ⟨w.heap.size, 1, none⟩ = some (.int .i64 a.kd) ∧ v.cell? ⟨w.heap.size, 2, none⟩ = some (.int .i64 a.ln) ∧ v.cell? ⟨w.heap.size, 3, none⟩ = some (.int .i64 a.sz) ∧ v.cell? ⟨w.heap.size, 4, none⟩ = some (.slice A n k) ∧ v.cell? ⟨w.heap.size, 5, none⟩ = some (.int .i64 a.sg) ∧ v.cell? ⟨w.heap.size, 6, none⟩ = some (.int .i64 a.db) ∧ v.cell? ⟨w.heap.size, 7, none⟩ = some (.slice A' n' k') ∧ v.cell? ⟨w.heap.size, 8, none⟩ = some (.int .i64 a.ov) ∧ v.cell? ⟨w.heap.size + 1, 0, none⟩ = some (.int .i64 b.fm) ∧ v.cell? ⟨w.heap.size + 1, 1, none⟩ = some (.int .i64 b.kd) ∧ v.cell? ⟨w.heap.size + 1, 2, none⟩ = some (.int .i64 b.ln) ∧ v.cell? ⟨w.heap.size + 1, 3, none⟩ = some (.int .i64 b.sz) ∧ v.cell? ⟨w.heap.size + 1, 4, none⟩ = some (.slice C m l) ∧ v.cell? ⟨w.heap.size + 1, 5, none⟩ = some (.int .i64 b.sg) ∧ v.cell? ⟨w.heap.size + 1, 6, none⟩ = some (.int .i64 b.db) ∧ v.cell? ⟨w.heap.size + 1, 7, none⟩ = some (.slice C' m' l') ∧ v.cell? ⟨w.heap.size + 1, 8, none⟩ = some (.int .i64 b.ov)) (by kernel_rfl) (SD.out) (fun hHeld => ?_)
      refine wpAnyH_take (i := 0) (oi := { dst := some 5, op := Op.load 30 (Operand.tmp 2), type := 30, pos := _, after := _, guard := none }) (v := ?vc0) rfl (by kernel_rfl) (by kernel_rfl) (by kernel_rfl) (fun _ _ _ h => h) (Or.inl ⟨by rfl, ?hyc0⟩) (by assumption) ?restc0
      case hyc0 => (intro w hSw; (try dsimp only at hSw); go_simp <;> with_reducible rfl)
      simp only [Act.put, List.setIfInBounds_toArray, List.set_cons_zero, List.set_cons_succ]
      refine wpAnyH_take (i := 2) (oi := { dst := some 7, op := Op.load 30 (Operand.tmp 3), type := 30, pos := _, after := _, guard := none }) (v := ?vc2) rfl (by kernel_rfl) (by kernel_rfl) (by kernel_rfl) (fun _ _ _ h => h) (Or.inl ⟨by rfl, ?hyc2⟩) (by assumption) ?restc2
      case hyc2 => (intro w hSw; (try dsimp only at hSw); go_simp <;> with_reducible rfl)
      simp only [Act.put, List.setIfInBounds_toArray, List.set_cons_zero, List.set_cons_succ]
      refine wpAnyH_ready (rs := [1]) (by kernel_rfl) (by simp) ?_
      refine AllReadyH.cons (o := { dst := some 6, op := Op.call { callee := Callee.value (Operand.func 135), args := #[Operand.tmp 5], argTypes := #[30] }, type := 171, pos := _, after := _, guard := none }) rfl (fun K' hK => ?_) AllReadyH.nil
      go_simp
      go_fit (HN1.out W2.drew)
      rintro e w3 ⟨rfl, b3⟩
      have X3 := Lib.hid (HX2.out.trans (b3.mono HX2.out.size))
      clear b3
      go_wp2_with fail
      refine hK.out _ _ (KS.out w3 X3.out) (fun hHeld => ?_)
      clear hK K'
      refine wpAnyH_ready (rs := [3]) (by kernel_rfl) (by simp) ?_
      refine AllReadyH.cons (o := { dst := some 8, op := Op.call { callee := Callee.value (Operand.func 135), args := #[Operand.tmp 7], argTypes := #[30] }, type := 171, pos := _, after := _, guard := none }) rfl (fun K' hK => ?_) AllReadyH.nil
      go_simp
      go_fit (HN2.out w3)
      rintro e w4 ⟨rfl, b4⟩
      have X4 := Lib.hid (X3.out.trans (b4.mono X3.out.size))
      have Y4 := Lib.hid (HB2.out.trans (X4.out.mono HB2.out.size))
      clear b4
      go_wp2_with fail
      refine hK.out _ _ (KS.out w4 X4.out) (fun hHeld => ?_)
      clear hK K'
      refine wpAnyH_take (i := 4) (oi := { dst := some 9, op := Op.binOp BinOp.eql 171 (Operand.tmp 6) (Operand.tmp 8) 171, type := 4, pos := _, after := _, guard := none }) (v := ?vc4) rfl (by kernel_rfl) (by kernel_rfl) (by kernel_rfl) (fun _ _ _ h => h) (Or.inl ⟨by rfl, ?hyc4⟩) (by assumption) ?restc4
      case hyc4 => (intro w hSw; (try dsimp only at hSw); go_simp <;> with_reducible rfl)
      simp only [Act.put, List.setIfInBounds_toArray, List.set_cons_zero, List.set_cons_succ]
      refine wpAnyH_take (i := 5) (oi := { dst := some 10, op := Op.move (Operand.tmp 9), type := 4, pos := _, after := _, guard := none }) (v := ?vc5) rfl (by kernel_rfl) (by kernel_rfl) (by kernel_rfl) (fun _ _ _ h => h) (Or.inl ⟨by rfl, ?hyc5⟩) (by assumption) ?restc5
      case hyc5 => (intro w hSw; (try dsimp only at hSw); go_simp <;> with_reducible rfl)
      simp only [Act.put, List.setIfInBounds_toArray, List.set_cons_zero, List.set_cons_succ]
      refine wpAnyH_take (i := 6) (oi := { dst := some 11, op := Op.fieldAddr 30 (Operand.tmp 2) 4, type := 0, pos := _, after := _, guard := some (5, true) }) (v := ?vc6) rfl (by kernel_rfl) (by kernel_rfl) (by kernel_rfl) (fun _ _ _ h => h) (Or.inl ⟨by rfl, ?hyc6⟩) (by assumption) ?restc6
      case hyc6 => (intro w hSw; (try dsimp only at hSw); go_simp <;> with_reducible rfl)
      simp only [Act.put, List.setIfInBounds_toArray, List.set_cons_zero, List.set_cons_succ]
      refine wpAnyH_take (i := 7) (oi := { dst := some 12, op := Op.load 27 (Operand.tmp 11), type := 27, pos := _, after := _, guard := some (5, true) }) (v := ?vc7) rfl (by kernel_rfl) (by kernel_rfl) (by kernel_rfl) (fun _ _ _ h => h) (Or.inl ⟨by rfl, ?hyc7⟩) (by assumption) ?restc7
      case hyc7 => (intro w hSw; (try dsimp only at hSw); go_simp <;> with_reducible rfl)
      simp only [Act.put, List.setIfInBounds_toArray, List.set_cons_zero, List.set_cons_succ]
      refine wpAnyH_take (i := 8) (oi := { dst := some 13, op := Op.fieldAddr 30 (Operand.tmp 3) 4, type := 0, pos := _, after := _, guard := some (5, true) }) (v := ?vc8) rfl (by kernel_rfl) (by kernel_rfl) (by kernel_rfl) (fun _ _ _ h => h) (Or.inl ⟨by rfl, ?hyc8⟩) (by assumption) ?restc8
      case hyc8 => (intro w hSw; (try dsimp only at hSw); go_simp <;> with_reducible rfl)
      simp only [Act.put, List.setIfInBounds_toArray, List.set_cons_zero, List.set_cons_succ]
      refine wpAnyH_take (i := 9) (oi := { dst := some 14, op := Op.load 27 (Operand.tmp 13), type := 27, pos := _, after := _, guard := some (5, true) }) (v := ?vc9) rfl (by kernel_rfl) (by kernel_rfl) (by kernel_rfl) (fun _ _ _ h => h) (Or.inl ⟨by rfl, ?hyc9⟩) (by assumption) ?restc9
      case hyc9 => (intro w hSw; (try dsimp only at hSw); go_simp <;> with_reducible rfl)
      simp only [Act.put, List.setIfInBounds_toArray, List.set_cons_zero, List.set_cons_succ]
      refine wpAnyH_ready (rs := [10]) (by kernel_rfl) (by simp) ?_
      refine AllReadyH.cons (o := { dst := some 15, op := Op.call { callee := Callee.value (Operand.func 136), args := #[Operand.tmp 12, Operand.tmp 14], argTypes := #[27, 27] }, type := 4, pos := _, after := _, guard := some (5, true) }) rfl (fun K' hK => ?_) AllReadyH.nil
      go_simp
      go_fit (HP.out w4 Y4.out)
      rintro e w5 ⟨rfl, d5⟩
      have X5 := Lib.hid (Below.drews X4.out d5)
      have Y5 := Lib.hid (Below.drews Y4.out d5)
      clear d5
      go_wp2_with fail
      refine hK.out _ _ (KS.out w5 X5.out) (fun hHeld => ?_)
      clear hK K'
      refine wpAnyH_take (i := 11) (oi := { dst := some 16, op := Op.pick (Operand.tmp 10) (Operand.tmp 15) (Operand.const (Value.bool false)), type := 4, pos := _, after := _, guard := none }) (v := ?vc11) rfl (by kernel_rfl) (by kernel_rfl) (by kernel_rfl) (fun _ _ _ h => h) (Or.inl ⟨by rfl, ?hyc11⟩) (by assumption) ?restc11
      case hyc11 => (intro w hSw; (try dsimp only at hSw); go_simp <;> with_reducible rfl)
      simp only [Act.put, List.setIfInBounds_toArray, List.set_cons_zero, List.set_cons_succ]
      refine wpAnyH_take (i := 12) (oi := { dst := some 17, op := Op.move (Operand.tmp 16), type := 4, pos := _, after := _, guard := none }) (v := ?vc12) rfl (by kernel_rfl) (by kernel_rfl) (by kernel_rfl) (fun _ _ _ h => h) (Or.inl ⟨by rfl, ?hyc12⟩) (by assumption) ?restc12
      case hyc12 => (intro w hSw; (try dsimp only at hSw); go_simp <;> with_reducible rfl)
      simp only [Act.put, List.setIfInBounds_toArray, List.set_cons_zero, List.set_cons_succ]
      refine wpAnyH_take (i := 13) (oi := { dst := some 18, op := Op.fieldAddr 30 (Operand.tmp 2) 7, type := 0, pos := _, after := _, guard := some (12, true) }) (v := ?vc13) rfl (by kernel_rfl) (by kernel_rfl) (by kernel_rfl) (fun _ _ _ h => h) (Or.inl ⟨by rfl, ?hyc13⟩) (by assumption) ?restc13
      case hyc13 => (intro w hSw; (try dsimp only at hSw); go_simp <;> with_reducible rfl)
      simp only [Act.put, List.setIfInBounds_toArray, List.set_cons_zero, List.set_cons_succ]
      refine wpAnyH_take (i := 14) (oi := { dst := some 19, op := Op.load 28 (Operand.tmp 18), type := 28, pos := _, after := _, guard := some (12, true) }) (v := ?vc14) rfl (by kernel_rfl) (by kernel_rfl) (by kernel_rfl) (fun _ _ _ h => h) (Or.inl ⟨by rfl, ?hyc14⟩) (by assumption) ?restc14
      case hyc14 => (intro w hSw; (try dsimp only at hSw); go_simp <;> with_reducible rfl)
      simp only [Act.put, List.setIfInBounds_toArray, List.set_cons_zero, List.set_cons_succ]
      refine wpAnyH_take (i := 15) (oi := { dst := some 20, op := Op.fieldAddr 30 (Operand.tmp 3) 7, type := 0, pos := _, after := _, guard := some (12, true) }) (v := ?vc15) rfl (by kernel_rfl) (by kernel_rfl) (by kernel_rfl) (fun _ _ _ h => h) (Or.inl ⟨by rfl, ?hyc15⟩) (by assumption) ?restc15
      case hyc15 => (intro w hSw; (try dsimp only at hSw); go_simp <;> with_reducible rfl)
      simp only [Act.put, List.setIfInBounds_toArray, List.set_cons_zero, List.set_cons_succ]
      refine wpAnyH_take (i := 16) (oi := { dst := some 21, op := Op.load 28 (Operand.tmp 20), type := 28, pos := _, after := _, guard := some (12, true) }) (v := ?vc16) rfl (by kernel_rfl) (by kernel_rfl) (by kernel_rfl) (fun _ _ _ h => h) (Or.inl ⟨by rfl, ?hyc16⟩) (by assumption) ?restc16
      case hyc16 => (intro w hSw; (try dsimp only at hSw); go_simp <;> with_reducible rfl)
      simp only [Act.put, List.setIfInBounds_toArray, List.set_cons_zero, List.set_cons_succ]
      refine wpAnyH_ready (rs := [17]) (by kernel_rfl) (by simp) ?_
      refine AllReadyH.cons (o := { dst := some 22, op := Op.call { callee := Callee.value (Operand.func 137), args := #[Operand.tmp 19, Operand.tmp 21], argTypes := #[28, 28] }, type := 4, pos := _, after := _, guard := some (12, true) }) rfl (fun K' hK => ?_) AllReadyH.nil
      go_simp
      go_fit (HS.out w5 Y5.out)
      rintro e w6 ⟨rfl, d6⟩
      have X6 := Lib.hid (Below.drews X5.out d6)
      have Y6 := Lib.hid (Below.drews Y5.out d6)
      clear d6
      go_wp2_with fail
      refine hK.out _ _ (KS.out w6 X6.out) (fun hHeld => ?_)
      clear hK K'
      refine wpAnyH_take (i := 18) (oi := { dst := some 23, op := Op.pick (Operand.tmp 17) (Operand.tmp 22) (Operand.const (Value.bool false)), type := 4, pos := _, after := _, guard := none }) (v := ?vc18) rfl (by kernel_rfl) (by kernel_rfl) (by kernel_rfl) (fun _ _ _ h => h) (Or.inl ⟨by rfl, ?hyc18⟩) (by assumption) ?restc18
      case hyc18 => (intro w hSw; (try dsimp only at hSw); go_simp <;> with_reducible rfl)
      simp only [Act.put, List.setIfInBounds_toArray, List.set_cons_zero, List.set_cons_succ]
      refine wpAnyH_take (i := 19) (oi := { dst := some 4, op := Op.assign (Operand.tmp 23), type := 4, pos := _, after := _, guard := none }) (v := ?vc19) rfl (by kernel_rfl) (by kernel_rfl) (by kernel_rfl) (fun _ _ _ h => h) (Or.inl ⟨by rfl, ?hyc19⟩) (by assumption) ?restc19
      case hyc19 => (intro w hSw; (try dsimp only at hSw); go_simp <;> with_reducible rfl)
      simp only [Act.put, List.setIfInBounds_toArray, List.set_cons_zero, List.set_cons_succ]
      refine wpAnyH_done (by kernel_rfl) ?_ _
      go_wp2
      go_ret
      exact ⟨ret_bool HR.out.symm, Y6.out⟩

set_option maxRecDepth 100000 in
theorem cd_ne {a b : Cd} {R : Bool} (hR : R = true ↔ a = b) (h : a ≠ b) : R = false := by
  cases R with
  | false => rfl
  | true => exact absurd (hR.1 rfl) h

set_option maxRecDepth 100000 in
set_option maxHeartbeats 2000000 in
theorem rsame_any (va vb : Value) (a b : Cd) (B : Nat) (R : Bool) (w : World) (hR : R = true ↔ a = b) (ha : CdAt w B va a) (hb : CdAt w B vb b) (hB : B ≤ w.heap.size) :
    Calls Tryz.prog 48 #[va, vb] w fun e w' => e = .returned (.bool R) ∧ Below w.heap.size w w' := by
  obtain ⟨A, n, k, A', n', k', rfl, i1, s1, bn, bn', f1⟩ := ha
  obtain ⟨C, m, l, C', m', l', rfl, i2, s2, bm, bm', f2⟩ := hb
  obtain ⟨P, hP⟩ := flag (a.ps = b.ps)
  obtain ⟨S, hS⟩ := flag (a.rs = b.rs)
  have HP : Hid (∀ v, Below w.heap.size w v → Calls Tryz.prog 15 #[.slice A n k, .slice C m l] v fun e w' => e = .returned (.bool P) ∧ Drew v w') :=
    fun v hv => rsame_ints A C n k m l B B a.ps b.ps P v hP (i1.below hv hB) (i2.below hv hB) bn bm
  have HS : Hid (∀ v, Below w.heap.size w v → Calls Tryz.prog 84 #[.slice A' n' k', .slice C' m' l'] v fun e w' => e = .returned (.bool S) ∧ Drew v w') :=
    fun v hv => rsame_sps A' C' n' k' m' l' B B a.rs b.rs S v hS (s1.below hv hB) (s2.below hv hB) bn' bm'
  clear i1 i2 s1 s2 f1 f2 bn bn' bm bm'
  have HO : Hid (∀ o o' : Obj, Below w.heap.size w ((w.alloc o).alloc o')) := fun o o' => ((Below.refl _ _).alloc (Nat.le_refl _) _).alloc (by simp) _
  have HRR := Lib.hid hR
  obtain ⟨a0, a1, a2, a3, a4, a5, a6, a7, a8⟩ := a
  obtain ⟨b0, b1, b2, b3, b4, b5, b6, b7, b8⟩ := b
  simp only at *
  clear hR
  by_cases e0 : a0 = b0
  · subst e0
    by_cases e1 : a1 = b1
    · subst e1
      by_cases e2 : a2 = b2
      · subst e2
        by_cases e3 : a3 = b3
        · subst e3
          cases P with
          | false =>
            have HF : Hid (R = false) := cd_ne HRR.out (by intro e; injection e; simp_all)
            clear HRR hP hS
            go_enter Tryz.func48, Tryz.ntmps48
            go_wp2_with fail
            refine (HP.out _ (HO.out _ _)).mono ?_
            rintro e w3 ⟨rfl, d3⟩
            have B3 := Lib.hid (Below.drews (HO.out _ _) d3)
            clear d3
            go_wp2
            go_ret
            exact ⟨ret_bool HF.out.symm, B3.out⟩
          | true =>
            have g4 : a4 = b4 := hP.1 rfl
            subst g4
            by_cases e5 : a5 = b5
            · subst e5
              by_cases e6 : a6 = b6
              · subst e6
                cases S with
                | false =>
                  have HF : Hid (R = false) := cd_ne HRR.out (by intro e; injection e; simp_all)
                  clear HRR hP hS
                  go_enter Tryz.func48, Tryz.ntmps48
                  go_wp2_with fail
                  refine (HP.out _ (HO.out _ _)).mono ?_
                  rintro e w3 ⟨rfl, d3⟩
                  have B3 := Lib.hid (Below.drews (HO.out _ _) d3)
                  have p5 : w3.cell? ⟨w.heap.size, 5, none⟩ = some (.int .i64 a5) := by rw [d3.cells]; simp
                  have q5 : w3.cell? ⟨w.heap.size + 1, 5, none⟩ = some (.int .i64 a5) := by rw [d3.cells]; simp
                  have p6 : w3.cell? ⟨w.heap.size, 6, none⟩ = some (.int .i64 a6) := by rw [d3.cells]; simp
                  have q6 : w3.cell? ⟨w.heap.size + 1, 6, none⟩ = some (.int .i64 a6) := by rw [d3.cells]; simp
                  have p7 : w3.cell? ⟨w.heap.size, 7, none⟩ = some (.slice A' n' k') := by rw [d3.cells]; simp
                  have q7 : w3.cell? ⟨w.heap.size + 1, 7, none⟩ = some (.slice C' m' l') := by rw [d3.cells]; simp
                  clear d3
                  go_wp2_with fail
                  refine (HS.out _ B3.out).mono ?_
                  rintro e w4 ⟨rfl, d4⟩
                  have B4 := Lib.hid (Below.drews B3.out d4)
                  clear d4
                  go_wp2
                  go_ret
                  exact ⟨ret_bool HF.out.symm, B4.out⟩
                | true =>
                  have g7 : a7 = b7 := hS.1 rfl
                  subst g7
                  by_cases e8 : a8 = b8
                  · subst e8
                    have HF : Hid (R = true) := HRR.out.2 (by simp [*])
                    clear HRR
                    go_enter Tryz.func48, Tryz.ntmps48
                    go_wp2_with fail
                    refine (HP.out _ (HO.out _ _)).mono ?_
                    rintro e w3 ⟨rfl, d3⟩
                    have B3 := Lib.hid (Below.drews (HO.out _ _) d3)
                    have p5 : w3.cell? ⟨w.heap.size, 5, none⟩ = some (.int .i64 a5) := by rw [d3.cells]; simp
                    have q5 : w3.cell? ⟨w.heap.size + 1, 5, none⟩ = some (.int .i64 a5) := by rw [d3.cells]; simp
                    have p6 : w3.cell? ⟨w.heap.size, 6, none⟩ = some (.int .i64 a6) := by rw [d3.cells]; simp
                    have q6 : w3.cell? ⟨w.heap.size + 1, 6, none⟩ = some (.int .i64 a6) := by rw [d3.cells]; simp
                    have p7 : w3.cell? ⟨w.heap.size, 7, none⟩ = some (.slice A' n' k') := by rw [d3.cells]; simp
                    have q7 : w3.cell? ⟨w.heap.size + 1, 7, none⟩ = some (.slice C' m' l') := by rw [d3.cells]; simp
                    have p8 : w3.cell? ⟨w.heap.size, 8, none⟩ = some (.int .i64 a8) := by rw [d3.cells]; simp
                    have q8 : w3.cell? ⟨w.heap.size + 1, 8, none⟩ = some (.int .i64 a8) := by rw [d3.cells]; simp
                    clear d3
                    go_wp2_with fail
                    refine (HS.out _ B3.out).mono ?_
                    rintro e w4 ⟨rfl, d4⟩
                    have B4 := Lib.hid (Below.drews B3.out d4)
                    have r8 : w4.cell? ⟨w.heap.size, 8, none⟩ = some (.int .i64 a8) := by rw [d4.cells]; exact p8
                    have s8 : w4.cell? ⟨w.heap.size + 1, 8, none⟩ = some (.int .i64 a8) := by rw [d4.cells]; exact q8
                    clear d4
                    go_wp2
                    go_ret
                    exact ⟨ret_bool HF.out.symm, B4.out⟩
                  · have HF : Hid (R = false) := cd_ne HRR.out (by intro e; injection e; contradiction)
                    have d8 : (a8 == b8) = false := by simpa using e8
                    clear e8 HRR hP hS
                    go_enter Tryz.func48, Tryz.ntmps48
                    go_wp2_with fail
                    refine (HP.out _ (HO.out _ _)).mono ?_
                    rintro e w3 ⟨rfl, d3⟩
                    have B3 := Lib.hid (Below.drews (HO.out _ _) d3)
                    have p5 : w3.cell? ⟨w.heap.size, 5, none⟩ = some (.int .i64 a5) := by rw [d3.cells]; simp
                    have q5 : w3.cell? ⟨w.heap.size + 1, 5, none⟩ = some (.int .i64 a5) := by rw [d3.cells]; simp
                    have p6 : w3.cell? ⟨w.heap.size, 6, none⟩ = some (.int .i64 a6) := by rw [d3.cells]; simp
                    have q6 : w3.cell? ⟨w.heap.size + 1, 6, none⟩ = some (.int .i64 a6) := by rw [d3.cells]; simp
                    have p7 : w3.cell? ⟨w.heap.size, 7, none⟩ = some (.slice A' n' k') := by rw [d3.cells]; simp
                    have q7 : w3.cell? ⟨w.heap.size + 1, 7, none⟩ = some (.slice C' m' l') := by rw [d3.cells]; simp
                    have p8 : w3.cell? ⟨w.heap.size, 8, none⟩ = some (.int .i64 a8) := by rw [d3.cells]; simp
                    have q8 : w3.cell? ⟨w.heap.size + 1, 8, none⟩ = some (.int .i64 b8) := by rw [d3.cells]; simp
                    clear d3
                    go_wp2_with fail
                    refine (HS.out _ B3.out).mono ?_
                    rintro e w4 ⟨rfl, d4⟩
                    have B4 := Lib.hid (Below.drews B3.out d4)
                    have r8 : w4.cell? ⟨w.heap.size, 8, none⟩ = some (.int .i64 a8) := by rw [d4.cells]; exact p8
                    have s8 : w4.cell? ⟨w.heap.size + 1, 8, none⟩ = some (.int .i64 b8) := by rw [d4.cells]; exact q8
                    clear d4
                    go_wp2
                    go_ret
                    exact ⟨ret_bool HF.out.symm, B4.out⟩
              · have HF : Hid (R = false) := cd_ne HRR.out (by intro e; injection e; contradiction)
                have d6 : (a6 == b6) = false := by simpa using e6
                clear e6 HRR hP hS
                go_enter Tryz.func48, Tryz.ntmps48
                go_wp2_with fail
                refine (HP.out _ (HO.out _ _)).mono ?_
                rintro e w3 ⟨rfl, d3⟩
                have B3 := Lib.hid (Below.drews (HO.out _ _) d3)
                have p5 : w3.cell? ⟨w.heap.size, 5, none⟩ = some (.int .i64 a5) := by rw [d3.cells]; simp
                have q5 : w3.cell? ⟨w.heap.size + 1, 5, none⟩ = some (.int .i64 a5) := by rw [d3.cells]; simp
                have p6 : w3.cell? ⟨w.heap.size, 6, none⟩ = some (.int .i64 a6) := by rw [d3.cells]; simp
                have q6 : w3.cell? ⟨w.heap.size + 1, 6, none⟩ = some (.int .i64 b6) := by rw [d3.cells]; simp
                clear d3
                go_wp2
                go_ret
                exact ⟨ret_bool HF.out.symm, B3.out⟩
            · have HF : Hid (R = false) := cd_ne HRR.out (by intro e; injection e; contradiction)
              have d5 : (a5 == b5) = false := by simpa using e5
              clear e5 HRR hP hS
              go_enter Tryz.func48, Tryz.ntmps48
              go_wp2_with fail
              refine (HP.out _ (HO.out _ _)).mono ?_
              rintro e w3 ⟨rfl, d3⟩
              have B3 := Lib.hid (Below.drews (HO.out _ _) d3)
              have p5 : w3.cell? ⟨w.heap.size, 5, none⟩ = some (.int .i64 a5) := by rw [d3.cells]; simp
              have q5 : w3.cell? ⟨w.heap.size + 1, 5, none⟩ = some (.int .i64 b5) := by rw [d3.cells]; simp
              clear d3
              go_wp2
              go_ret
              exact ⟨ret_bool HF.out.symm, B3.out⟩
        · have HF : Hid (R = false) := cd_ne HRR.out (by intro e; injection e; contradiction)
          have d3 : (a3 == b3) = false := by simpa using e3
          clear e3 HRR hP hS
          go_enter Tryz.func48, Tryz.ntmps48
          go_wp2
          go_ret
          exact ⟨ret_bool HF.out.symm, HO.out _ _⟩
      · have HF : Hid (R = false) := cd_ne HRR.out (by intro e; injection e; contradiction)
        have d2 : (a2 == b2) = false := by simpa using e2
        clear e2 HRR hP hS
        go_enter Tryz.func48, Tryz.ntmps48
        go_wp2
        go_ret
        exact ⟨ret_bool HF.out.symm, HO.out _ _⟩
    · have HF : Hid (R = false) := cd_ne HRR.out (by intro e; injection e; contradiction)
      have d1 : (a1 == b1) = false := by simpa using e1
      clear e1 HRR hP hS
      go_enter Tryz.func48, Tryz.ntmps48
      go_wp2
      go_ret
      exact ⟨ret_bool HF.out.symm, HO.out _ _⟩
  · have HF : Hid (R = false) := cd_ne HRR.out (by intro e; injection e; contradiction)
    have d0 : (a0 == b0) = false := by simpa using e0
    clear e0 HRR hP hS
    go_enter Tryz.func48, Tryz.ntmps48
    go_wp2
    go_ret
    exact ⟨ret_bool HF.out.symm, HO.out _ _⟩
end Go.Proofs.YtgdlfiejjnjcpaaGreat
