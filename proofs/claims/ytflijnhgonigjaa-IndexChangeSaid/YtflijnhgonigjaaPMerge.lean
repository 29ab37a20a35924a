/-
  WALKS: slices.Delete of pages, mergeable, slices.Replace of two pages by one, merge. Conditions: at most 100000 pages.
-/
import Derived.Test.YtflijnhgonigjaaPDel
set_option linter.unusedVariables false
set_option linter.unusedSimpArgs false
namespace Go.Proofs.Ytflijnhgonigjaa
open Go.RowKit

set_option maxHeartbeats 4000000 in
set_option maxRecDepth 100000 in
theorem deleteP_any (g n i j : Nat) (vs : List Value) (w : World) (hln : vs.length = n) (h1v : ∀ u ∈ vs, u.oneCell' = true) (hn : n ≤ 100000) (hij : i < j) (hj : j ≤ n) (hcs : CellsAt w g 0 vs) (hfz : ∀ k, w.frozen? ⟨g, k, none⟩ = false) :
    Calls Try.prog 47 #[rowV g n, .int .i64 i, .int .i64 j] w (RetDel w g (i + (n - j)) n (vs.take i ++ vs.drop j)) := by
  obtain ⟨i0, hi0, hz0, hzs, hzb⟩ := info_parts info27
  have hL : vs.length = n := hln
  obtain ⟨news, hnews⟩ : ∃ news, news = vs.drop j := ⟨_, rfl⟩
  have hlen : news.length = (n - j) := by rw [hnews, List.length_drop, hL]
  obtain ⟨A, hA, hsrc⟩ : ∃ A : Addr, (if n = j then some (⟨g, 0, none⟩ : Addr) else some ⟨g, j, none⟩) = some A ∧ Hid (∀ t u, news[t]? = some u → w.drew.cell? (A.add t) = some u) := by
    by_cases h : n = j
    · refine ⟨⟨g, 0, none⟩, by simp [h], fun t u hu => ?_⟩
      have h0 : news.length = 0 := by rw [hlen]; omega
      rw [List.length_eq_zero_iff.1 h0] at hu
      simp at hu
    · refine ⟨⟨g, j, none⟩, by simp [h], fun t u hu => ?_⟩
      rw [Go.WideShapes.add_plain]
      rw [hnews] at hu
      have := hcs.drop j t u hu
      rwa [Nat.zero_add] at this
  have s2 : Hid (∀ u ∈ news, u.oneCell' = true) := fun u hu => h1v u (List.mem_of_mem_drop (by rw [← hnews]; exact hu))
  have s3 : Hid (∀ t, t < news.length → (w.drew.cell? ⟨g, 0 + i * 1 + t, none⟩).isSome = true ∧ w.drew.frozen? ⟨g, 0 + i * 1 + t, none⟩ = false) := fun t ht => by
    rw [Nat.zero_add, Nat.mul_one]
    have := hcs.some_ (j := i + t) (by rw [hL]; omega)
    rw [Nat.zero_add] at this
    exact ⟨this, hfz _⟩
  obtain ⟨W1, hW1⟩ : ∃ W1, W1 = w.drew.setCells g (0 + i * 1) news := ⟨_, rfl⟩
  have hC1 : CellsAt W1 g 0 (vs.take i ++ (news ++ vs.drop (i + news.length))) := by
    rw [hW1, Nat.zero_add, Nat.mul_one]
    exact CellsAt.set (w := w.drew) hcs (by rw [hL]; omega)
  have hF1 : ∀ k, W1.frozen? ⟨g, k, none⟩ = false := fun k => by rw [hW1, World.frozen?_setCells]; exact hfz k
  have hl1 : (vs.take i ++ (news ++ vs.drop (i + news.length))).length = n := by
    rw [List.length_append, List.length_append, List.length_take, List.length_drop, hL]; omega
  have hS : ∀ t, t < (n - (i + (n - j))) * (Value.slice none 0 0).cells.size → (W1.cell? ⟨g, (i + (n - j)) + t, none⟩).isSome = true := fun t ht => by
    rw [show (Value.slice none 0 0).cells.size = 1 from rfl] at ht
    have := hC1.some_ (j := (i + (n - j)) + t) (by rw [hl1]; omega)
    rwa [Nat.zero_add] at this
  have hcl : ∀ ty, (Builtin.clear_ #[22] ty #[.slice (some ⟨g, (i + (n - j)), none⟩) (n - (i + (n - j))) (n - (i + (n - j)))]).run Try.prog W1 = .ok (.tuple #[]) (W1.setCells g ((i + (n - j))) (Builtin.zeroCells zP (n - (i + (n - j)))).toList) :=
    fun ty => run_clearN W1 22 27 ty _ Try.underlying22 zeroP zP_one g ((i + (n - j))) (n - (i + (n - j))) (n - (i + (n - j))) (by omega) hS (fun t _ => hF1 _)
  have HFIN : Hid (CellsAt (W1.setCells g ((i + (n - j))) (Builtin.zeroCells zP (n - (i + (n - j)))).toList) g 0 (vs.take i ++ vs.drop j)) := by
    have h3 := hC1.set (o := (i + (n - j))) (vs := (Builtin.zeroCells zP (n - (i + (n - j)))).toList) (by rw [hl1, zeroCells_len, zP_size]; omega)
    have e : (vs.take i ++ vs.drop j) = (vs.take i ++ (news ++ vs.drop (i + news.length))).take ((i + (n - j))) := by
      rw [← hnews, ← List.append_assoc, List.take_left' (by rw [List.length_append, List.length_take, hL, hlen]; omega)]
    have h4 := h3.take ((vs.take i ++ vs.drop j)).length
    rw [← e] at h4
    rw [List.take_left' rfl] at h4
    exact h4
  have HG : Hid (w.grownBy (W1.setCells g ((i + (n - j))) (Builtin.zeroCells zP (n - (i + (n - j)))).toList) (some g)) := by
    have h1 : w.drew.grownBy W1 (some g) := by rw [hW1]; exact grownBy_setCells g _ _ _
    exact grownBy_trans (grownBy_drew h1) (grownBy_setCells g _ _ _)
  have HW := Lib.hid hW1
  have HCL := Lib.hid hcl
  have HLEN := Lib.hid hlen
  have HSRC := hsrc
  have mixed : Try.prog.follows Departure.mixedOrders = true := by kernel_rfl
  clear hW1 hC1 hF1 hl1 hcl hS hcs hfz hL hnews hlen hsrc hln
  have e1 : (i : Int) < (j : Int) := by omega
  have e2 : (j : Int) ≤ (n : Int) := by omega
  have e3 : ¬ ((i : Int) = (j : Int)) := by omega
  have e4 : (i : Int) ≤ (j : Int) := by omega
  have e5 : (i : Int) ≤ (n : Int) := by omega
  have e6 : ((i : Int) == (j : Int)) = false := by rw [beq_eq_false_iff_ne]; exact e3
  have hic : i ≤ n := by omega
  go_enter Try.func47, Try.ntmps47
  go_wp2_with fail
  go_region_law_o (refine step_append_room rfl (.tmp 22) (.tmp 25) 22 rfl 27 i0 1 Try.underlying22 hi0 hzs g 0 i n (by simp [Act.eval, Act.put]) A (n - j) (n - j) news (by simp [Act.eval, Act.put]) (by rw [HLEN.out, Nat.mul_one]) HSRC.out s2.out (by omega) s3.out ?_; rw [← HW.out])
  have hcl := HCL.out
  have hne : ¬ n = i + (n - j) := by omega
  have hb1 : ((i + (n - j) : Nat) : Int) ≤ (n : Int) := by omega
  go_wp2
  go_ret
  exact ⟨rfl, HFIN.out, HG.out⟩

set_option maxHeartbeats 2000000 in
theorem mergeable_neg (A : Option Addr) (n c : Nat) (w : World) : Calls Try.prog 48 #[.slice A n c, .int .i64 (-1)] w fun e w' => e = .returned (.bool false) ∧ Drew w w' := by
  go_enter Try.func48, Try.ntmps48
  go_wp2_with fail
  go_quiet (fail)
  go_wp2_with fail
  go_ret
  exact ⟨rfl, ⟨_, rfl⟩⟩
set_option maxHeartbeats 4000000 in
theorem mergeable_nat (A : Option Addr) (n c B k : Nat) (p : Pg) (w : World) (hA : PgsAt w B A n p) (hn : n ≤ 100000) (hk : k < n) (hm : ∀ l ∈ p, l.length ≤ 100000) :
    Calls Try.prog 48 #[.slice A n c, .int .i64 (k : Int)] w fun e w' => e = .returned (.bool (canJ p k)) ∧ Drew w w' := by
  obtain ⟨b, o, A1, c1, rfl, -, h1, -, -⟩ := hA.at_ hk
  have hl1 : (p.getD k []).length ≤ 100000 := hm _ (by rw [pg_getD (by rw [hA.len]; exact hk)]; exact List.getElem_mem _)
  have HCJ : Hid (canJ p k = (decide (k + 1 < n) && decide ((p.getD k []).length + (p.getD (k + 1) []).length ≤ 6))) := by show _ = _; unfold canJ; rw [hA.len]
  generalize (p.getD k []).length = len1 at *
  have z1 : decide ((0 : Int) ≤ (k : Int)) = true := by simp
  have z2 : decide (0 ≤ k) = true := by simp
  by_cases hk1 : k + 1 < n
  · obtain ⟨b', o', A2, c2, e', -, h2, -, -⟩ := hA.at_ hk1
    obtain ⟨rfl, rfl⟩ : b' = b ∧ o' = o := by injection e' with e'; injection e' with e1 e2; exact ⟨e1.symm, e2.symm⟩
    have hl2 : (p.getD (k + 1) []).length ≤ 100000 := hm _ (by rw [pg_getD (by rw [hA.len]; exact hk1)]; exact List.getElem_mem _)
    clear hA e' hm
    generalize (p.getD (k + 1) []).length = len2 at *
    have x1 : decide ((k : Int) + 1 < (n : Int)) = true := by simp; omega
    have x2 : (k : Int) + 1 < (n : Int) := by omega
    have x3 : ((k : Int) + 1).toNat = k + 1 := by omega
    have x4 : (0 : Int) ≤ (k : Int) + 1 := by omega
    have x5 : (k : Int) < (n : Int) := by omega
    have h3 : w.cell? ⟨b', o' + (k + 1), none⟩ = some (.slice A2 len2 c2) := h2
    have y1 : IntKind.i64.wrap ((k : Int) + 1) = (k : Int) + 1 := by rw [IntKind.wrap_i64]; omega
    have y2 : IntKind.i64.wrap ((len1 : Int) + (len2 : Int)) = (len1 : Int) + (len2 : Int) := by rw [IntKind.wrap_i64]; omega
    have HD : Hid (canJ p k = decide ((len1 : Int) + (len2 : Int) ≤ 6)) := by
      show _ = _
      rw [HCJ.out]
      simp only [hk1, decide_true, Bool.true_and, decide_eq_decide]
      omega
    clear h2
    go_enter Try.func48, Try.ntmps48
    go_wp2_with fail
    go_quiet (fail)
    go_wp2_with fail
    go_ret
    exact ⟨ret_bool HD.out.symm, ⟨_, rfl⟩⟩
  · have x1 : decide ((k : Int) + 1 < (n : Int)) = false := by simp; omega
    have y1 : IntKind.i64.wrap ((k : Int) + 1) = (k : Int) + 1 := by rw [IntKind.wrap_i64]; omega
    have HD : Hid (canJ p k = false) := by show _ = _; rw [HCJ.out]; simp [hk1]
    clear hA hm
    go_enter Try.func48, Try.ntmps48
    go_wp2_with fail
    go_quiet (fail)
    go_wp2_with fail
    go_ret
    exact ⟨ret_bool HD.out.symm, ⟨_, rfl⟩⟩

theorem repl1_end_facts (g vb vc i n : Nat) (vs : List Value) (u : Value) (w : World) (hln : vs.length = n) (hn : n ≤ 100000) (hi : i + 2 = n) (hcs : CellsAt w g 0 vs) (hfz : ∀ k, w.frozen? ⟨g, k, none⟩ = false) (hvs : CellsAt w vb 0 [u]) (h1u : u.oneCell' = true) :
    ∃ W1 W2 : World, (∀ ty, (Builtin.append_ #[22, 22] ty #[.slice (some ⟨g, 0, none⟩) i n, .slice (some ⟨vb, 0, none⟩) 1 vc]).run Try.prog w = .ok (.slice (some ⟨g, 0, none⟩) (i + 1) n) W1) ∧
      (∀ ty, (Builtin.clear_ #[22] ty #[.slice (some ⟨g, i + 1, none⟩) (n - (i + 1)) (n - (i + 1))]).run Try.prog W1 = .ok (.tuple #[]) W2) ∧
      CellsAt W2 g 0 (vs.take i ++ [u]) ∧ w.grownBy W2 (some g) := by
  obtain ⟨i0, hi0, hz0, hzs, hzb⟩ := info_parts info27
  have h1l : ∀ v ∈ [u], v.oneCell' = true := fun v hv => by
    rw [List.mem_singleton] at hv
    rw [hv]; exact h1u
  have hsrc : Src Try.prog i0.size 22 (.slice (some ⟨vb, 0, none⟩) 1 vc) 1 [u] w := by
    rw [hzs]
    exact Src.ofSlice w Try.underlying22 ⟨vb, 0, none⟩ 1 vc [u] rfl (fun j v hj => by rw [Go.WideShapes.add_plain]; exact hvs j v hj) h1l
  have hc0 : ∀ j, j < [u].length → (w.cell? ⟨g, 0 + i * i0.size + j, none⟩).isSome = true := fun j hj => by
    rw [hzs, Nat.zero_add, Nat.mul_one]
    have hj0 : j = 0 := by simpa using hj
    subst hj0
    have := hcs.some_ (j := i) (by omega)
    rwa [Nat.zero_add] at this
  have hrun := fun ty => run_append_room_src (P := Try.prog) (w := w) 22 22 ty 27 i0 Try.underlying22 hi0 g 0 i n _ 1 [u] hsrc (by omega) hc0 (fun j _ => hfz _)
  rw [hzs, Nat.mul_one, Nat.zero_add] at hrun
  obtain ⟨W1, hW1⟩ : ∃ W1, W1 = w.setCells g i [u] := ⟨_, rfl⟩
  rw [← hW1] at hrun
  have hC1 : CellsAt W1 g 0 (vs.take i ++ ([u] ++ vs.drop (i + 1))) := by rw [hW1]; exact hcs.set (by simp; omega)
  have hl1 : (vs.take i ++ ([u] ++ vs.drop (i + 1))).length = n := by simp; omega
  have hF1 : ∀ k, W1.frozen? ⟨g, k, none⟩ = false := fun k => by rw [hW1, World.frozen?_setCells]; exact hfz k
  have hS : ∀ t, t < (n - (i + 1)) * (Value.slice none 0 0).cells.size → (W1.cell? ⟨g, (i + 1) + t, none⟩).isSome = true := fun t ht => by
    rw [show (Value.slice none 0 0).cells.size = 1 from rfl] at ht
    have := hC1.some_ (j := (i + 1) + t) (by rw [hl1]; omega)
    rwa [Nat.zero_add] at this
  have hcl := fun ty => run_clearN (P := Try.prog) W1 22 27 ty _ Try.underlying22 zeroP zP_one g (i + 1) (n - (i + 1)) (n - (i + 1)) (by omega) hS (fun t _ => hF1 _)
  refine ⟨W1, _, hrun, hcl, ?_, ?_⟩
  · have h3 := hC1.set (o := i + 1) (vs := (Builtin.zeroCells zP (n - (i + 1))).toList) (by rw [hl1, zeroCells_len, zP_size]; omega)
    have e : vs.take i ++ [u] = (vs.take i ++ ([u] ++ vs.drop (i + 1))).take (i + 1) := by
      rw [← List.append_assoc, List.take_left' (by simp; omega)]
    rw [← e] at h3
    have h4 := h3.take (vs.take i ++ [u]).length
    rw [List.take_left' rfl] at h4
    exact h4
  · have h1 : w.grownBy W1 (some g) := by rw [hW1]; exact grownBy_setCells g _ _ _
    exact grownBy_trans h1 (grownBy_setCells g _ _ _)
set_option maxHeartbeats 4000000 in
set_option maxRecDepth 100000 in
theorem replace1_end (g vb vc i n : Nat) (vs : List Value) (u : Value) (w : World) (hln : vs.length = n) (hn : n ≤ 100000) (hi : i + 2 = n) (hcs : CellsAt w g 0 vs) (hfz : ∀ k, w.frozen? ⟨g, k, none⟩ = false) (hvs : CellsAt w vb 0 [u]) (h1u : u.oneCell' = true) :
    Calls Try.prog 73 #[rowV g n, .int .i64 i, .int .i64 ((i : Int) + 2), .slice (some ⟨vb, 0, none⟩) 1 vc] w (RetDel w g (i + 1) n (vs.take i ++ [u])) := by
  obtain ⟨W1, W2, h1, h2, h3, h4⟩ := repl1_end_facts g vb vc i n vs u w hln hn hi hcs hfz hvs h1u
  have H1 := Lib.hid h1
  have H3 := Lib.hid h3
  have H4 := Lib.hid h4
  clear h1 h3 h4 hcs hfz hvs hln
  have e1 : (i : Int) ≤ (i : Int) + 2 := by omega
  have e2 : (i : Int) + 2 ≤ (n : Int) := by omega
  have e9 : (((i : Int) + 2) == (n : Int)) = true := by rw [beq_iff_eq]; omega
  have e10 : ((i : Int) == ((i : Int) + 2)) = false := by rw [beq_eq_false_iff_ne]; omega
  have e4 : (i : Int) ≤ (n : Int) := by omega
  have e5 : ((i : Int) + 1 < (n : Int)) := by omega
  have e6 : ¬ n = i + 1 := by omega
  have e7 : (i : Int) + 1 ≤ (n : Int) := by omega
  have e8 : ((i : Int) + 1).toNat = i + 1 := by omega
  clear hi
  go_enter Try.func73, Try.ntmps73
  go_wp2_with (at_builtin; refine Lib.wpList_append_run _ rfl _ _ _ _ rfl _ _ rfl rfl _ _ (H1.out _) ?_)
  go_ret
  exact ⟨rfl, H3.out, H4.out⟩

theorem repl1_facts (q g vb vc i n m : Nat) (vs : List Value) (u : Value) (w : World) (hln : vs.length = n) (hnm : n = m + 1) (hn : n ≤ 100000) (hi : i + 2 < n) (hcs : CellsAt w g 0 vs) (hfz : ∀ k, w.frozen? ⟨g, k, none⟩ = false) (hvs : CellsAt w vb 0 [u]) (h1u : u.oneCell' = true) (h1v : ∀ v ∈ vs, v.oneCell' = true) :
    ∃ W1 W2 W3 : World, (∀ ty dc, (Builtin.copy_ #[22, 22] ty #[.slice (some ⟨g, i, none⟩) (m - i) dc, .slice (some ⟨vb, 0, none⟩) 1 vc]).run Try.prog (w.drewN q) = .ok (goInt (Nat.min 1 (m - i))) W1) ∧
      (∀ ty dc sc, (Builtin.copy_ #[22, 22] ty #[.slice (some ⟨g, i + 1, none⟩) (m - (i + 1)) dc, .slice (some ⟨g, i + 2, none⟩) (n - (i + 2)) sc]).run Try.prog W1.drew = .ok (goInt (Nat.min (n - (i + 2)) (m - (i + 1)))) W2) ∧
      (∀ ty, (Builtin.clear_ #[22] ty #[.slice (some ⟨g, m, none⟩) (n - m) (n - m)]).run Try.prog W2 = .ok (.tuple #[]) W3) ∧
      CellsAt W3 g 0 (vs.take i ++ ([u] ++ vs.drop (i + 2))) ∧ w.grownBy W3 (some g) := by
  have h1l : ∀ v ∈ [u], v.oneCell' = true := fun v hv => by
    rw [List.mem_singleton] at hv
    rw [hv]; exact h1u
  have hS0 : ∀ j, j < n → (w.cell? ⟨g, j, none⟩).isSome = true := fun j hj => by have := hcs.some_ (j := j) (by omega); rwa [Nat.zero_add] at this
  have hcpA : ∀ ty dc, (Builtin.copy_ #[22, 22] ty #[.slice (some ⟨g, i, none⟩) (m - i) dc, .slice (some ⟨vb, 0, none⟩) 1 vc]).run Try.prog (w.drewN q) = .ok (goInt (Nat.min 1 (m - i))) ((w.drewN q).setCells g i [u]) := fun ty dc =>
    run_copyN (w.drewN q) 22 ty 27 1 g i (m - i) dc vb 0 1 vc [u] Try.underlying22 sizeP (by rw [show Nat.min 1 (m - i) = 1 from Nat.min_eq_left (by omega)]; rfl) hvs
      (fun j hj => by have hj0 : j = 0 := by simpa using hj
                      subst hj0
                      exact hS0 _ (by omega)) (fun j _ => hfz _) h1l
  obtain ⟨W1, hW1⟩ : ∃ W1, W1 = (w.drewN q).setCells g i [u] := ⟨_, rfl⟩
  rw [← hW1] at hcpA
  have hC1 : CellsAt W1 g 0 (vs.take i ++ ([u] ++ vs.drop (i + 1))) := by rw [hW1]; exact CellsAt.set (w := w.drewN q) hcs (by simp; omega)
  have hl1 : (vs.take i ++ ([u] ++ vs.drop (i + 1))).length = n := by simp; omega
  have hF1 : ∀ k, W1.frozen? ⟨g, k, none⟩ = false := fun k => by rw [hW1, World.frozen?_setCells]; exact hfz k
  have hdl : (vs.drop (i + 2)).length = n - (i + 2) := by rw [List.length_drop, hln]
  have hD1 : CellsAt W1.drew g (i + 2) (vs.drop (i + 2)) := fun j v hj => by
    have h2 := hC1.drop (i + 2) j v (by
      rw [← List.append_assoc, show i + 2 = (vs.take i ++ [u]).length + 1 by simp; omega, ← List.drop_drop, List.drop_left' rfl, List.drop_drop]
      exact hj)
    rwa [Nat.zero_add] at h2
  have hcpB : ∀ ty dc sc, (Builtin.copy_ #[22, 22] ty #[.slice (some ⟨g, i + 1, none⟩) (m - (i + 1)) dc, .slice (some ⟨g, i + 2, none⟩) (n - (i + 2)) sc]).run Try.prog W1.drew = .ok (goInt (Nat.min (n - (i + 2)) (m - (i + 1)))) (W1.drew.setCells g (i + 1) (vs.drop (i + 2))) := fun ty dc sc =>
    run_copyN W1.drew 22 ty 27 1 g (i + 1) (m - (i + 1)) dc g (i + 2) (n - (i + 2)) sc (vs.drop (i + 2)) Try.underlying22 sizeP (by rw [hdl, show Nat.min (n - (i + 2)) (m - (i + 1)) = n - (i + 2) from Nat.min_eq_left (by omega)]; omega) hD1
      (fun j hj => by have := hC1.some_ (j := i + 1 + j) (by rw [hl1]; omega); rw [Nat.zero_add] at this; exact this) (fun j _ => hF1 _) (fun v hv => h1v v (List.mem_of_mem_drop hv))
  obtain ⟨W2, hW2⟩ : ∃ W2, W2 = W1.drew.setCells g (i + 1) (vs.drop (i + 2)) := ⟨_, rfl⟩
  rw [← hW2] at hcpB
  have hC2 := CellsAt.set (w := W1.drew) (g := g) (o := i + 1) (vs := vs.drop (i + 2)) hC1 (by rw [hl1]; omega)
  rw [← hW2] at hC2
  have htk : (vs.take i ++ ([u] ++ vs.drop (i + 1))).take (i + 1) = vs.take i ++ [u] := by
    rw [← List.append_assoc, List.take_left' (by simp; omega)]
  rw [htk] at hC2
  obtain ⟨R, hR⟩ : ∃ R, R = (vs.take i ++ ([u] ++ vs.drop (i + 1))).drop (i + 1 + (vs.drop (i + 2)).length) := ⟨_, rfl⟩
  rw [← hR] at hC2
  have hRl : R.length = 1 := by rw [hR, List.length_drop, hl1]; omega
  have hl2 : (vs.take i ++ [u] ++ (vs.drop (i + 2) ++ R)).length = n := by simp [hRl]; omega
  have hF2 : ∀ k, W2.frozen? ⟨g, k, none⟩ = false := fun k => by rw [hW2, World.frozen?_setCells]; exact hF1 k
  have hcl := fun ty => run_clearN (P := Try.prog) W2 22 27 ty _ Try.underlying22 zeroP zP_one g m (n - m) (n - m) (by omega) (fun t ht => by
    rw [show (Value.slice none 0 0).cells.size = 1 from rfl] at ht
    have := hC2.some_ (j := m + t) (by rw [hl2]; omega)
    rwa [Nat.zero_add] at this) (fun t _ => hF2 _)
  refine ⟨W1, W2, _, hcpA, hcpB, hcl, ?_, ?_⟩
  · have h3 := hC2.set (o := m) (vs := (Builtin.zeroCells zP (n - m)).toList) (by rw [hl2, zeroCells_len, zP_size]; omega)
    have e : vs.take i ++ ([u] ++ vs.drop (i + 2)) = (vs.take i ++ [u] ++ (vs.drop (i + 2) ++ R)).take m := by
      rw [← List.append_assoc, ← List.append_assoc (vs.take i ++ [u]), List.take_left' (by simp; omega)]
    rw [← e] at h3
    have h4 := h3.take (vs.take i ++ ([u] ++ vs.drop (i + 2))).length
    rw [List.take_left' rfl] at h4
    exact h4
  · have g1 : (w.drewN q).grownBy W1 (some g) := by rw [hW1]; exact grownBy_setCells g _ _ _
    have g1' : w.grownBy W1 (some g) := ⟨g1.os, g1.tape, g1.output, g1.size, g1.block⟩
    have g2 : W1.grownBy W2 (some g) := by rw [hW2]; exact grownBy_drew (grownBy_setCells g _ _ _)
    exact grownBy_trans (grownBy_trans g1' g2) (grownBy_setCells g _ _ _)
set_option maxHeartbeats 4000000 in
set_option maxRecDepth 100000 in
theorem replace1_mid (g vb vc i n m : Nat) (vs : List Value) (u : Value) (w : World) (hln : vs.length = n) (hnm : n = m + 1) (hn : n ≤ 100000) (hi : i + 2 < n) (hcs : CellsAt w g 0 vs) (hfz : ∀ k, w.frozen? ⟨g, k, none⟩ = false) (hvs : CellsAt w vb 0 [u]) (h1u : u.oneCell' = true) (h1v : ∀ v ∈ vs, v.oneCell' = true) :
    Calls Try.prog 73 #[rowV g n, .int .i64 i, .int .i64 ((i : Int) + 2), .slice (some ⟨vb, 0, none⟩) 1 vc] w (RetDel w g m n (vs.take i ++ ([u] ++ vs.drop (i + 2)))) := by
  have HFACT := Lib.hid (fun q => repl1_facts q g vb vc i n m vs u w hln hnm hn hi hcs hfz hvs h1u h1v)
  clear hcs hfz hvs hln h1v
  have e1 : (i : Int) ≤ (i : Int) + 2 := by omega
  have e2 : (i : Int) + 2 ≤ (n : Int) := by omega
  have e9 : (((i : Int) + 2) == (n : Int)) = false := by rw [beq_eq_false_iff_ne]; omega
  have e10 : ((i : Int) == ((i : Int) + 2)) = false := by rw [beq_eq_false_iff_ne]; omega
  have e4 : (i : Int) ≤ (n : Int) := by omega
  have e8 : ((i : Int) + 1).toNat = i + 1 := by omega
  have e12 : ((i : Int) + 2).toNat = i + 2 := by omega
  have e13 : (i : Int) + 1 + ((n - (i + 2) : Nat) : Int) = (m : Int) := by omega
  have e14 : ¬ ((n : Int) < (m : Int)) := by omega
  have e15 : (m : Int) ≤ (n : Int) := by omega
  have e16 : (i : Int) ≤ (m : Int) := by omega
  have e17 : (i : Int) + 1 ≤ (m : Int) := by omega
  have e18 : (i : Int) + 1 ≤ (i : Int) + 2 := by omega
  have e19 : (0 : Int) ≤ (i : Int) + 1 := by omega
  have e20 : (0 : Int) ≤ (i : Int) + 2 := by omega
  have n1 : ¬ n = i := by omega
  have n2 : ¬ n = i + 1 := by omega
  have n3 : ¬ n = i + 2 := by omega
  have n4 : ¬ n = m := by omega
  have y1 : IntKind.i64.wrap ((i : Int) + 1) = (i : Int) + 1 := by rw [IntKind.wrap_i64]; omega
  have y2 : IntKind.i64.wrap ((i : Int) + 2) = (i : Int) + 2 := by rw [IntKind.wrap_i64]; omega
  have y3 : IntKind.i64.wrap (m : Int) = (m : Int) := by rw [IntKind.wrap_i64]; omega
  have HNM := Lib.hid hnm
  clear hnm hi
  have mixed : Try.prog.follows Departure.mixedOrders = true := by kernel_rfl
  go_enter Try.func73, Try.ntmps73
  go_wp2_with fail
  go_quiet (fail)
  obtain ⟨W1, W2, W3, h1, h2, h3, h4, h5⟩ := HFACT.out nq
  have HCA := Lib.hid h1
  have HCB := Lib.hid h2
  have HCL := Lib.hid h3
  have HFIN := Lib.hid h4
  have HG := Lib.hid h5
  clear h1 h2 h3 h4 h5 HFACT
  go_wp2_with fail
  rw [HCA.out 3 (n - i)]
  go_wp2_with fail
  go_region_law_o (refine Go.Proofs.step_copy_runI rfl _ _ 22 22 rfl (.slice (some ⟨g, i + 1, none⟩) (m - (i + 1)) (n - (i + 1))) (.slice (some ⟨g, i + 2, none⟩) (n - (i + 2)) (n - (i + 2))) (by simp [Act.eval, Act.put]) (by simp [Act.eval, Act.put]) (HCB.out 3 (n - (i + 1)) (n - (i + 2))) ?_)
  have hcl := HCL.out
  go_wp2
  go_ret
  exact ⟨rfl, HFIN.out, HG.out⟩
end Go.Proofs.Ytflijnhgonigjaa
