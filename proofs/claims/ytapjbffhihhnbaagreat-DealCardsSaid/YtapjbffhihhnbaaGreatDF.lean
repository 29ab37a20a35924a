/-
  WALKS of a deal: Changed, Undo, Commit. Condition: a deal on a calm slab.
-/
import Derived.Test.YtapjbffhihhnbaaGreatDE
set_option linter.unusedVariables false
set_option linter.unusedSimpArgs false
set_option maxRecDepth 100000
set_option maxHeartbeats 4000000
namespace Go.Proofs.YtapjbffhihhnbaaGreat.Dl
open Go.RowKit
open Sl (Turns SlabAt)
open Lg (Ch chCells chsCells chsCells_len chsCells_at chsCells_set Fit ChsAt FS LogAt Whole setL setL_len ownB bcell rightC cmD IntRow ints part_0 part_all part_len part_set bks bks_len bks_get Out)

theorem chgs_len {D : List ByteArray} {l : List Ch} : (chgs D l).length ≤ l.length := List.length_filter_le _ _
theorem chgs_fit {D : List ByteArray} {l : List Ch} (h : Inv D l) (hD : D.length ≤ 1000) : ∀ s ∈ chgs D l, s.fit := fun s hs => by
  have := (chgs_inv h).rng s hs
  exact ⟨by omega, by unfold Fit; omega⟩

theorem changed_any (B d q p pd pm k c : Nat) (D : List ByteArray) (l : List Ch) (v : Value) (w : World) (h : DS w B d q p pd pm k c D l v) :
    Calls Tryz.prog 14 #[.pointer (some ⟨d, 0, none⟩)] w fun e w' => ∃ g, e = .returned (.slice (some ⟨g, 0, none⟩) (chgs D l).length (chgs D l).length) ∧ w.heap.size ≤ g ∧ IntRow w' g (bks (chgs D l)) ∧ Below w.heap.size w w' := by
  have HC := Lib.hid (changes_any B d q p pd pm k c D l v w h)
  have HF := Lib.hid (chgs_fit h.inv h.most)
  have hl : (chgs D l).length ≤ 1000 := Nat.le_trans chgs_len h.ll
  clear h
  generalize chgs D l = l at *
  generalize hn : l.length = n at *
  have HLB : Hid ((bks l).length = n) := by show _ = _; rw [bks_len, hn]
  have HNN := Lib.hid hn
  clear hn
  have hmk := Lg.make_ints n (by omega)
  have HR := Lib.hid (fun w1 => IntRow.new w1 (List.replicate n 0))
  have HB : Hid (∀ w1, Below w.heap.size w w1 → Below w.heap.size w (w1.alloc (.cells (ints (List.replicate n 0)).toArray 3))) := fun w1 h1 => h1.alloc h1.size _
  generalize (ints (List.replicate n 0)).toArray = M at *
  go_enter Tryz.func14, Tryz.ntmps14
  go_wp2_with (go_at_call 43; refine HC.out.mono ?_
               rintro e w1 ⟨v1, rfl, r1, b1⟩
               obtain ⟨A, cap, rfl, hcap⟩ := Lg.own_slice r1
               have HA : Hid (ChsAt w1 w1.heap.size A n l) := by
                 have h := r1
                 rw [← HNN.out] at h
                 have h2 := ChsAt.of_own h rfl HF.out
                 rw [HNN.out] at h2
                 exact h2
               have hsz := b1.size)
  go_loopg [5, 6, 16] n (fun kx _ _ j wr => ∃ k : Nat, k ≤ n ∧ n - k ≤ kx ∧ j = .int .i64 (k : Int) ∧ IntRow wr w1.heap.size (Lg.part (bks l) k) ∧ Below w1.heap.size w1 wr)
  case atStart =>
    refine ⟨0, by omega, by omega, rfl, ?_, (Below.refl _ _).alloc (Nat.le_refl _) _⟩
    rw [part_0, HLB.out]; exact HR.out _
  case round =>
    obtain ⟨k, hk, hkx, rfl, hr, hb⟩ := hrel
    by_cases h1 : k < n
    · have hlt : (k : Int) < (n : Int) := by omega
      have x0 : (0 : Int) ≤ (k : Int) := by omega
      obtain ⟨b, o, rfl, hbB, hc0, hc1⟩ := HA.out.at_ h1
      have d0 := bcell hb hc0 (by show b < _; omega)
      have d1 := bcell hb hc1 (by show b < _; omega)
      have HN : Hid (∀ u t, IntRow (((wr.alloc (.cells u t))).setCell ⟨w1.heap.size, k, none⟩ (.int .i64 (l.getD k Ch.z).bk)) w1.heap.size (Lg.part (bks l) (k + 1))) := fun u t => by
        rw [← part_set (by rw [HLB.out]; exact h1), bks_get]
        exact (hr.alloc _).set _
      have HB2 : Hid (∀ u t, Below w1.heap.size w1 (((wr.alloc (.cells u t))).setCell ⟨w1.heap.size, k, none⟩ (.int .i64 (l.getD k Ch.z).bk))) := fun u t => (hb.alloc hb.size _).setCell (Nat.le_refl _) _
      have hkl : k < (Lg.part (bks l) k).length := by rw [part_len _ (by rw [HLB.out]; exact hk), HLB.out]; exact h1
      have hcell : ∀ u t, (wr.alloc (.cells u t)).cell? ⟨w1.heap.size, k, none⟩ = some (.int .i64 ((Lg.part (bks l) k).getD k 0)) := fun u t => (hr.alloc _).cell k hkl
      have hfz : ∀ u t, (wr.alloc (.cells u t)).frozen? ⟨w1.heap.size, k, none⟩ = false := fun u t => (hr.alloc _).fz k
      generalize (l.getD k Ch.z).bk = z at *
      generalize (l.getD k Ch.z).dt = s at *
      generalize (Lg.part (bks l) k).getD k 0 = z0 at *
      clear hc0 hc1 hr hb hkl
      go_wp2
      go_roundg (n - (k + 1))
      case rel => exact ⟨k + 1, h1, Nat.le_refl _, by push_cast; rfl, HN.out _ _, HB2.out _ _⟩
      case measure => omega
    · have hnlt : ¬ (k : Int) < (n : Int) := by omega
      have e : k = n := by omega
      have hr2 : IntRow wr w1.heap.size (bks l) := by rw [e, ← HLB.out, part_all] at hr; exact hr
      have HRR := Lib.hid hr2
      have HBB := Lib.hid (b1.trans (hb.mono hsz))
      clear hr hb hr2 e
      go_wp2
      go_ret
      exact ⟨w1.heap.size, rfl, hsz, HRR.out, HBB.out⟩
theorem changed_nil (w : World) : Calls Tryz.prog 14 #[.pointer none] w fun e w' => e = .returned (.slice none 0 0) ∧ w = w' := by
  go_enter Tryz.func14, Tryz.ntmps14
  go_wp2
  go_ret
  exact ⟨rfl, rfl⟩

theorem undo_any (B d q p pd pm k c : Nat) (D : List ByteArray) (l : List Ch) (v : Value) (w : World) (h : DS w B d q p pd pm k c D l v) :
    Calls Tryz.prog 30 #[.pointer (some ⟨d, 0, none⟩)] w fun e w' => e = .returned (.tuple #[]) ∧ DS w' B d q p pd pm k c D [] (.slice none 0 0) ∧ Turns [d] w w' := by
  have HF := Lib.hid (forget_any d q v w h.dl)
  have HD := Lib.hid h
  clear h
  go_enter Tryz.func30, Tryz.ntmps30
  go_wp2_with (go_at_call 51; refine HF.out.mono ?_; rintro e w' ⟨rfl, d2, t2⟩)
  go_end0
  have h := HD.out
  have hne : ∀ x ∈ [p, pd, pm], x ∉ [d] := fun x hx e => h.sep.dp (by rw [List.mem_singleton.1 e] at hx; exact hx)
  exact ⟨rfl, ⟨h.sep, Nat.le_trans h.hB t2.size, d2, h.lg.turns t2 (by simp; exact fun e => h.sep.dq e.symm), h.sl.kept t2 (hne p (by simp)) (hne pd (by simp)) (hne pm (by simp)), ⟨rfl, .inl ⟨rfl, rfl⟩⟩, Inv.nil D, h.wh, h.len⟩, t2⟩
theorem undo_nil (w : World) : Calls Tryz.prog 30 #[.pointer none] w fun e w' => e = .returned (.tuple #[]) ∧ w = w' := by
  go_enter Tryz.func30, Tryz.ntmps30
  go_wp2
  go_end0
  exact ⟨rfl, rfl⟩

def cmE (D : List ByteArray) (l : List Ch) : Int := if 40 < (chgs D l).length then 13 else 0
def newB (D : List ByteArray) (l : List Ch) : List ByteArray := if (chgs D l).length = 0 then D else cmD D (chgs D l)
theorem newB_len (D : List ByteArray) (l : List Ch) : (newB D l).length = D.length := by
  unfold newB
  split
  · rfl
  · exact Lg.cmD_len _ _
theorem newB_get {D : List ByteArray} {l : List Ch} (h : Inv D l) (hn : ¬ 40 < (chgs D l).length) {i : Nat} (hi : ownB (i : Int) = false) : (newB D l).getD i ⟨#[]⟩ = (setL D l).getD i ⟨#[]⟩ := by
  unfold newB
  split
  · rename_i h0
    have e : chgs D l = [] := List.eq_nil_of_length_eq_zero h0
    rw [← chgs_view h, e]; rfl
  · rw [Lg.cmD_get hi (by omega), chgs_view h]
theorem newB_whole {D : List ByteArray} {l : List Ch} (h : Inv D l) (hw : Whole D) (hn : ¬ 40 < (chgs D l).length) : Whole (newB D l) := by
  unfold newB
  split
  · exact hw
  · exact Lg.whole_cm hw (fun x hx => ((chgs_inv h).rng x hx).2.2.2) (by omega)

theorem lcommit_both (q k p pd pm : Nat) (D : List ByteArray) (c : Nat) (A : Option Addr) (c' : Nat) (l : List Ch) (w : World) (hQ : LogAt w q p k) (hS : SlabAt w p pd pm (FS D c)) (hA : ChsAt w w.heap.size A (chgs D l).length (chgs D l)) (hO : Out A [p, pd, pm])
    (hq : q ∉ [p, pd, pm]) (hI : Inv D l) (h40 : ¬ 40 < (chgs D l).length) (hc : c ≤ 600000) (hl : 42 ≤ D.length) (hk : k ≤ 1000000) :
    Calls Tryz.prog 50 #[.pointer (some ⟨q, 0, none⟩), .slice A (chgs D l).length c'] w fun e w' => e = .returned (.int .i64 0) ∧ (∃ k' c'', k' ≤ k + 1 ∧ c'' ≤ c + 100 ∧ LogAt w' q p k' ∧ SlabAt w' p pd pm (FS (newB D l) c'')) ∧ Turns [q, p, pd, pm] w w' := by
  have hri := right_is (chgs_inv hI)
  rw [if_neg h40] at hri
  unfold newB
  by_cases h0 : (chgs D l).length = 0
  · rw [if_pos h0]
    have e : chgs D l = [] := List.eq_nil_of_length_eq_zero h0
    rw [e] at hA ⊢
    refine (Lg.commit_none q k p pd pm D c A c' w.heap.size w hQ hS hA (Nat.le_refl _)).mono ?_
    rintro e w' ⟨rfl, b⟩
    exact ⟨rfl, ⟨k, c, by omega, by omega, hQ.below b hQ.lt, hS.keptB (Turns.of_below [] b)⟩, Turns.of_below _ b⟩
  · rw [if_neg h0]
    refine (Lg.commit_yes q k p pd pm D c A (chgs D l).length c' w.heap.size (chgs D l) w hQ hS hA (Nat.le_refl _) hO hq hri (by omega) hc hl hk).mono ?_
    rintro e w' ⟨rfl, h1, h2, h3⟩
    exact ⟨rfl, ⟨k + 1, c + 2 * (chgs D l).length + 6, by omega, by omega, h2, h1⟩, h3⟩

theorem commit_deal (B d q p pd pm k c : Nat) (D : List ByteArray) (l : List Ch) (v : Value) (w : World) (h : DS w B d q p pd pm k c D l v) (hc : c ≤ 600000) (hk : k ≤ 1000000) :
    Calls Tryz.prog 23 #[.pointer (some ⟨d, 0, none⟩)] w fun e w' => e = .returned (.int .i64 (cmE D l)) ∧
      (40 < (chgs D l).length → Below w.heap.size w w') ∧
      (¬ 40 < (chgs D l).length → ∃ k' c', k' ≤ k + 1 ∧ c' ≤ c + 100 ∧ DS w' B d q p pd pm k' c' (newB D l) [] (.slice none 0 0) ∧ Turns [d, q, p, pd, pm] w w') := by
  have HC := Lib.hid (fun (W : World) (hW : Below w.heap.size w W) => changes_any B d q p pd pm k c D l v W (h.below hW))
  have S0 := Lib.hid h.dl.c1
  have hdl := h.dl.lt
  have hln : (chgs D l).length ≤ 1000 := Nat.le_trans chgs_len h.ll
  have hf := chgs_fit h.inv h.most
  have hri := right_is (chgs_inv h.inv)
  have HL := Lib.hid h
  have DRW : Hid (Below w.heap.size w w.drew) := ⟨rfl, rfl, rfl, Nat.le_refl _, fun _ _ => rfl⟩
  by_cases h40 : 40 < (chgs D l).length
  · rw [if_pos h40] at hri
    have HCM := Lib.hid (fun (W : World) (hW : Below w.heap.size w W) (A : Option Addr) (c' : Nat) (hA : ChsAt W W.heap.size A (chgs D l).length (chgs D l)) =>
      Lg.commit_no q k p pd pm D c A (chgs D l).length c' W.heap.size (chgs D l) W (h.below hW).lg (h.below hW).sl hA (Nat.le_refl _) (by omega) (by rw [hri]; decide))
    rw [hri] at HCM
    unfold cmE
    rw [if_pos h40]
    have HF := Lib.hid hf
    have H40 := Lib.hid h40
    clear h hri hf h40
    generalize chgs D l = l1 at *
    go_enter Tryz.func23, Tryz.ntmps23
    go_wp2_with fail
    go_region_held3 (fun v' => v'.cell? ⟨d, 1, none⟩ = some (.pointer (some ⟨q, 0, none⟩)))
      (first | exact S0.out | exact S1.out | exact S3.out)
      (first
        | (go_at_call 50; go_must (go_fit (HCM.out _ B1.out _ _ HA1.out))
           rintro e w3 ⟨rfl, b3⟩
           have S3 := Lib.hid (bcell (B1.out.trans (b3.mono B1.out.size)) S0.out hdl))
        | (go_at_call 43; go_must (go_fit (HC.out _ DRW.out))
           rintro e w1 ⟨v1, rfl, r1, b1⟩
           have B1 : Hid (Below w.heap.size w w1) := DRW.out.trans (Below.mono b1 (Nat.le_refl _))
           have S1 := Lib.hid (bcell B1.out S0.out hdl)
           obtain ⟨A, cap, rfl, hcap⟩ := Lg.own_slice r1
           have HA1 := Lib.hid (ChsAt.of_own r1 rfl HF.out)
           clear r1 b1))
    all_goals
      go_wp2
      go_ret
      exact ⟨rfl, fun _ => B1.out.trans (b3.mono B1.out.size), fun hx => absurd H40.out hx⟩
  · have HCM := Lib.hid (fun (W : World) (hW : Below w.heap.size w W) (A : Option Addr) (c' : Nat) (hA : ChsAt W W.heap.size A (chgs D l).length (chgs D l)) (hO : Out A [p, pd, pm]) =>
      lcommit_both q k p pd pm D c A c' l W (h.below hW).lg (h.below hW).sl hA hO h.sep.qp h.inv h40 hc (by have := h.len; omega) hk)
    have HNW := Lib.hid (newB_whole h.inv h.wh h40)
    have HNL := Lib.hid (newB_len D l)
    have HFG := Lib.hid (fun (W : World) (hW : DealAt W d q v) => forget_any d q v W hW)
    unfold cmE
    rw [if_neg h40]
    have HF := Lib.hid hf
    have H40 := Lib.hid h40
    have hpl := h.sl.lt_p
    have hdl2 := h.sl.lt_d
    have hml := h.sl.lt_m
    have HOUT : Hid (∀ (A : Option Addr) (n c : Nat) (W : World) (l : List Ch), W.ownsRow w.heap.size 78 2 (.slice A n c) l.length (chsCells l) → Out A [p, pd, pm]) := fun A n c W l hr a ha => by
      have := (hr.lt a.block (by rw [ha]; rfl)).1
      simp; omega
    clear h hri hf h40 hpl hdl2 hml
    generalize newB D l = D2 at *
    generalize chgs D l = l1 at *
    go_enter Tryz.func23, Tryz.ntmps23
    go_wp2_with fail
    go_region_held3 (fun v' => v'.cell? ⟨d, 1, none⟩ = some (.pointer (some ⟨q, 0, none⟩)))
      (first | exact S0.out | exact S1.out | exact S3.out)
      (first
        | (go_at_call 50; go_must (go_fit (HCM.out _ B1.out _ _ HA1.out HO1.out))
           rintro e w3 ⟨rfl, ⟨k', c', hk', hc', lg3, sl3⟩, t3⟩
           have HT3 : Hid (Turns [q, p, pd, pm] w w3) := (Turns.of_below _ B1.out).trans t3
           have HD3 := Lib.hid (HL.out.dl.turns HT3.out (by have h1 := HL.out.sep.dq; have h2 := HL.out.sep.dp; simp at h2 ⊢; omega))
           have HLG := Lib.hid lg3
           have HSL := Lib.hid sl3
           have S3 := Lib.hid HD3.out.c1
           clear lg3 sl3 t3)
        | (go_at_call 43; go_must (go_fit (HC.out _ DRW.out))
           rintro e w1 ⟨v1, rfl, r1, b1⟩
           have B1 : Hid (Below w.heap.size w w1) := DRW.out.trans (Below.mono b1 (Nat.le_refl _))
           have S1 := Lib.hid (bcell B1.out S0.out hdl)
           obtain ⟨A, cap, rfl, hcap⟩ := Lg.own_slice r1
           have HA1 := Lib.hid (ChsAt.of_own r1 rfl HF.out)
           have HO1 := Lib.hid (HOUT.out _ _ _ _ _ r1)
           clear r1 b1))
    all_goals
      go_wp2_with (go_at_call 51; refine (HFG.out _ HD3.out).mono ?_; rintro e w4 ⟨rfl, d4, t4⟩)
      go_ret
      refine ⟨rfl, fun hx => absurd hx H40.out, fun _ => ⟨k', c', hk', hc', ?_, ?_⟩⟩
      · have h := HL.out
        have hne : ∀ x ∈ [p, pd, pm], x ∉ [d] := fun x hx e => h.sep.dp (by rw [List.mem_singleton.1 e] at hx; exact hx)
        exact ⟨h.sep, Nat.le_trans h.hB (Nat.le_trans HT3.out.size t4.size), d4, HLG.out.turns t4 (by simp; exact fun e => h.sep.dq e.symm), HSL.out.kept t4 (hne p (by simp)) (hne pd (by simp)) (hne pm (by simp)), ⟨rfl, .inl ⟨rfl, rfl⟩⟩, Inv.nil _, HNW.out, by rw [HNL.out]; exact h.len⟩
      · exact (HT3.out.mono (by intro j hj; exact List.mem_cons_of_mem _ hj)).trans (t4.mono (by intro j hj; rw [List.mem_singleton.1 hj]; simp))
theorem commit_nil (w : World) : Calls Tryz.prog 23 #[.pointer none] w fun e w' => e = .returned (.int .i64 1) ∧ w = w' := by
  go_enter Tryz.func23, Tryz.ntmps23
  go_wp2
  go_ret
  exact ⟨rfl, rfl⟩

/-! ### Begin -/
theorem begin_any (q : Nat) (w : World) : Calls Tryz.prog 19 #[.pointer (some ⟨q, 0, none⟩)] w fun e w' => e = .returned (.tuple #[.pointer (some ⟨w.heap.size, 0, none⟩), .int .i64 0]) ∧ DealAt w' w.heap.size q (.slice none 0 0) ∧ w'.heap.size = w.heap.size + 1 ∧ Below w.heap.size w w' := by
  have HD : Hid (DealAt (w.alloc (.cells #[.slice none 0 0, .pointer (some ⟨q, 0, none⟩)] 87)) w.heap.size q (.slice none 0 0)) := heap_alloc_new w _
  have HB : Hid (Below w.heap.size w (w.alloc (.cells #[.slice none 0 0, .pointer (some ⟨q, 0, none⟩)] 87))) := (Below.refl _ _).alloc (Nat.le_refl _) _
  go_enter Tryz.func19, Tryz.ntmps19
  go_wp2
  go_ret2
  exact ⟨rfl, HD.out, World.size_alloc .., HB.out⟩
theorem begin_none (w : World) : Calls Tryz.prog 19 #[.pointer none] w fun e w' => e = .returned (.tuple #[.pointer none, .int .i64 1]) ∧ w = w' := by
  go_enter Tryz.func19, Tryz.ntmps19
  go_wp2
  go_ret2
  exact ⟨rfl, rfl⟩
end Go.Proofs.YtapjbffhihhnbaaGreat.Dl
