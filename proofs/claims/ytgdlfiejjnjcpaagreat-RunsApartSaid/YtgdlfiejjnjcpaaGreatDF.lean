/-
  WALKS of a deal: Changed, Undo, Commit. Condition: a deal on a calm slab.
-/
import Derived.Test.YtgdlfiejjnjcpaaGreatDE
set_option linter.unusedVariables false
set_option linter.unusedSimpArgs false
set_option maxRecDepth 100000
set_option maxHeartbeats 4000000
namespace Go.Proofs.YtgdlfiejjnjcpaaGreat.Dl
open Go.RowKit
open Sl (Turns SlabAt)
open Lg (Ch chCells chsCells chsCells_len chsCells_at chsCells_set Fit ChsAt FS LogAt Whole setL setL_len ownB bcell rightC cmD IntRow ints part_0 part_all part_len part_set bks bks_len bks_get Out)

theorem chgs_len {D : List ByteArray} {l : List Ch} : (chgs D l).length ≤ l.length := List.length_filter_le _ _
theorem chgs_fit {D : List ByteArray} {l : List Ch} (h : Inv D l) (hD : D.length ≤ 1000) : ∀ s ∈ chgs D l, s.fit := fun s hs => by
  have := (chgs_inv h).rng s hs
  exact ⟨by omega, by unfold Fit; omega⟩

theorem changed_any (B d q p pd pm k c : Nat) (D : List ByteArray) (l : List Ch) (v : Value) (w : World) (h : DS w B d q p pd pm k c D l v) :
    Calls Tryz.prog 11 #[.pointer (some ⟨d, 0, none⟩)] w fun e w' => ∃ g, e = .returned (.slice (some ⟨g, 0, none⟩) (chgs D l).length (chgs D l).length) ∧ w.heap.size ≤ g ∧ IntRow w' g (bks (chgs D l)) ∧ Below w.heap.size w w' := by
  have HC := Lib.hid (changes_any B d q p pd pm k c D l v w h)
  have HF := Lib.hid (chgs_fit h.inv h.most)
  have hl : (chgs D l).length ≤ 1000 := Nat.le_trans chgs_len h.ll
  clear h
  generalize chgs D l = l at *
  generalize hn : l.length = n at *
  have HLB : Hid ((bks l).length = n) := by show _ = _; rw [bks_len, hn]
  have HNN := Lib.hid hn
  clear hn
  have hmk := Lg.make_ints n (by omega)
  have HR := Lib.hid (fun w1 => IntRow.new w1 (List.replicate n 0))
  have HB : Hid (∀ w1, Below w.heap.size w w1 → Below w.heap.size w (w1.alloc (.cells (ints (List.replicate n 0)).toArray 3))) := fun w1 h1 => h1.alloc h1.size _
  generalize (ints (List.replicate n 0)).toArray = M at *
  go_enter Tryz.func11, Tryz.ntmps11
  go_wp2_with (go_at_call 29; refine HC.out.mono ?_
               rintro e w1 ⟨v1, rfl, r1, b1⟩
               obtain ⟨A, cap, rfl, hcap⟩ := Lg.own_slice r1
               have HA : Hid (ChsAt w1 w1.heap.size A n l) := by
                 have h := r1
                 rw [← HNN.out] at h
                 have h2 := ChsAt.of_own h rfl HF.out
                 rw [HNN.out] at h2
                 exact h2
               have hsz := b1.size)
  go_loopg [5, 6, 16] n (fun kx _ _ j wr => ∃ k : Nat, k ≤ n ∧ n - k ≤ kx ∧ j = .int .i64 (k : Int) ∧ IntRow wr w1.heap.size (Lg.part (bks l) k) ∧ Below w1.heap.size w1 wr)
  case atStart =>
    refine ⟨0, by omega, by omega, rfl, ?_, (Below.refl _ _).alloc (Nat.le_refl _) _⟩
    rw [part_0, HLB.out]; exact HR.out _
  case round =>
    obtain ⟨k, hk, hkx, rfl, hr, hb⟩ := hrel
    by_cases h1 : k < n
    · have hlt : (k : Int) < (n : Int) := by omega
      have x0 : (0 : Int) ≤ (k : Int) := by omega
      obtain ⟨b, o, rfl, hbB, hc0, hc1⟩ := HA.out.at_ h1
      have d0 := bcell hb hc0 (by show b < _; omega)
      have d1 := bcell hb hc1 (by show b < _; omega)
      have HN : Hid (∀ u t, IntRow (((wr.alloc (.cells u t))).setCell ⟨w1.heap.size, k, none⟩ (.int .i64 (l.getD k Ch.z).bk)) w1.heap.size (Lg.part (bks l) (k + 1))) := fun u t => by
        rw [← part_set (by rw [HLB.out]; exact h1), bks_get]
        exact (hr.alloc _).set _
      have HB2 : Hid (∀ u t, Below w1.heap.size w1 (((wr.alloc (.cells u t))).setCell ⟨w1.heap.size, k, none⟩ (.int .i64 (l.getD k Ch.z).bk))) := fun u t => (hb.alloc hb.size _).setCell (Nat.le_refl _) _
      have hkl : k < (Lg.part (bks l) k).length := by rw [part_len _ (by rw [HLB.out]; exact hk), HLB.out]; exact h1
      have hcell : ∀ u t, (wr.alloc (.cells u t)).cell? ⟨w1.heap.size, k, none⟩ = some (.int .i64 ((Lg.part (bks l) k).getD k 0)) := fun u t => (hr.alloc _).cell k hkl
      have hfz : ∀ u t, (wr.alloc (.cells u t)).frozen? ⟨w1.heap.size, k, none⟩ = false := fun u t => (hr.alloc _).fz k
      generalize (l.getD k Ch.z).bk = z at *
      generalize (l.getD k Ch.z).dt = s at *
      generalize (Lg.part (bks l) k).getD k 0 = z0 at *
      clear hc0 hc1 hr hb hkl
      go_wp2
      go_roundg (n - (k + 1))
      case rel => exact ⟨k + 1, h1, Nat.le_refl _, by push_cast; rfl, HN.out _ _, HB2.out _ _⟩
      case measure => omega
    · have hnlt : ¬ (k : Int) < (n : Int) := by omega
      have e : k = n := by omega
      have hr2 : IntRow wr w1.heap.size (bks l) := by rw [e, ← HLB.out, part_all] at hr; exact hr
      have HRR := Lib.hid hr2
      have HBB := Lib.hid (b1.trans (hb.mono hsz))
      clear hr hb hr2 e
      go_wp2
      go_ret
      exact ⟨w1.heap.size, rfl, hsz, HRR.out, HBB.out⟩
theorem changed_nil (w : World) : Calls Tryz.prog 11 #[.pointer none] w fun e w' => e = .returned (.slice none 0 0) ∧ w = w' := by
  go_enter Tryz.func11, Tryz.ntmps11
  go_wp2
  go_ret
  exact ⟨rfl, rfl⟩

def cmE (D : List ByteArray) (l : List Ch) : Int := if 40 < (chgs D l).length then 13 else 0
def newB (D : List ByteArray) (l : List Ch) : List ByteArray := if (chgs D l).length = 0 then D else cmD D (chgs D l)
theorem newB_len (D : List ByteArray) (l : List Ch) : (newB D l).length = D.length := by
  unfold newB
  split
  · rfl
  · exact Lg.cmD_len _ _
theorem newB_get {D : List ByteArray} {l : List Ch} (h : Inv D l) (hn : ¬ 40 < (chgs D l).length) {i : Nat} (hi : ownB (i : Int) = false) : (newB D l).getD i ⟨#[]⟩ = (setL D l).getD i ⟨#[]⟩ := by
  unfold newB
  split
  · rename_i h0
    have e : chgs D l = [] := List.eq_nil_of_length_eq_zero h0
    rw [← chgs_view h, e]; rfl
  · rw [Lg.cmD_get hi (by omega), chgs_view h]
theorem newB_whole {D : List ByteArray} {l : List Ch} (h : Inv D l) (hw : Whole D) (hn : ¬ 40 < (chgs D l).length) : Whole (newB D l) := by
  unfold newB
  split
  · exact hw
  · exact Lg.whole_cm hw (fun x hx => ((chgs_inv h).rng x hx).2.2.2) (by omega)

/-! ### Begin -/
theorem begin_any (q : Nat) (w : World) : Calls Tryz.prog 25 #[.pointer (some ⟨q, 0, none⟩)] w fun e w' => e = .returned (.tuple #[.pointer (some ⟨w.heap.size, 0, none⟩), .int .i64 0]) ∧ DealAt w' w.heap.size q (.slice none 0 0) ∧ w'.heap.size = w.heap.size + 1 ∧ Below w.heap.size w w' := by
  have HD : Hid (DealAt (w.alloc (.cells #[.slice none 0 0, .pointer (some ⟨q, 0, none⟩)] 102)) w.heap.size q (.slice none 0 0)) := heap_alloc_new w _
  have HB : Hid (Below w.heap.size w (w.alloc (.cells #[.slice none 0 0, .pointer (some ⟨q, 0, none⟩)] 102))) := (Below.refl _ _).alloc (Nat.le_refl _) _
  go_enter Tryz.func25, Tryz.ntmps25
  go_wp2
  go_ret2
  exact ⟨rfl, HD.out, World.size_alloc .., HB.out⟩
theorem begin_none (w : World) : Calls Tryz.prog 25 #[.pointer none] w fun e w' => e = .returned (.tuple #[.pointer none, .int .i64 1]) ∧ w = w' := by
  go_enter Tryz.func25, Tryz.ntmps25
  go_wp2
  go_ret2
  exact ⟨rfl, rfl⟩
end Go.Proofs.YtgdlfiejjnjcpaaGreat.Dl
