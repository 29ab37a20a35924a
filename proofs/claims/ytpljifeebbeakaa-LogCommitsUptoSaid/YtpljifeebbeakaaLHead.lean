/-
  WALKS: head, blocksOf, changeable. Conditions: at most 40 blocks in a head, at most 300 changes or blocks elsewhere.
-/
import Derived.Test.YtpljifeebbeakaaLSmall
namespace Go.Proofs.Ytpljifeebbeakaa
open Go.RowKit
open Sl (St SlabAt)

theorem cons_fit {l : List Int} {n : Nat} (h : ∀ z ∈ l, Fit z) (hn : n ≤ 1000) : ∀ z ∈ (n : Int) :: l, Fit z := by
  intro z hz
  rcases List.mem_cons.1 hz with e | e
  · rw [e]; unfold Fit; omega
  · exact h z e
set_option maxHeartbeats 2000000 in
theorem head_any (A : Option Addr) (n c B : Nat) (l : List Int) (w : World) (hA : IntsAt w B A n l) (hB : B ≤ w.heap.size) (hn : n ≤ 40) :
    Calls Try.prog 51 #[.slice A n c] w fun e w' => e = .returned (.string (headB l)) ∧ Below w.heap.size w w' := by
  have hl := hA.len
  have HO : Hid ((w.alloc (.cells #[.int .i64 n] 3)).ownsRow w.heap.size 3 1 (.slice (some ⟨w.heap.size, 0, none⟩) 1 1) 1 (ints [(n : Int)])) := own_new w (ints [(n : Int)]) 3 1 1 rfl (by decide)
  have HA := Lib.hid (hA.alloc hB (.cells #[.int .i64 n] 3))
  have HB : Hid (Below w.heap.size w (w.alloc (.cells #[.int .i64 n] 3))) := (Below.refl _ _).alloc (Nat.le_refl _) _
  have HP := Lib.hid (head_pad (bl := l) (by omega))
  have HCF := Lib.hid (cons_fit (n := n) hA.2.1 (by omega))
  have HSZ : Hid ((strOfNums (writeR (hdW l.length) (l.length :: l)).1).size ≤ 200) := by
    show _ ≤ _
    have := write_len l.length (l.length :: l)
    rw [strOf_size]; omega
  rw [hl] at HP HSZ
  have HL := Lib.hid hl
  generalize headB l = bk at *
  clear hA hl
  go_enter Try.func51, Try.ntmps51
  go_wp2_with (at_builtin; refine joinI_law rfl (.tmp 10) (.tmp 11) rfl w.heap.size _ (.slice (some ⟨w.heap.size, 0, none⟩) 1 1) [(n : Int)] rfl _ A n c l rfl HO.out HA.out (by simp; omega) HB.out.size ?_)
  intro v' w2 ho hb
  obtain ⟨A2, c2, rfl, hc⟩ := own_sliceI ho
  have ho' : w2.ownsRow w.heap.size 3 1 (.slice A2 ((n : Int) :: l).length c2) ((n : Int) :: l).length (ints ((n : Int) :: l)) := ho
  have HV := IntsAt.of_own ho' rfl HCF.out
  have e2 : ((n : Int) :: l).length = n + 1 := by simp [HL.out]
  rw [e2] at HV
  have HV2 := Lib.hid HV
  have HB2 := Lib.hid (HB.out.trans hb)
  rw [HL.out]
  clear HV ho ho' hb e2 HO HA HB
  go_wp2_with fail
  refine (hdW_any n _ hn).mono ?_
  rintro e w3 ⟨A3, c3, rfl, h3, b3⟩
  have HB3 := Lib.hid (HB2.out.trans (b3.mono HB2.out.size))
  have HW := Lib.hid (write_any A3 A2 (n + 1) c3 (n + 1) c2 w3.heap.size (hdW n) ((n : Int) :: l) w3 h3 ((HV2.out.below b3 (Nat.le_refl _)).more b3.size) (Nat.le_refl _) (by omega) (by omega))
  clear h3 b3
  have HPD := Lib.hid (fun v : World => Sl.pad_any (strOfNums (writeR (hdW n) ((n : Int) :: l)).1) 128 v (by have := HSZ.out; omega) (by omega))
  rw [HP.out] at HPD
  generalize writeR (hdW n) ((n : Int) :: l) = wr at *
  go_wp2_with fail
  refine HW.out.mono ?_
  rintro e w4 ⟨rfl, b4⟩
  have HB4 := Lib.hid (HB3.out.trans (b4.mono HB3.out.size))
  clear b4
  go_wp2_with fail
  refine (HPD.out _).mono ?_
  rintro e w5 ⟨rfl, b5⟩
  have HB5 := Lib.hid (HB4.out.trans (b5.mono HB4.out.size))
  clear b5
  go_wp2
  go_ret
  exact ⟨rfl, HB5.out⟩

theorem IntRow.set {w : World} {g k : Nat} {l : List Int} (h : IntRow w g l) (z : Int) : IntRow (w.setCell ⟨g, k, none⟩ (.int .i64 z)) g (l.set k z) := by
  unfold IntRow at *
  rw [Sl.heap_setCell_same w g k _ h]
  congr 2
  apply Array.ext'
  simp [Ytpljifeebbeakaa.ints, List.map_set]
theorem IntRow.fz {w : World} {g : Nat} {l : List Int} (h : IntRow w g l) (k : Nat) : w.frozen? ⟨g, k, none⟩ = false := by
  unfold IntRow at h
  simp [World.frozen?, h]
/-- the first k of l, and zeros behind them. -/
def part (l : List Int) (k : Nat) : List Int := l.take k ++ List.replicate (l.length - k) 0
theorem part_set {l : List Int} {k : Nat} (h : k < l.length) : (part l k).set k (l.getD k 0) = part l (k + 1) := by
  apply List.ext_getElem?
  intro j
  unfold part
  rw [List.getElem?_set]
  by_cases e : k = j
  · subst e
    rw [if_pos rfl, if_pos (by simp; omega), List.getElem?_append_left (by simp; omega), List.getElem?_take_of_lt (by omega)]
    simp [List.getD, h]
  · rw [if_neg e]
    by_cases hj : j < k
    · rw [List.getElem?_append_left (by simp; omega), List.getElem?_append_left (by simp; omega), List.getElem?_take_of_lt hj, List.getElem?_take_of_lt (by omega)]
    · rw [List.getElem?_append_right (by simp; omega), List.getElem?_append_right (by simp; omega)]
      simp only [List.getElem?_replicate, List.length_take]
      have : (j - min k l.length < l.length - k) ↔ (j - min (k + 1) l.length < l.length - (k + 1)) := by omega
      simp only [this]
theorem part_0 (l : List Int) : part l 0 = List.replicate l.length 0 := by simp [part]
theorem part_all (l : List Int) : part l l.length = l := by simp [part]
theorem part_len (l : List Int) {k : Nat} (h : k ≤ l.length) : (part l k).length = l.length := by simp [part]; omega

set_option maxRecDepth 100000 in
set_option maxHeartbeats 2000000 in
theorem blocksOf_any (A : Option Addr) (n c B : Nat) (l : List Ch) (w : World) (hA : ChsAt w B A n l) (hB : B ≤ w.heap.size) (hn : n ≤ 1000) :
    Calls Try.prog 42 #[.slice A n c] w fun e w' => e = .returned (.slice (some ⟨w.heap.size, 0, none⟩) n n) ∧ IntRow w' w.heap.size (bks l) ∧ Below w.heap.size w w' := by
  have hmk := make_ints n (by omega)
  have hlen := hA.len
  have HLB : Hid ((bks l).length = n) := by show _ = _; rw [bks_len, hlen]
  have HR := Lib.hid (IntRow.new w (List.replicate n 0))
  have HB : Hid (Below w.heap.size w (w.alloc (.cells (ints (List.replicate n 0)).toArray 3))) := (Below.refl _ _).alloc (Nat.le_refl _) _
  have HA := Lib.hid hA
  generalize (ints (List.replicate n 0)).toArray = M at *
  clear hA hlen
  go_enter Try.func42, Try.ntmps42
  go_wp2
  go_loopw [4, 5, 11] (fun _ _ j wr => ∃ k : Nat, k ≤ n ∧ j = .int .i64 (k : Int) ∧ IntRow wr w.heap.size (part (bks l) k) ∧ Below w.heap.size w wr) (fun _ _ j _ => n - (intOf j).toNat)
  case atStart =>
    refine ⟨0, by omega, rfl, ?_, HB.out⟩
    rw [part_0, HLB.out]; exact HR.out
  case round =>
    obtain ⟨k, hk, rfl, hr, hb⟩ := hrel
    by_cases h1 : k < n
    · have hlt : (k : Int) < (n : Int) := by omega
      have x0 : (0 : Int) ≤ (k : Int) := by omega
      obtain ⟨b, o, rfl, hbB, hc0, hc1⟩ := HA.out.at_ h1
      have d0 := bcell hb hc0 (by show b < _; omega)
      have d1 := bcell hb hc1 (by show b < _; omega)
      have HN : Hid (∀ u t, IntRow (((wr.alloc (.cells u t))).setCell ⟨w.heap.size, k, none⟩ (.int .i64 (l.getD k Ch.z).bk)) w.heap.size (part (bks l) (k + 1))) := fun u t => by
        rw [← part_set (by rw [HLB.out]; exact h1), bks_get]
        exact (hr.alloc _).set _
      have HB2 : Hid (∀ u t, Below w.heap.size w (((wr.alloc (.cells u t))).setCell ⟨w.heap.size, k, none⟩ (.int .i64 (l.getD k Ch.z).bk))) := fun u t => (hb.alloc hb.size _).setCell (Nat.le_refl _) _
      have hkl : k < (part (bks l) k).length := by rw [part_len _ (by rw [HLB.out]; exact hk), HLB.out]; exact h1
      have hcell : ∀ u t, (wr.alloc (.cells u t)).cell? ⟨w.heap.size, k, none⟩ = some (.int .i64 ((part (bks l) k).getD k 0)) := fun u t => (hr.alloc _).cell k hkl
      have hfz : ∀ u t, (wr.alloc (.cells u t)).frozen? ⟨w.heap.size, k, none⟩ = false := fun u t => (hr.alloc _).fz k
      generalize (l.getD k Ch.z).bk = z at *
      generalize (l.getD k Ch.z).dt = s at *
      generalize (part (bks l) k).getD k 0 = z0 at *
      clear hc0 hc1 hr hb hkl
      go_wp2
      go_roundw
      case rel => exact ⟨k + 1, h1, by push_cast; rfl, HN.out _ _, HB2.out _ _⟩
      case measure => simp only [intOf]; omega
    · have hnlt : ¬ (k : Int) < (n : Int) := by omega
      have e : k = n := by omega
      have hr2 : IntRow wr w.heap.size (bks l) := by rw [e, ← HLB.out, part_all] at hr; exact hr
      have HRR := Lib.hid hr2
      have HBB := Lib.hid hb
      clear hr hb hr2 e
      go_wp2
      go_ret
      exact ⟨rfl, HRR.out, HBB.out⟩
set_option maxHeartbeats 4000000 in
theorem changeable_any (p pd pm : Nat) (σ : St) (A : Option Addr) (n c B : Nat) (l : List Int) (w : World) (hS : SlabAt w p pd pm σ) (hA : IntsAt w B A n l) (hn : n ≤ 1000) (hnc : n ≤ c) :
    Calls Try.prog 41 #[.pointer (some ⟨p, 0, none⟩), .slice A n c] w fun e w' => e = .returned (.bool (chB σ.dur.length l)) ∧ w = w' := by
  have HL := Lib.hid hA.len
  have HA := Lib.hid hA
  have HS := Lib.hid (Sl.size_any p pd pm σ w hS)
  have hN := hS.len
  generalize σ.dur.length = N at *
  obtain ⟨b0, hb0⟩ : ∃ b0, b0 = chB N l := ⟨_, rfl⟩
  rw [← hb0]
  have HB0 := Lib.hid hb0
  clear hA hS hb0
  go_enter Try.func41, Try.ntmps41
  go_wp2
  go_loopw [5, 6, 7, 8, 11] (fun _ _ _ _ j wr => ∃ k : Nat, k ≤ n ∧ j = .int .i64 (k : Int) ∧ (∀ i, i < k → okAt N l i = true) ∧ wr = w) (fun _ _ _ _ j _ => n - (intOf j).toNat)
  case atStart => exact ⟨0, by omega, rfl, fun i hi => by omega, rfl⟩
  case round =>
    obtain ⟨k, hk, rfl, hok, rfl⟩ := hrel
    have HOK := Lib.hid hok
    clear hok
    by_cases h1 : k < n
    · have hlt : (k : Int) < (n : Int) := by omega
      have x0 : (0 : Int) ≤ (k : Int) := by omega
      have x1 : ¬ (c : Int) < (k : Int) := by omega
      obtain ⟨b, o, rfl, hb, hcell⟩ := HA.out.at_ h1
      have HC := Lib.hid (fun y : Int => contains_any _ k c B (l.take k) y wr (HA.out.take k (by omega)) (by omega))
      have HT := Lib.hid (okAt_t (N := N) (l := l) (k := k))
      have HNO := Lib.hid (fun h => chB_no (N := N) (l := l) (k := k) (by rw [HL.out]; exact h1) h)
      have HF : Hid (∀ h : ¬ okAt N l k = true, b0 = false) := fun h => by rw [HB0.out]; exact HNO.out (by simpa using h)
      have HKK : Hid (l.take k = (l.take k)) := rfl
      generalize l.getD k 0 = y at *
      have HQ : Hid (∀ h : okAt N l k = true, ∀ i, i < k + 1 → okAt N l i = true) := fun h i hi => by
        by_cases e : i = k
        · rw [e]; exact h
        · exact HOK.out i (by omega)
      clear HKK HOK HNO
      cases g0 : decide ((0 : Int) ≤ y) <;> cases g1 : decide ((1 : Int) ≤ y) <;> cases gN : decide (y < (N : Int)) <;> cases g2 : decide (y < 42) <;> cases gc : (l.take k).contains y
      all_goals try (exfalso; simp only [decide_eq_true_eq, decide_eq_false_iff_not] at g0 g1 gN g2; omega)
      all_goals
        have GC := Lib.hid gc
        clear gc
        go_wp2_with (first
          | (go_at_call 27; refine HS.out.mono ?_; rintro e w3 ⟨rfl, rfl⟩)
          | (go_at_call 63; refine (HC.out _).mono ?_; rintro e w3 ⟨rfl, rfl⟩; rw [GC.out]))
        first
          | (go_ret
             rw [HF.out (fun h => by
               have h2 := HT.out.1 h
               rw [GC.out] at h2
               simp only [decide_eq_true_eq, decide_eq_false_iff_not] at g0 g1 gN g2
               first | omega | (obtain ⟨_, _, _, h3⟩ := h2; cases h3))]
             exact ⟨rfl, by first | rfl | trivial⟩)
          | (go_roundw
             case rel =>
               refine ⟨k + 1, h1, by push_cast; rfl, HQ.out (HT.out.2 ?_), by first | rfl | trivial⟩
               simp only [decide_eq_true_eq, decide_eq_false_iff_not] at g0 g1 gN g2
               exact ⟨by omega, by omega, by omega, GC.out⟩
             case measure => simp only [intOf]; omega)
    · have hnlt : ¬ (k : Int) < (n : Int) := by omega
      have e : k = n := by omega
      have hm : b0 = true := by rw [HB0.out]; exact chB_t.2 fun i hi => HOK.out i (by rw [HL.out] at hi; omega)
      have HM := Lib.hid hm
      clear hm e
      go_wp2
      go_ret
      exact ⟨by rw [HM.out]; rfl, by first | rfl | trivial⟩
end Go.Proofs.Ytpljifeebbeakaa
