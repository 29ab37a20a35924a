/-
  WALKS: isFree, isNode, place with its closure and slices.IndexFunc, Find; the reference's node, Find, Same; early. Conditions: at most 100000 entries.
-/
import Derived.Test.YtmmjpdggneagdaaEWords
import Derived.Deep.QuietTactic
import Derived.BigQuiet
namespace Go.Proofs.Ytmmjpdggneagdaa
open Go.RowKit

set_option maxHeartbeats 1000000 in
theorem isFree_is (b : Bool) (s : ByteArray) (n : Int) (w : World) (h : freeB ⟨s, n⟩ = b) : Calls Try.prog 30 #[.agg #[.string s, .int .i64 n]] w fun e w' => e = .returned (.bool b) ∧ Below w.heap.size w w' := by
  have HF := Lib.hid h
  clear h
  go_enter Try.func30, Try.ntmps30
  go_wp2
  all_goals
    go_ret
    refine ⟨ret_bool (Eq.trans ?_ HF.out), (Below.refl _ _).alloc (Nat.le_refl _) _⟩
    unfold freeB
    simp_all

set_option maxHeartbeats 1000000 in
theorem isNode_any (z : Int) (w : World) : Calls Try.prog 32 #[.int .i64 z] w fun e w' => e = .returned (.bool (nodeB z)) ∧ w = w' := by
  go_enter Try.func32, Try.ntmps32
  go_wp2
  all_goals
    go_ret
    refine ⟨ret_bool ?_, rfl⟩
    unfold nodeB
    simp_all
  all_goals (try (intro; omega))
set_option maxHeartbeats 1000000 in
theorem rnode_any (z : Int) (w : World) : Calls Try.prog 33 #[.int .i64 z] w fun e w' => e = .returned (.bool (nodeB z)) ∧ w = w' := by
  go_enter Try.func33, Try.ntmps33
  go_wp2
  all_goals
    go_ret
    refine ⟨ret_bool ?_, rfl⟩
    unfold nodeB
    simp_all
  all_goals (try (intro; omega))

set_option maxHeartbeats 1000000 in
theorem named_is (v : Bool) (s t : ByteArray) (n : Int) (w : World) (b : Nat) (hb : w.cell? ⟨b, 0, none⟩ = some (.string t)) (hlt : b < w.heap.size) (h : eqB s t = v) :
    Calls Try.prog 46 #[.agg #[.string s, .int .i64 n], .pointer (some ⟨b, 0, none⟩)] w fun e w' => e = .returned (.bool v) ∧ Below w.heap.size w w' := by
  have HF := Lib.hid h
  clear h
  go_enter Try.func46, Try.ntmps46
  go_wp2
  go_ret
  exact ⟨ret_bool HF.out, (Below.refl _ _).alloc (Nat.le_refl _) _⟩

theorem ret_idx {p : En → Bool} {l : List En} {z : Int} (h : idx p l = z) : Ending.returned (.int .i64 z) = .returned (.int .i64 (idx p l)) := by rw [h]

set_option maxHeartbeats 2000000 in
theorem indexFree_any (A : Option Addr) (n c B : Nat) (l : List En) (w : World) (hA : EnsAt w B A n l) (hB : B ≤ w.heap.size) (hn : n ≤ 100000) :
    Calls Try.prog 36 #[.slice A n c, .func (.func 30) #[] #[]] w fun e w' => e = .returned (.int .i64 (idx freeB l)) ∧ Below w.heap.size w w' := by
  have HL := Lib.hid hA.len
  have HA := Lib.hid hA
  clear hA
  go_enter Try.func36, Try.ntmps36
  go_wp2
  go_loopw [5, 8] (fun _ i wr => ∃ k : Nat, k ≤ n ∧ i = .int .i64 (k : Int) ∧ Hid (∀ j, j < k → freeB (l.getD j En.z) = false) ∧ Below w.heap.size w wr) (fun _ i _ => n - (intOf i).toNat)
  case atStart => exact ⟨0, by omega, rfl, fun j hj => absurd hj (Nat.not_lt_zero _), Below.refl _ _⟩
  case round =>
    obtain ⟨k, hk, rfl, hok, hb⟩ := hrel
    by_cases hlt : k < n
    · obtain ⟨b, o, rfl, hbB, h1, h2⟩ := HA.out.at_ hlt
      have hbl : b < w.heap.size := by omega
      have c1 := bcell hb h1 hbl
      have c2 := bcell hb h2 hbl
      have HB := Lib.hid hb
      have HF : Hid (∀ v, freeB (l.getD k En.z) = v → ∀ w, Calls Try.prog 30 #[.agg #[.string (l.getD k En.z).nm, .int .i64 (l.getD k En.z).nd]] w _) := fun v hv w => isFree_is v (l.getD k En.z).nm (l.getD k En.z).nd w hv
      cases hv : freeB (l.getD k En.z) with
      | true =>
        have HR := Lib.hid (idx_found (p := freeB) (l := l) (k := k) (by rw [HL.out]; exact hlt) hok.out hv)
        have HC := Lib.hid (HF.out _ hv)
        clear hb h1 h2 hv HF
        generalize l.getD k En.z = x at *
        obtain ⟨s, z⟩ := x
        simp only at c1 c2 HC
        go_wp2_with fail
        refine (HC.out _).mono ?_
        rintro e w1 ⟨rfl, b1⟩
        go_wp2
        go_ret
        exact ⟨ret_idx HR.out, HB.out.trans (b1.mono HB.out.size)⟩
      | false =>
        have HV := Lib.hid hv
        have HC := Lib.hid (HF.out _ hv)
        clear hb h1 h2 hv HF
        generalize hX : l.getD k En.z = x at *
        have HX := Lib.hid hX
        clear hX
        obtain ⟨s, z⟩ := x
        simp only at c1 c2 HC
        go_wp2_with fail
        refine (HC.out _).mono ?_
        rintro e w1 ⟨rfl, b1⟩
        go_wp2
        go_roundw
        case rel => exact ⟨k + 1, by omega, by go_num, fun j hj => by
          rcases Nat.lt_or_ge j k with h' | h'
          · exact hok.out j h'
          · obtain rfl : j = k := by omega
            rw [HX.out]; exact HV.out, HB.out.trans (b1.mono HB.out.size)⟩
        case measure => simp [intOf]; omega
    · have HR := Lib.hid (idx_none (p := freeB) (l := l) (fun j hj => hok.out j (by rw [HL.out] at hj; omega)))
      go_wp2
      go_ret
      exact ⟨ret_idx HR.out, hb⟩

set_option maxHeartbeats 2000000 in
theorem indexName_any (A : Option Addr) (n c B : Nat) (l : List En) (t : ByteArray) (q : Nat) (w : World) (hA : EnsAt w B A n l) (hB : B ≤ w.heap.size) (hn : n ≤ 100000) (hq : w.cell? ⟨q, 0, none⟩ = some (.string t)) (hql : q < w.heap.size) :
    Calls Try.prog 36 #[.slice A n c, .func (.func 46) #[] #[.pointer (some ⟨q, 0, none⟩)]] w fun e w' => e = .returned (.int .i64 (idx (fun e => eqB e.nm t) l)) ∧ Below w.heap.size w w' := by
  have HL := Lib.hid hA.len
  have HA := Lib.hid hA
  have HQ := Lib.hid hq
  clear hA hq
  go_enter Try.func36, Try.ntmps36
  go_wp2
  go_loopw [5, 8] (fun _ i wr => ∃ k : Nat, k ≤ n ∧ i = .int .i64 (k : Int) ∧ Hid (∀ j, j < k → (fun e : En => eqB e.nm t) (l.getD j En.z) = false) ∧ Below w.heap.size w wr) (fun _ i _ => n - (intOf i).toNat)
  case atStart => exact ⟨0, by omega, rfl, fun j hj => absurd hj (Nat.not_lt_zero _), Below.refl _ _⟩
  case round =>
    obtain ⟨k, hk, rfl, hok, hb⟩ := hrel
    by_cases hlt : k < n
    · obtain ⟨b, o, rfl, hbB, h1, h2⟩ := HA.out.at_ hlt
      have hbl : b < w.heap.size := by omega
      have c1 := bcell hb h1 hbl
      have c2 := bcell hb h2 hbl
      have HB := Lib.hid hb
      have HQ1 := Lib.hid (bcell hb HQ.out hql)
      have hql1 : q < wr.heap.size := Nat.lt_of_lt_of_le hql hb.size
      cases hv : eqB (l.getD k En.z).nm t with
      | true =>
        have HR := Lib.hid (idx_found (p := fun e => eqB e.nm t) (l := l) (k := k) (by rw [HL.out]; exact hlt) hok.out hv)
        have HC := Lib.hid (named_is true (l.getD k En.z).nm t (l.getD k En.z).nd wr q HQ1.out hql1 hv)
        clear hb h1 h2 hv
        generalize l.getD k En.z = x at *
        obtain ⟨s, z⟩ := x
        simp only at c1 c2 HC
        go_wp2_with fail
        refine HC.out.mono ?_
        rintro e w1 ⟨rfl, b1⟩
        go_wp2
        go_ret
        exact ⟨ret_idx HR.out, HB.out.trans (b1.mono HB.out.size)⟩
      | false =>
        have HV := Lib.hid hv
        have HC := Lib.hid (named_is false (l.getD k En.z).nm t (l.getD k En.z).nd wr q HQ1.out hql1 hv)
        clear hb h1 h2 hv
        generalize hX : l.getD k En.z = x at *
        have HX := Lib.hid hX
        clear hX
        obtain ⟨s, z⟩ := x
        simp only at c1 c2 HC HV
        go_wp2_with fail
        refine HC.out.mono ?_
        rintro e w1 ⟨rfl, b1⟩
        go_wp2
        go_roundw
        case rel => exact ⟨k + 1, by omega, by go_num, fun j hj => by
          rcases Nat.lt_or_ge j k with h' | h'
          · exact hok.out j h'
          · obtain rfl : j = k := by omega
            show eqB (l.getD j En.z).nm t = false
            rw [HX.out]; exact HV.out, HB.out.trans (b1.mono HB.out.size)⟩
        case measure => simp [intOf]; omega
    · have HR := Lib.hid (idx_none (p := fun e => eqB e.nm t) (l := l) (fun j hj => hok.out j (by rw [HL.out] at hj; omega)))
      go_wp2
      go_ret
      exact ⟨ret_idx HR.out, hb⟩

set_option maxHeartbeats 1000000 in
theorem place_any (A : Option Addr) (n c B : Nat) (l : List En) (t : ByteArray) (w : World) (hA : EnsAt w B A n l) (hB : B ≤ w.heap.size) (hn : n ≤ 100000) :
    Calls Try.prog 29 #[.slice A n c, .string t] w fun e w' => e = .returned (.int .i64 (placeR l t)) ∧ Below w.heap.size w w' := by
  have HA := Lib.hid hA
  clear hA
  cases hr : rightB t with
  | false =>
    have HR : Hid (placeR l t = -1) := by show _ = _; unfold placeR; rw [hr]; rfl
    have HC := Lib.hid (fun w => right_any t w)
    rw [hr] at HC
    clear hr
    go_enter Try.func29, Try.ntmps29
    go_wp2_with fail
    refine (HC.out _).mono ?_
    rintro e w1 ⟨rfl, b1⟩
    go_wp2
    go_ret
    exact ⟨by rw [HR.out]; rfl, ((Below.refl _ _).alloc (Nat.le_refl _) _).trans (b1.mono (by simp))⟩
  | true =>
    have HR : Hid (placeR l t = idx (fun e => eqB e.nm t) l) := by show _ = _; unfold placeR; rw [hr]; rfl
    have HC := Lib.hid (fun w => right_any t w)
    rw [hr] at HC
    clear hr
    go_enter Try.func29, Try.ntmps29
    go_wp2_with fail
    refine (HC.out _).mono ?_
    rintro e w1 ⟨rfl, b1⟩
    have hb1 : Below w.heap.size w w1 := ((Below.refl _ _).alloc (Nat.le_refl _) (.cells #[.string t] 9)).trans (b1.mono (by simp))
    have hq : w1.cell? ⟨w.heap.size, 0, none⟩ = some (.string t) := bcell b1 (a := ⟨w.heap.size, 0, none⟩) (cell_new w _ 9 0 rfl) (by simp)
    have hql : w.heap.size < w1.heap.size := by have := b1.size; simp at this; omega
    have HC2 := Lib.hid (indexName_any A n c B l t w.heap.size w1 (HA.out.below hb1 hB) (Nat.le_trans hB hb1.size) hn hq hql)
    have HB1 := Lib.hid hb1
    clear hb1 b1 hq
    go_wp2_with fail
    refine HC2.out.mono ?_
    rintro e w2 ⟨rfl, b2⟩
    go_wp2
    go_ret
    exact ⟨by rw [HR.out]; rfl, HB1.out.trans (b2.mono HB1.out.size)⟩
end Go.Proofs.Ytmmjpdggneagdaa
