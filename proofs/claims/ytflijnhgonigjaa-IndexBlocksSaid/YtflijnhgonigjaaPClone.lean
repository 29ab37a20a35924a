/-
  WALK: clone. Conditions: at most 100000 entries.
-/
import Derived.Test.YtflijnhgonigjaaPWords
import Derived.Deep.RegionWith
import Derived.Deep.RegionHeld3
import Derived.Deep.DeepFit
namespace Go.Proofs.Ytflijnhgonigjaa
open Go.RowKit

def mixL (l : List En) (k : Nat) : List En := l.take k ++ List.replicate (l.length - k) En.z
theorem mix_len (l : List En) {k : Nat} (h : k ≤ l.length) : (mixL l k).length = l.length := by
  unfold mixL; rw [List.length_append, List.length_take, List.length_replicate]; omega
theorem mix_set (l : List En) {k : Nat} (h : k < l.length) : (mixL l k).set k (l.getD k En.z) = mixL l (k + 1) := by
  unfold mixL
  have e : l.length - k = (l.length - (k + 1)) + 1 := by omega
  rw [e, List.replicate_succ, List.set_append_right _ _ (by rw [List.length_take]; omega), List.length_take, Nat.min_eq_left (by omega), Nat.sub_self, List.set_cons_zero, take_snoc l h, List.append_assoc]
  rfl
theorem mix_zero (l : List En) : mixL l 0 = List.replicate l.length En.z := by simp [mixL]
theorem mix_all (l : List En) : mixL l l.length = l := by simp [mixL]

theorem made_ens (n : Nat) : (madeCells (Value.agg #[.string ⟨#[]⟩, .int .i64 0]).cells (n * 2)).toList = ensCells (List.replicate n En.z) := by
  apply List.ext_getElem?
  intro i
  rcases Nat.lt_or_ge i (n * 2) with h | h
  · obtain ⟨k, rfl | rfl⟩ : ∃ k, i = k * 2 ∨ i = k * 2 + 1 := ⟨i / 2, by omega⟩
    · have := (ensCells_at (List.replicate n En.z) k (by simp; omega)).1
      have e : (List.replicate n En.z).getD k En.z = En.z := by simp [List.getD, show k < n by omega]
      rw [this, e]
      have e2 : k * 2 % 2 = 0 := by omega
      simp [madeCells, Value.cells, h, e2, En.z]
    · have := (ensCells_at (List.replicate n En.z) k (by simp; omega)).2
      have e : (List.replicate n En.z).getD k En.z = En.z := by simp [List.getD, show k < n by omega]
      rw [this, e]
      have e2 : (k * 2 + 1) % 2 = 1 := by omega
      simp [madeCells, Value.cells, h, e2, En.z]
  · rw [List.getElem?_eq_none (by rw [Array.length_toList, size_madeCells]; exact h), List.getElem?_eq_none (by rw [ensCells_len]; simpa using h)]

/-- a copy: a row of the call's own, just as long as it is. -/
def RetClone (w : World) (l : List En) (e : Ending) (w' : World) : Prop := e = .returned (.slice (some ⟨w.heap.size, 0, none⟩) l.length l.length) ∧ w'.ownsRow w.heap.size 47 2 (.slice (some ⟨w.heap.size, 0, none⟩) l.length l.length) l.length (ensCells l) ∧ Below w.heap.size w w'
set_option maxHeartbeats 4000000 in
theorem cloneE_any (A : Option Addr) (n c B : Nat) (l : List En) (w : World) (hA : EnsAt w B A n l) (hB : B ≤ w.heap.size) (hn : n ≤ 100000) :
    Calls Try.prog 37 #[.slice A n c] w (RetClone w l) := by
  obtain ⟨i0, hi, hz0, hz1, hz2⟩ := info_parts info43
  have HL := Lib.hid hA.len
  have HA := Lib.hid hA
  clear hA
  go_enter Try.func37, Try.ntmps37
  go_wp2_with (at_make; refine wpList_make_full _ rfl _ _ 27 rfl w.heap.size 47 i0 _ 2 Try.underlying27 hi hz0 hz1 _ _ _ _ n rfl rfl rfl rfl (by rw [hz2]; omega) (by unfold maxLen; omega) (Nat.le_refl _) ?_; intro w1 hown1 hgrow1)
  rw [made_ens] at hown1
  have hb1 : Below w.heap.size w w1 := (Below.refl _ _).grown hgrow1 (Nat.le_refl _) (by intro k hk; cases hk)
  have HO1 : Hid (w1.ownsRow w.heap.size 47 2 (.slice (some ⟨w.heap.size, 0, none⟩) n n) n (ensCells (mixL l 0))) := by
    show World.ownsRow _ _ _ _ _ _ _
    rw [mix_zero, HL.out]; exact hown1
  clear hgrow1 hown1
  go_loopw [4, 5, 11] (fun _ _ i wr => ∃ k : Nat, k ≤ n ∧ i = .int .i64 (k : Int) ∧ wr.ownsRow w.heap.size 47 2 (.slice (some ⟨w.heap.size, 0, none⟩) n n) n (ensCells (mixL l k)) ∧ Below w.heap.size w wr) (fun _ _ i _ => n - (intOf i).toNat)
  case atStart => exact ⟨0, by omega, rfl, HO1.out, hb1⟩
  case round =>
    clear hb1 HO1
    obtain ⟨k, hk, rfl, hown, hb⟩ := hrel
    by_cases hlt : k < n
    · obtain ⟨b, o, rfl, hbB, h1, h2⟩ := HA.out.at_ hlt
      have hfit := (HA.out.bd k).1
      have hbl : b < w.heap.size := by omega
      have c1 := bcell hb h1 hbl
      have c2 := bcell hb h2 hbl
      have hkl : k < l.length := by rw [HL.out]; exact hlt
      have HMS := Lib.hid (mix_set l hkl)
      have HML := Lib.hid (mix_len l (Nat.le_of_lt hkl))
      have HOWN := Lib.hid hown
      have HB := Lib.hid hb
      clear h1 h2 hown hb
      generalize l.getD k En.z = x at *
      obtain ⟨s, z⟩ := x
      simp only at c1 c2 hfit
      have hws := HB.out.size
      have HO1 := Lib.hid (HOWN.out.alloc (.cells #[.string s, .int .i64 z] 47))
      have HB1 : Hid (Below w.heap.size w (wr.alloc (.cells #[.string s, .int .i64 z] 47))) := HB.out.alloc hws _
      have n1 : (wr.alloc (.cells #[.string s, .int .i64 z] 47)).cell? ⟨wr.heap.size, 0, none⟩ = some (.string s) := cell_new wr _ 47 0 rfl
      have n2 : (wr.alloc (.cells #[.string s, .int .i64 z] 47)).cell? ⟨wr.heap.size, 1, none⟩ = some (.int .i64 z) := cell_new wr _ 47 1 rfl
      have HZ : Hid ((wr.alloc (.cells #[.string s, .int .i64 z] 47)).heap.size = wr.heap.size + 1) := by show _ = _; simp
      have HSZ := Lib.hid hfit
      have HGR : Hid (∀ W : World, W.ownsRow w.heap.size 47 2 (.slice (some ⟨w.heap.size, 0, none⟩) n n) n (ensCells (mixL l k)) →
          W.cell? ⟨w.heap.size, k * 2, none⟩ = some (.string ((mixL l k).getD k En.z).nm) ∧ W.cell? ⟨w.heap.size, k * 2 + 1, none⟩ = some (.int .i64 ((mixL l k).getD k En.z).nd) ∧ W.frozen? ⟨w.heap.size, k * 2, none⟩ = false ∧ W.frozen? ⟨w.heap.size, k * 2 + 1, none⟩ = false) := by
        intro W h
        have hc := ensCells_at (mixL l k) k (by rw [HML.out]; exact hkl)
        refine ⟨?_, ?_, h.frozenAt _, h.frozenAt _⟩
        · rw [h.cellAt _ (by omega)]; exact hc.1
        · rw [h.cellAt _ (by omega)]; exact hc.2
      have HST : Hid (∀ W : World, W.ownsRow w.heap.size 47 2 (.slice (some ⟨w.heap.size, 0, none⟩) n n) n (ensCells (mixL l k)) →
          ((W.setCell ⟨w.heap.size, k * 2, none⟩ (.string s)).setCell ⟨w.heap.size, k * 2 + 1, none⟩ (.int .i64 z)).ownsRow w.heap.size 47 2 (.slice (some ⟨w.heap.size, 0, none⟩) n n) n (ensCells (mixL l (k + 1)))) := by
        intro W h
        have e : (mixL l k).length = n := HML.out.trans HL.out
        have := own_set (w := W) (base := w.heap.size) (g := w.heap.size) (cap := n) (l := mixL l k) (by rw [e]; exact h) (k := k) (by rw [e]; exact hlt) ⟨s, z⟩
        rw [HMS.out, e] at this
        exact this
      have x1 : (0 : Int) ≤ (k : Int) := by omega
      have x2 : (k : Int) < (n : Int) := by omega
      generalize (mixL l k).getD k En.z = y at *
      obtain ⟨ys, yz⟩ := y
      clear hfit hkl HOWN HB HMS
      go_wp2_with fail
      go_region_with ((go_at_call 42; refine (clone_any s _ HSZ.out).mono ?_; rintro e w3 ⟨rfl, b3'⟩; have b3 := undrew b3'; have n1' := bcell b3 (a := ⟨wr.heap.size, 0, none⟩) n1 (by simp); have n2' := bcell b3 (a := ⟨wr.heap.size, 1, none⟩) n2 (by simp); have HO3 := Lib.hid (own_below HO1.out b3 (Nat.le_refl _)); have HB3 : Hid (Below w.heap.size w w3) := HB1.out.trans (b3.mono HB1.out.size); obtain ⟨g1, g2, g3, g4⟩ := HGR.out w3 HO3.out; clear b3 b3'))
      all_goals
        have HO4 := Lib.hid (HST.out w3 HO3.out)
        have HB4 : Hid (Below w.heap.size w ((w3.setCell ⟨w.heap.size, k * 2, none⟩ (.string s)).setCell ⟨w.heap.size, k * 2 + 1, none⟩ (.int .i64 z))) := (HB3.out.setCell (Nat.le_refl _) _).setCell (Nat.le_refl _) _
        clear g1 g2 g3 g4 n1 n2 n1' n2' HO3 HB3
        go_wp2
        go_roundw
        case rel => exact ⟨k + 1, by omega, by go_num, HO4.out, HB4.out⟩
        case measure => simp [intOf]; omega
    · have HK : Hid (k = n) := by show k = n; omega
      have hfin : RetClone w l (.returned (.slice (some ⟨w.heap.size, 0, none⟩) n n)) wr := by
        have e := hown
        rw [HK.out, ← HL.out, mix_all] at e
        rw [← HL.out]
        exact ⟨rfl, e, hb⟩
      have HF := Lib.hid hfin
      clear hfin hown hb
      go_wp2
      go_ret
      exact HF.out
end Go.Proofs.Ytflijnhgonigjaa
