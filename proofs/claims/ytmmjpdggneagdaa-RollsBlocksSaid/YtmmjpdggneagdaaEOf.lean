/-
  WALKS: Of, the reference's Of. Conditions: at most 50000 entries.
-/
import Derived.Test.YtmmjpdggneagdaaELive
namespace Go.Proofs.Ytmmjpdggneagdaa
open Go.RowKit

def lenV : Value → Nat
  | .slice _ n _ => n
  | _ => 0
theorem lenV_slice (A : Option Addr) (n c : Nat) : lenV (.slice A n c) = n := rfl
theorem fill_snoc (l : List En) (j : Nat) : l ++ List.replicate (j + 1) En.z = (l ++ List.replicate j En.z) ++ [⟨⟨#[]⟩, 0⟩] := by
  rw [List.replicate_succ', List.append_assoc]; rfl
theorem fill_end {l : List En} {j : Nat} (h : (l.length + j) % 8 = 0) (hj : j < 8) : ofR l = l ++ List.replicate j En.z := by
  unfold ofR
  congr 2
  omega
theorem of_fit {l : List En} (h : ∀ e ∈ l, e.fit) : ∀ e ∈ ofR l, e.fit := fun e he => by
  rcases List.mem_append.1 he with h1 | h1
  · exact h e h1
  · rw [List.eq_of_mem_replicate h1]; exact En.fit_z
theorem of_len (l : List En) : (ofR l).length ≤ l.length + 7 := by unfold ofR; rw [List.length_append, List.length_replicate]; omega
theorem own_base {w : World} {b b' n sz : Nat} {e : TypeId} {v : Value} {xs : List Value} (h : w.ownsRow b e sz v n xs) (hb : b' ≤ b) : w.ownsRow b' e sz v n xs := ⟨h.1, by
  rcases h.2 with h | ⟨g, cap, cur, h1, h2, h3⟩
  · exact Or.inl h
  · exact Or.inr ⟨g, cap, cur, h1, Nat.le_trans hb h2, h3⟩⟩
theorem RetOwn.to {w w1 : World} {l : List En} {e : Ending} {w' : World} (h : RetOwn w1 l e w') (hb : Below w.heap.size w w1) : RetOwn w l e w' := by
  obtain ⟨v, rfl, ho, b⟩ := h
  exact ⟨v, rfl, own_base ho hb.size, hb.trans (b.mono hb.size)⟩

set_option maxHeartbeats 4000000 in
theorem of_any (A : Option Addr) (n c B : Nat) (l : List En) (w : World) (hA : EnsAt w B A n l) (hB : B ≤ w.heap.size) (hn : n ≤ 50000) :
    Calls Try.prog 17 #[.slice A n c] w (RetOwn w (ofR l)) := by
  have HC := Lib.hid (cloneE_any A n c B l w hA hB (by omega))
  have HL := Lib.hid hA.len
  clear hA
  go_enter Try.func17, Try.ntmps17
  go_wp2_with fail
  refine HC.out.mono ?_
  rintro e w1 ⟨v1, rfl, ho1, b1⟩
  have HO1 := Lib.hid ho1
  have HB1 := Lib.hid b1
  clear ho1 b1
  obtain ⟨A1, c1, rfl, hc1⟩ := own_slice HO1.out
  go_wp2
  go_loopw [3] (fun v wr => ∃ j : Nat, j ≤ (8 - n % 8) % 8 ∧ wr.ownsRow w.heap.size 43 2 v (l ++ List.replicate j En.z).length (ensCells (l ++ List.replicate j En.z)) ∧ Below w.heap.size w wr) (fun v _ => (8 - lenV v % 8) % 8)
  case atStart => exact ⟨0, by omega, by simpa using HO1.out, HB1.out⟩
  case round =>
    obtain ⟨j, hj, hown, hb⟩ := hrel
    obtain ⟨A', c', rfl, hc'⟩ := own_slice hown
    have hlen : (l ++ List.replicate j En.z).length = n + j := by rw [List.length_append, List.length_replicate, HL.out]
    rw [hlen] at hown hc' ⊢
    have HOWN := Lib.hid hown
    have HLE := Lib.hid hlen
    have HB := Lib.hid hb
    have hws := hb.size
    clear hown hlen hb
    by_cases hm : (n + j) % 8 = 0
    · have hfin : RetOwn w (ofR l) (.returned (.slice A' (n + j) c')) wr := by
        rw [fill_end (l := l) (j := j) (by rw [HL.out]; exact hm) (by omega)]
        exact ⟨_, rfl, by rw [HLE.out]; exact HOWN.out, HB.out⟩
      have HF := Lib.hid hfin
      clear hfin
      generalize n + j = m at *
      have x1 : (m : Int) % 8 = 0 := by omega
      go_wp2
      go_ret
      exact HF.out
    · have hj7 : j + 1 ≤ (8 - n % 8) % 8 := by omega
      have HNX := Lib.hid (fill_snoc l j)
      generalize hmm : n + j = m at *
      have HMM := Lib.hid hmm
      have hm9 : m ≤ 60000 := by omega
      clear hmm
      have x1 : ¬ (m : Int) % 8 = 0 := by omega
      go_wp2_with (at_builtin; refine push_law rfl (.tmp 10) (.tmp 12) rfl w.heap.size wr (.slice A' m c') (l ++ List.replicate j En.z) ⟨#[]⟩ 0 rfl rfl (by rw [HLE.out]; exact HOWN.out) (by rw [HLE.out]; omega) hws ?_; intro v' w3 hown3 hb3)
      have HO3 := Lib.hid hown3
      clear hown3
      obtain ⟨A3, c3, rfl, hc3⟩ := own_slice HO3.out
      go_roundw
      case rel => exact ⟨j + 1, by omega, by rw [HNX.out]; exact HO3.out, HB.out.trans hb3⟩
      case measure => simp [lenV]; have := HL.out; have := HMM.out; omega

set_option maxHeartbeats 4000000 in
theorem rof_any (A : Option Addr) (n c B : Nat) (l : List En) (w : World) (hA : EnsAt w B A n l) (hn : n ≤ 50000) :
    Calls Try.prog 18 #[.slice A n c] w (RetOwn w (ofR l)) := by
  have HA := Lib.hid hA
  have HL := Lib.hid hA.len
  clear hA
  go_enter Try.func18, Try.ntmps18
  go_wp2_with (at_builtin; refine join_law rfl (.const (.slice none 0 0)) (.tmp 4) rfl w.heap.size w (.slice none 0 0) [] rfl B A n c l rfl (World.ownsRow_nil _ _ _ _) HA.out (by simp; omega) (Nat.le_refl _) ?_; intro v1 w1 ho1 b1)
  rw [List.nil_append] at ho1
  have HO1 := Lib.hid ho1
  have HB1 := Lib.hid b1
  clear ho1 b1
  obtain ⟨A1, c1, rfl, hc1⟩ := own_slice HO1.out
  go_loopw [3] (fun v wr => ∃ j : Nat, j ≤ (8 - n % 8) % 8 ∧ wr.ownsRow w.heap.size 43 2 v (l ++ List.replicate j En.z).length (ensCells (l ++ List.replicate j En.z)) ∧ Below w.heap.size w wr) (fun v _ => (8 - lenV v % 8) % 8)
  case atStart => exact ⟨0, by omega, by simpa using HO1.out, HB1.out⟩
  case round =>
    obtain ⟨j, hj, hown, hb⟩ := hrel
    obtain ⟨A', c', rfl, hc'⟩ := own_slice hown
    have hlen : (l ++ List.replicate j En.z).length = n + j := by rw [List.length_append, List.length_replicate, HL.out]
    rw [hlen] at hown hc' ⊢
    have HOWN := Lib.hid hown
    have HLE := Lib.hid hlen
    have HB := Lib.hid hb
    have hws := hb.size
    clear hown hlen hb
    by_cases hm : (n + j) % 8 = 0
    · have hfin : RetOwn w (ofR l) (.returned (.slice A' (n + j) c')) wr := by
        rw [fill_end (l := l) (j := j) (by rw [HL.out]; exact hm) (by omega)]
        exact ⟨_, rfl, by rw [HLE.out]; exact HOWN.out, HB.out⟩
      have HF := Lib.hid hfin
      clear hfin
      generalize n + j = m at *
      have x1 : (m : Int) % 8 = 0 := by omega
      go_wp2
      go_ret
      exact HF.out
    · have hj7 : j + 1 ≤ (8 - n % 8) % 8 := by omega
      have HNX := Lib.hid (fill_snoc l j)
      generalize hmm : n + j = m at *
      have HMM := Lib.hid hmm
      have hm9 : m ≤ 60000 := by omega
      clear hmm
      have x1 : ¬ (m : Int) % 8 = 0 := by omega
      go_wp2_with (at_builtin; refine push_law rfl (.tmp 10) (.tmp 12) rfl w.heap.size wr (.slice A' m c') (l ++ List.replicate j En.z) ⟨#[]⟩ 0 rfl rfl (by rw [HLE.out]; exact HOWN.out) (by rw [HLE.out]; omega) hws ?_; intro v' w3 hown3 hb3)
      have HO3 := Lib.hid hown3
      clear hown3
      obtain ⟨A3, c3, rfl, hc3⟩ := own_slice HO3.out
      go_roundw
      case rel => exact ⟨j + 1, by omega, by rw [HNX.out]; exact HO3.out, HB.out.trans hb3⟩
      case measure => simp [lenV]; have := HL.out; have := HMM.out; omega
end Go.Proofs.Ytmmjpdggneagdaa
