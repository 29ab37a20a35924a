/-
  WALK: the statements' own lives: the chapter's example. No condition.
-/
import Derived.Test.YtmmjpdggneagdaaERefAdd
namespace Go.Proofs.Ytmmjpdggneagdaa
open Go.RowKit

def nA : ByteArray := ⟨#[97]⟩
def nB : ByteArray := ⟨#[98]⟩
def nC : ByteArray := ⟨#[99]⟩
def lv1 : List En := [⟨nA, 2⟩, En.z, En.z, En.z, En.z, En.z, En.z, En.z]
def lv2 : List En := [⟨nA, 2⟩, ⟨nB, 3⟩, En.z, En.z, En.z, En.z, En.z, En.z]
def lv3 : List En := [En.z, ⟨nB, 3⟩, En.z, En.z, En.z, En.z, En.z, En.z]
def lv4 : List En := [⟨nC, 4⟩, ⟨nB, 3⟩, En.z, En.z, En.z, En.z, En.z, En.z]
theorem lv_one : addR [] nA 2 = (lv1, 0) := by decide +kernel
theorem lv_two : addR lv1 nB 3 = (lv2, 0) := by decide +kernel
theorem lv_three : dropR lv2 nA = (lv3, 2, 0) := by decide +kernel
theorem lv_four : addR lv3 nC 4 = (lv4, 0) := by decide +kernel
theorem lv_right : rightR lv4 = true := by decide +kernel
theorem fit_of {l : List En} (h : l.all (fun e => decide (e.nm.size ≤ 140737488355328) && decide (-9223372036854775808 ≤ e.nd) && decide (e.nd ≤ 9223372036854775807)) = true) : ∀ e ∈ l, e.fit := by
  intro e he
  have := List.all_eq_true.1 h e he
  simp only [Bool.and_eq_true, decide_eq_true_eq] at this
  exact ⟨this.1.1, this.1.2, this.2⟩
theorem lv_fit1 : ∀ e ∈ lv1, e.fit := fit_of (by decide +kernel)
theorem lv_fit2 : ∀ e ∈ lv2, e.fit := fit_of (by decide +kernel)
theorem lv_fit3 : ∀ e ∈ lv3, e.fit := fit_of (by decide +kernel)
theorem lv_fit4 : ∀ e ∈ lv4, e.fit := fit_of (by decide +kernel)

/-- what Add answers, as a slice of entries. -/
theorem RetAdd.ens {w w' : World} {r : List En × Int} {e : Ending} (h : RetAdd w r e w') (hf : ∀ s ∈ r.1, s.fit) : ∃ A c, e = .returned (.tuple #[.slice A r.1.length c, .int .i64 r.2]) ∧ r.1.length ≤ c ∧ EnsAt w' w'.heap.size A r.1.length r.1 ∧ Below w.heap.size w w' := by
  obtain ⟨v, rfl, ho, hb⟩ := h
  obtain ⟨A, c, rfl, hc⟩ := own_slice ho
  exact ⟨A, c, rfl, hc, EnsAt.of_own ho rfl hf, hb⟩
theorem RetDrop.ens {w w' : World} {r : List En × Int × Int} {e : Ending} (h : RetDrop w r e w') (hf : ∀ s ∈ r.1, s.fit) : ∃ A c, e = .returned (.tuple #[.slice A r.1.length c, .int .i64 r.2.1, .int .i64 r.2.2]) ∧ r.1.length ≤ c ∧ EnsAt w' w'.heap.size A r.1.length r.1 ∧ Below w.heap.size w w' := by
  obtain ⟨v, rfl, ho, hb⟩ := h
  obtain ⟨A, c, rfl, hc⟩ := own_slice ho
  exact ⟨A, c, rfl, hc, EnsAt.of_own ho rfl hf, hb⟩

set_option maxHeartbeats 4000000 in
theorem lives_any (w : World) : Calls Try.prog 8 #[] w fun e w' => e = .returned (.bool true) ∧ Below w.heap.size w w' := by
  have HC1 := Lib.hid (add_any none 0 0 0 [] nA 2 w (EnsAt.nil w 0 none) (Nat.zero_le _) (by omega) (by decide) (by decide))
  rw [lv_one] at HC1
  have HC2 := Lib.hid (fun A c W (h : EnsAt W W.heap.size A 8 lv1) => add_any A 8 c W.heap.size lv1 nB 3 W h (Nat.le_refl _) (by omega) (by decide) (by decide))
  rw [lv_two] at HC2
  have HC3 := Lib.hid (fun A c W (h : EnsAt W W.heap.size A 8 lv2) => drop_any A 8 c W.heap.size lv2 nA W h (Nat.le_refl _) (by omega))
  rw [lv_three] at HC3
  have HC4 := Lib.hid (fun A c W (h : EnsAt W W.heap.size A 8 lv3) => add_any A 8 c W.heap.size lv3 nC 4 W h (Nat.le_refl _) (by omega) (by decide) (by decide))
  rw [lv_four] at HC4
  have HC5 := Lib.hid (fun A c W (h : EnsAt W W.heap.size A 8 lv4) => rightE_any A 8 c W.heap.size lv4 W h (Nat.le_refl _) (by omega))
  rw [lv_right] at HC5
  go_enter Try.func8, Try.ntmps8
  go_wp2_with fail
  refine HC1.out.mono ?_
  intro e w1 hr1
  obtain ⟨A1, c1, rfl, -, hE1, b1⟩ := hr1.ens lv_fit1
  have HE1 : Hid (EnsAt w1 w1.heap.size A1 8 lv1) := hE1
  have HB1 := Lib.hid b1
  clear hr1 hE1 b1
  rw [show (lv1, (0 : Int)).1.length = 8 from rfl]
  go_wp2_with fail
  refine (HC2.out A1 c1 w1 HE1.out).mono ?_
  intro e w2 hr2
  obtain ⟨A2, c2, rfl, -, hE2, b2⟩ := hr2.ens lv_fit2
  have HE2 : Hid (EnsAt w2 w2.heap.size A2 8 lv2) := hE2
  have HB2 := Lib.hid (HB1.out.trans (b2.mono HB1.out.size))
  clear hr2 hE2 b2
  rw [show (lv2, (0 : Int)).1.length = 8 from rfl]
  go_wp2_with fail
  refine (HC3.out A2 c2 w2 HE2.out).mono ?_
  intro e w3 hr3
  obtain ⟨A3, c3, rfl, -, hE3, b3⟩ := hr3.ens lv_fit3
  have HE3 : Hid (EnsAt w3 w3.heap.size A3 8 lv3) := hE3
  have HB3 := Lib.hid (HB2.out.trans (b3.mono HB2.out.size))
  clear hr3 hE3 b3
  rw [show (lv3, (2 : Int), (0 : Int)).1.length = 8 from rfl]
  go_wp2_with fail
  refine (HC4.out A3 c3 w3 HE3.out).mono ?_
  intro e w4 hr4
  obtain ⟨A4, c4, rfl, -, hE4, b4⟩ := hr4.ens lv_fit4
  have HE4 : Hid (EnsAt w4 w4.heap.size A4 8 lv4) := hE4
  have HB4 := Lib.hid (HB3.out.trans (b4.mono HB3.out.size))
  clear hr4 hE4 b4
  rw [show (lv4, (0 : Int)).1.length = 8 from rfl]
  obtain ⟨b, o, rfl, hlt, g1, -⟩ := HE4.out.at_ (k := 0) (by omega)
  obtain ⟨b', o', e', -, g2, -⟩ := HE4.out.at_ (k := 1) (by omega)
  obtain ⟨rfl, rfl⟩ : b' = b ∧ o' = o := by injection e' with e'; injection e' with e1 e2; exact ⟨e1.symm, e2.symm⟩
  have k1 : w4.cell? ⟨b', o', none⟩ = some (.string ⟨#[99]⟩) := g1
  have k2 : w4.cell? ⟨b', o' + 2, none⟩ = some (.string ⟨#[98]⟩) := g2
  clear g1 g2 e'
  have e99 : (ByteArray.mk #[99]).toList = [99] := by rw [ByteArray.toList_eq]
  have e98 : (ByteArray.mk #[98]).toList = [98] := by rw [ByteArray.toList_eq]
  go_wp2_with fail
  refine (HC5.out _ c4 w4 HE4.out).mono ?_
  rintro e w5 ⟨rfl, b5⟩
  go_wp2
  go_ret
  exact ⟨rfl, HB4.out.trans (b5.mono HB4.out.size)⟩

theorem set_fit {l : List En} (h : ∀ e ∈ l, e.fit) {x : En} (hx : x.fit) (k : Nat) : ∀ e ∈ l.set k x, e.fit := fun e he => by
  rcases List.mem_or_eq_of_mem_set he with h1 | rfl
  · exact h e h1
  · exact hx
theorem addR_fit {l : List En} (h : ∀ e ∈ l, e.fit) {s : ByteArray} {z : Int} (hs : s.size ≤ 140737488355328) (hz : Fit z) : ∀ e ∈ (addR l s z).1, e.fit := by
  unfold addR
  repeat' split
  · exact set_fit h ⟨hs, hz⟩ _
  · exact of_fit fun e he => by
      rcases List.mem_append.1 he with h1 | h1
      · exact h e h1
      · obtain rfl := List.mem_singleton.1 h1
        exact ⟨hs, hz⟩
  all_goals exact fun e he => by cases he
theorem addR_len (l : List En) (s : ByteArray) (z : Int) : (addR l s z).1.length ≤ l.length + 8 := by
  unfold addR
  repeat' split
  · simp
  · have := of_len (l ++ [(⟨s, z⟩ : En)]); simp at this ⊢; omega
  all_goals simp
theorem dropR_fit {l : List En} (h : ∀ e ∈ l, e.fit) {s : ByteArray} : ∀ e ∈ (dropR l s).1, e.fit := by
  unfold dropR
  repeat' split
  · exact fun e he => by cases he
  · exact set_fit h En.fit_z _
  · exact fun e he => by cases he
theorem dropR_len (l : List En) (s : ByteArray) : (dropR l s).1.length ≤ l.length := by
  unfold dropR
  repeat' split
  all_goals simp
end Go.Proofs.Ytmmjpdggneagdaa
