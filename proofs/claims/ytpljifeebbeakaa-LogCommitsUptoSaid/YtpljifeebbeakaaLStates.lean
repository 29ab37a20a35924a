/-
  PLAIN MATHEMATICS of a log's states: what commits, recoveries and openings leave. No condition.
-/
import Derived.Test.YtpljifeebbeakaaLRecov
import Derived.KernelRfl
namespace Go.Proofs.Ytpljifeebbeakaa
open Go.RowKit

theorem setL_out {l : List Ch} {i : Nat} : ∀ {D : List ByteArray}, (∀ c ∈ l, c.bk.toNat ≠ i) → (setL D l).getD i ⟨#[]⟩ = D.getD i ⟨#[]⟩ := by
  induction l with
  | nil => intro D _; rfl
  | cons c r ih =>
    intro D h
    have h1 := ih (D := D.set c.bk.toNat c.dt) (fun d hd => h d (by simp [hd]))
    refine h1.trans ?_
    have hne := h c (by simp)
    simp [List.getD, hne]
theorem setL_congr {l : List Ch} {i : Nat} : ∀ {D E : List ByteArray}, D.length = E.length → D.getD i ⟨#[]⟩ = E.getD i ⟨#[]⟩ → (setL D l).getD i ⟨#[]⟩ = (setL E l).getD i ⟨#[]⟩ := by
  induction l with
  | nil => intro D E _ h; exact h
  | cons c r ih =>
    intro D E hl h
    refine ih (by simp [hl]) ?_
    simp only [List.getD, List.getElem?_set] at h ⊢
    by_cases e : c.bk.toNat = i
    · rw [if_pos e, if_pos e, hl]
    · rw [if_neg e, if_neg e]; exact h
theorem set1_out {D : List ByteArray} {s : ByteArray} {i : Nat} (h : i ≠ 1) : (D.set 1 s).getD i ⟨#[]⟩ = D.getD i ⟨#[]⟩ := by
  simp [List.getD, Ne.symm h]
theorem set1_in {D : List ByteArray} {s : ByteArray} (h : 1 < D.length) : (D.set 1 s).getD 1 ⟨#[]⟩ = s := by
  simp [List.getD, h]
theorem cmD_len (D : List ByteArray) (l : List Ch) : (cmD D l).length = D.length := by
  unfold cmD; simp [setL_len]
theorem cmD_one {D : List ByteArray} {l : List Ch} (h : 1 < D.length) : (cmD D l).getD 1 ⟨#[]⟩ = headB [] := set1_in (by simp [setL_len]; exact h)
theorem own_nat {i : Nat} (h : ownB (i : Int) = false) : i ≠ 1 ∧ ¬ (2 ≤ i ∧ i ≤ 41) := by
  rw [ownB_f] at h
  omega
theorem cmD_get {D : List ByteArray} {l : List Ch} {i : Nat} (hi : ownB (i : Int) = false) (hn : l.length ≤ 40) : (cmD D l).getD i ⟨#[]⟩ = (setL D l).getD i ⟨#[]⟩ := by
  obtain ⟨h1, h2⟩ := own_nat hi
  unfold cmD
  rw [set1_out h1]
  refine setL_congr (by simp [setL_len]) ?_
  rw [set1_out h1]
  refine setL_out fun c hc => ?_
  obtain ⟨k, hk, rfl⟩ := List.mem_map.1 hc
  have hkl := List.mem_range.1 hk
  show (2 + (k : Int)).toNat ≠ i
  omega
theorem same_cm {D E : List ByteArray} {l : List Ch} (h : sameB D E = true) (hn : l.length ≤ 40) : sameB (cmD D l) (setL E l) = true := by
  obtain ⟨h1, h2⟩ := sameB_t.1 h
  refine sameB_t.2 ⟨by rw [cmD_len, setL_len, h1], fun i hi ho => ?_⟩
  rw [cmD_get ho hn]
  rw [cmD_len] at hi
  exact setL_congr h1 (h2 i hi ho)
theorem same_refl (D : List ByteArray) : sameB D D = true := sameB_t.2 ⟨rfl, fun _ _ _ => rfl⟩
theorem same_rp (D : List ByteArray) : sameB (rpD D) (rcD D) = true := by
  unfold rpD rcD
  by_cases h : (hdL (D.getD 1 ⟨#[]⟩)).length = 0
  · rw [if_pos h]
    have e : hdL (D.getD 1 ⟨#[]⟩) = [] := List.eq_nil_of_length_eq_zero h
    rw [e]
    exact same_refl D
  · rw [if_neg h]
    refine sameB_t.2 ⟨by simp, fun i _ ho => ?_⟩
    exact set1_out (own_nat ho).1
theorem whole_cm {D : List ByteArray} {l : List Ch} (hw : Whole D) (hI : ∀ c ∈ l, c.dt.size = 128) (hn : l.length ≤ 40) : Whole (cmD D l) := by
  unfold cmD
  refine Whole.set (Whole.setL l (Whole.set (Whole.setL _ hw ?_) 1 (headB_size (by rw [bks_len]; exact hn))) hI) 1 z_size
  intro c hc
  obtain ⟨k, hk, rfl⟩ := List.mem_map.1 hc
  have hkl := List.mem_range.1 hk
  have e : l.getD k Ch.z = l[k] := by simp [List.getD, hkl]
  show (l.getD k Ch.z).dt.size = 128
  rw [e]; exact hI _ (List.getElem_mem hkl)

/-- the head without changes. -/
theorem head_nil : headB [] = z128 := by kernel_rfl
theorem cnt_z : cntH z128 = 0 := by kernel_rfl
theorem hdL_z : hdL z128 = [] := List.eq_nil_of_length_eq_zero (by rw [hdL_len, cnt_z])
theorem hdOk_z (N : Nat) : hdOk z128 N = true := by
  unfold hdOk
  rw [cnt_z, hdL_z, head_nil]
  simp [chB]
/-- a log whose head says no changes is opened without a call. -/
theorem calm_open {D : List ByteArray} (h : D.getD 1 ⟨#[]⟩ = z128) (c : Nat) : okD D = true ∧ rpD D = D ∧ rpC D c = c := by
  refine ⟨?_, ?_, ?_⟩
  · unfold okD; rw [h]; exact hdOk_z _
  · unfold rpD; rw [h, hdL_z]; rfl
  · unfold rpC; rw [h, hdL_z]; rfl
theorem rpD_len (D : List ByteArray) : (rpD D).length = D.length := by
  unfold rpD
  split
  · rfl
  · simp [setL_len]
theorem whole_rp {D : List ByteArray} (hw : Whole D) (hl : 64 ≤ D.length) (hk : okD D = true) : Whole (rpD D) := by
  unfold rpD
  split
  · exact hw
  · refine Whole.set (Whole.setL _ hw ?_) 1 z_size
    intro c hc
    obtain ⟨k, hkk, rfl⟩ := List.mem_map.1 hc
    have hkl := List.mem_range.1 hkk
    obtain ⟨h40, _⟩ := hdOk_t hk
    rw [hdL_len] at hkl
    exact hw.get (by omega)
/-- to recover twice is to recover once. -/
theorem rp_twice {D : List ByteArray} (hl : 64 ≤ D.length) (hk : okD D = true) (c : Nat) : okD (rpD D) = true ∧ rpD (rpD D) = rpD D ∧ rpC (rpD D) c = c := by
  by_cases h : (hdL (D.getD 1 ⟨#[]⟩)).length = 0
  · have e : rpD D = D := by unfold rpD; rw [if_pos h]
    rw [e]
    exact ⟨hk, e, by unfold rpC; rw [if_pos h]⟩
  · refine calm_open ?_ c
    unfold rpD
    rw [if_neg h, set1_in (by rw [setL_len]; omega), head_nil]
theorem okD_R {D : List ByteArray} (hw : Whole D) (hl : 64 ≤ D.length) : okD D = okR D := by
  unfold okD okR
  exact hdOk_eq (hw.get (by omega)) _
end Go.Proofs.Ytpljifeebbeakaa
