/-
  PLAIN MATHEMATICS of a log's states: what commits, recoveries and openings leave. No condition.
  WALKS: early, lives. Condition: none.
  IMAGES that a law fills: the first of some texts, and empty ones. No condition.
-/
import Derived.Test.YtgdlfiejjnjcpaaGreatBL
import Derived.KernelRfl
namespace Go.Proofs.YtgdlfiejjnjcpaaGreat.Lg
open Go.RowKit

def z128 : ByteArray := Sl.wholeS ⟨#[]⟩
theorem z128_size : z128.size = 128 := size_padS _ _ (by rw [ByteArray.size_extract]; show min (min 0 128) 0 - 0 ≤ 128; omega)
theorem setL_out {l : List Ch} {i : Nat} : ∀ {D : List ByteArray}, (∀ c ∈ l, c.bk.toNat ≠ i) → (setL D l).getD i ⟨#[]⟩ = D.getD i ⟨#[]⟩ := by
  induction l with
  | nil => intro D _; rfl
  | cons c r ih =>
    intro D h
    have h1 := ih (D := D.set c.bk.toNat c.dt) (fun d hd => h d (by simp [hd]))
    refine h1.trans ?_
    have hne := h c (by simp)
    simp [List.getD, hne]
theorem setL_congr {l : List Ch} {i : Nat} : ∀ {D E : List ByteArray}, D.length = E.length → D.getD i ⟨#[]⟩ = E.getD i ⟨#[]⟩ → (setL D l).getD i ⟨#[]⟩ = (setL E l).getD i ⟨#[]⟩ := by
  induction l with
  | nil => intro D E _ h; exact h
  | cons c r ih =>
    intro D E hl h
    refine ih (by simp [hl]) ?_
    simp only [List.getD, List.getElem?_set] at h ⊢
    by_cases e : c.bk.toNat = i
    · rw [if_pos e, if_pos e, hl]
    · rw [if_neg e, if_neg e]; exact h
theorem set1_out {D : List ByteArray} {s : ByteArray} {i : Nat} (h : i ≠ 1) : (D.set 1 s).getD i ⟨#[]⟩ = D.getD i ⟨#[]⟩ := by
  simp [List.getD, Ne.symm h]
theorem set1_in {D : List ByteArray} {s : ByteArray} (h : 1 < D.length) : (D.set 1 s).getD 1 ⟨#[]⟩ = s := by
  simp [List.getD, h]
theorem cmD_len (D : List ByteArray) (l : List Ch) : (cmD D l).length = D.length := by
  unfold cmD; simp [setL_len]
theorem cmD_one {D : List ByteArray} {l : List Ch} (h : 1 < D.length) : (cmD D l).getD 1 ⟨#[]⟩ = headB [] := set1_in (by simp [setL_len]; exact h)
theorem own_nat {i : Nat} (h : ownB (i : Int) = false) : i ≠ 1 ∧ ¬ (2 ≤ i ∧ i ≤ 41) := by
  rw [ownB_f] at h
  omega
theorem cmD_get {D : List ByteArray} {l : List Ch} {i : Nat} (hi : ownB (i : Int) = false) (hn : l.length ≤ 40) : (cmD D l).getD i ⟨#[]⟩ = (setL D l).getD i ⟨#[]⟩ := by
  obtain ⟨h1, h2⟩ := own_nat hi
  unfold cmD
  rw [set1_out h1]
  refine setL_congr (by simp [setL_len]) ?_
  rw [set1_out h1]
  refine setL_out fun c hc => ?_
  obtain ⟨k, hk, rfl⟩ := List.mem_map.1 hc
  have hkl := List.mem_range.1 hk
  show (2 + (k : Int)).toNat ≠ i
  omega
theorem same_cm {D E : List ByteArray} {l : List Ch} (h : sameB D E = true) (hn : l.length ≤ 40) : sameB (cmD D l) (setL E l) = true := by
  obtain ⟨h1, h2⟩ := sameB_t.1 h
  refine sameB_t.2 ⟨by rw [cmD_len, setL_len, h1], fun i hi ho => ?_⟩
  rw [cmD_get ho hn]
  rw [cmD_len] at hi
  exact setL_congr h1 (h2 i hi ho)
theorem same_refl (D : List ByteArray) : sameB D D = true := sameB_t.2 ⟨rfl, fun _ _ _ => rfl⟩
theorem whole_cm {D : List ByteArray} {l : List Ch} (hw : Whole D) (hI : ∀ c ∈ l, c.dt.size = 128) (hn : l.length ≤ 40) : Whole (cmD D l) := by
  unfold cmD
  refine Whole.set (Whole.setL l (Whole.set (Whole.setL _ hw ?_) 1 (headB_size (by rw [bks_len]; exact hn))) hI) 1 z_size
  intro c hc
  obtain ⟨k, hk, rfl⟩ := List.mem_map.1 hc
  have hkl := List.mem_range.1 hk
  have e : l.getD k Ch.z = l[k] := by simp [List.getD, hkl]
  show (l.getD k Ch.z).dt.size = 128
  rw [e]; exact hI _ (List.getElem_mem hkl)

/-- the head without changes. -/
theorem head_nil : headB [] = z128 := by kernel_rfl
theorem cnt_z : cntH z128 = 0 := by kernel_rfl
theorem hdL_z : hdL z128 = [] := List.eq_nil_of_length_eq_zero (by rw [hdL_len, cnt_z])
theorem hdOk_z (N : Nat) : hdOk z128 N = true := by
  unfold hdOk
  rw [cnt_z, hdL_z, head_nil]
  simp [chB]
/-- a log whose head says no changes is opened without a call. -/
theorem calm_open {D : List ByteArray} (h : D.getD 1 ⟨#[]⟩ = z128) (c : Nat) : okD D = true ∧ rpD D = D ∧ rpC D c = c := by
  refine ⟨?_, ?_, ?_⟩
  · unfold okD; rw [h]; exact hdOk_z _
  · unfold rpD; rw [h, hdL_z]; rfl
  · unfold rpC; rw [h, hdL_z]; rfl
theorem rpD_len (D : List ByteArray) : (rpD D).length = D.length := by
  unfold rpD
  split
  · rfl
  · simp [setL_len]
theorem whole_rp {D : List ByteArray} (hw : Whole D) (hl : 64 ≤ D.length) (hk : okD D = true) : Whole (rpD D) := by
  unfold rpD
  split
  · exact hw
  · refine Whole.set (Whole.setL _ hw ?_) 1 z_size
    intro c hc
    obtain ⟨k, hkk, rfl⟩ := List.mem_map.1 hc
    have hkl := List.mem_range.1 hkk
    obtain ⟨h40, _⟩ := hdOk_t hk
    rw [hdL_len] at hkl
    exact hw.get (by omega)
/-- to recover twice is to recover once. -/
theorem rp_twice {D : List ByteArray} (hl : 64 ≤ D.length) (hk : okD D = true) (c : Nat) : okD (rpD D) = true ∧ rpD (rpD D) = rpD D ∧ rpC (rpD D) c = c := by
  by_cases h : (hdL (D.getD 1 ⟨#[]⟩)).length = 0
  · have e : rpD D = D := by unfold rpD; rw [if_pos h]
    rw [e]
    exact ⟨hk, e, by unfold rpC; rw [if_pos h]⟩
  · refine calm_open ?_ c
    unfold rpD
    rw [if_neg h, set1_in (by rw [setL_len]; omega), head_nil]
end Go.Proofs.YtgdlfiejjnjcpaaGreat.Lg

namespace Go.Proofs.YtgdlfiejjnjcpaaGreat.Lg
open Go.RowKit
open Sl (St SlabAt Turns)

/-- a new slab's blocks. -/
def newD (n : Nat) : List ByteArray := List.replicate n z128
theorem newD_len (n : Nat) : (newD n).length = n := by simp [newD]
theorem newD_whole (n : Nat) : Whole (newD n) := fun s hs => by rw [List.eq_of_mem_replicate hs]; exact z128_size
theorem newD_get {n k : Nat} (h : k < n) : (newD n).getD k ⟨#[]⟩ = z128 := by simp [newD, List.getD, h]
theorem new_calm (n : Nat) (hn : n ≤ 1000) (w : World) :
    Calls Tryz.prog 24 #[.int .i64 n] w fun e w' => ∃ p pd pm, e = .returned (.pointer (some ⟨p, 0, none⟩)) ∧ SlabAt w' p pd pm (FS (newD n) 0) ∧ w.heap.size ≤ p ∧ w.heap.size ≤ pd ∧ w.heap.size ≤ pm ∧ Below w.heap.size w w' := by
  refine (Sl.new_any n w).mono ?_
  intro e w' ⟨p, pd, pm, h1, h2, h3⟩
  have e2 : Sl.St.new (n : Int) = FS (newD n) 0 := by
    unfold Sl.St.new
    rw [show (min (max (n : Int) 0) 1000).toNat = n by omega]
    rfl
  rw [e2] at h2
  exact ⟨p, pd, pm, h1, h2, h3⟩
def sevenL : List Ch := [⟨50, fillS 7⟩]
theorem seven_ok : rightC sevenL 64 = 0 := by
  refine rightC_ok (by decide) (okL_t.2 fun k hk => ?_)
  obtain rfl : k = 0 := by simp [sevenL] at hk; omega
  exact okC_t.2 ⟨by decide, fillS_size 7⟩

end Go.Proofs.YtgdlfiejjnjcpaaGreat.Lg

namespace Go.Proofs.YtgdlfiejjnjcpaaGreat.Lg
open Go.RowKit
open Sl (St SlabAt Turns RowAt)

/-- the first k of some texts, N in all. -/
def mixB (ss : List ByteArray) (N k : Nat) : List ByteArray := ss.take k ++ List.replicate (N - k) ⟨#[]⟩
theorem mixB_0 (ss : List ByteArray) (N : Nat) : mixB ss N 0 = List.replicate N ⟨#[]⟩ := by simp [mixB]
theorem mixB_len {ss : List ByteArray} {N k : Nat} (h : k ≤ ss.length) (h2 : k ≤ N) : (mixB ss N k).length = N := by simp [mixB]; omega
theorem mixB_set {ss : List ByteArray} {N k : Nat} (h : k < ss.length) (h2 : k < N) : (mixB ss N k).set k (ss.getD k ⟨#[]⟩) = mixB ss N (k + 1) := by
  apply List.ext_getElem?
  intro j
  unfold mixB
  rw [List.getElem?_set]
  by_cases e : k = j
  · subst e
    rw [if_pos rfl, if_pos (by simp; omega), List.getElem?_append_left (by simp; omega), List.getElem?_take_of_lt (by omega)]
    simp [List.getD, h]
  · rw [if_neg e]
    by_cases hj : j < k
    · rw [List.getElem?_append_left (by simp; omega), List.getElem?_append_left (by simp; omega), List.getElem?_take_of_lt hj, List.getElem?_take_of_lt (by omega)]
    · rw [List.getElem?_append_right (by simp; omega), List.getElem?_append_right (by simp; omega)]
      simp only [List.getElem?_replicate, List.length_take]
      have : (j - min k ss.length < N - k) ↔ (j - min (k + 1) ss.length < N - (k + 1)) := by omega
      simp only [this]
theorem mixB_mem {ss : List ByteArray} {N k : Nat} {M : Nat} (h : ∀ s ∈ ss, s.size ≤ M) : ∀ s ∈ mixB ss N k, s.size ≤ M := by
  intro s hs
  rcases List.mem_append.1 hs with h1 | h1
  · exact h s (List.mem_of_mem_take h1)
  · rw [List.eq_of_mem_replicate h1]; exact Nat.zero_le _
theorem whole_size (s : ByteArray) : (Sl.wholeS s).size = 128 := size_padS _ _ (by rw [ByteArray.size_extract]; omega)
theorem load_len {D : List ByteArray} (h : D.length ≤ 1000) : (Sl.loadS D).length = D.length := by simp [Sl.loadS]; omega
theorem load_whole (D : List ByteArray) : Whole (Sl.loadS D) := by
  intro s hs
  obtain ⟨t, _, rfl⟩ := List.mem_map.1 hs
  exact whole_size t
theorem whole_whole {s : ByteArray} (h : s.size = 128) : Sl.wholeS s = s := by
  unfold Sl.wholeS
  have e : s.extract 0 (min s.size 128) = s := by
    rw [h]
    apply ByteArray.ext
    rw [ByteArray.data_extract]
    have : s.data.size = 128 := h
    rw [show min 128 128 = s.data.size by omega]
    simp
  rw [e]; exact padS_full h
theorem load_same {D : List ByteArray} (hw : Whole D) (h : D.length ≤ 1000) : Sl.loadS D = D := by
  unfold Sl.loadS
  rw [List.take_of_length_le h]
  refine (List.map_congr_left fun s hs => whole_whole (hw s hs)).trans (List.map_id _)
theorem rowB (w : World) (D : List ByteArray) (M : Array Value) (hM : M = (D.map Value.string).toArray) : RowAt (w.alloc (.cells M 9)) w.heap.size D := by
  unfold RowAt; rw [hM]; exact heap_alloc_new w _
theorem load_calm (A : Option Addr) (n c : Nat) (ss : List ByteArray) (w : World) (hA : Sl.StrsAt w A n ss) (hn : ss.length = n) (hnc : n ≤ c) (hsz : ∀ s, s ∈ ss → s.size ≤ 9223372036854775807) :
    Calls Tryz.prog 56 #[.slice A n c] w fun e w' => ∃ p pd pm, e = .returned (.pointer (some ⟨p, 0, none⟩)) ∧ SlabAt w' p pd pm (FS (Sl.loadS ss) 0) ∧ w.heap.size ≤ p ∧ w.heap.size ≤ pd ∧ w.heap.size ≤ pm ∧ Below w.heap.size w w' :=
  (Sl.load_any A n c ss w hA hn hnc hsz).mono fun _ _ ⟨h1, h2, h3⟩ => ⟨_, _, _, h1, h2, by omega, by omega, by omega, h3⟩
end Go.Proofs.YtgdlfiejjnjcpaaGreat.Lg
