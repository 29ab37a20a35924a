/-
  WALK: New. Conditions: none but that n is an int.
-/
import Derived.Test.YtpljifeebbeakaaSLoad
namespace Go.Proofs.Ytpljifeebbeakaa.Sl
open Go.RowKit Go.Maps

/-- a slab that was just made: of so many blocks, as New makes it. -/
def St.new (n : Int) : St := St.fresh (List.replicate (min (max n 0) 1000).toNat (wholeS ⟨#[]⟩))

theorem loadS_rep {m : Nat} (hm : m ≤ 1000) : loadS (List.replicate m ⟨#[]⟩) = List.replicate m (wholeS ⟨#[]⟩) := by
  unfold loadS
  rw [List.take_replicate, List.map_replicate, Nat.min_eq_right hm]

set_option maxHeartbeats 1000000 in
theorem new_any (n : Int) (w : World) :
    Calls Try.prog 9 #[.int .i64 n] w fun e w' => ∃ p pd pm, e = .returned (.pointer (some ⟨p, 0, none⟩)) ∧ SlabAt w' p pd pm (St.new n) ∧ w.heap.size ≤ p ∧ w.heap.size ≤ pd ∧ w.heap.size ≤ pm ∧ Below w.heap.size w w' := by
  obtain ⟨m, hm⟩ : ∃ m : Nat, m = (min (max n 0) 1000).toNat := ⟨_, rfl⟩
  have hm1 : m ≤ 1000 := by omega
  have hmt : min (max n 0) 1000 = (m : Int) := by omega
  obtain ⟨M, hM, hmk⟩ := make_strs m hm1
  have hrow : RowAt (w.alloc (.cells M 9)) w.heap.size (List.replicate m ⟨#[]⟩) := by
    unfold RowAt; rw [hM]; exact heap_alloc_new w _
  have HL := Lib.hid (load_any (some ⟨w.heap.size, 0, none⟩) m m (List.replicate m ⟨#[]⟩) (w.alloc (.cells M 9)) (by have := hrow.strs; simpa using this) (by simp) (Nat.le_refl _) (by intro s hs; rw [(List.mem_replicate.1 hs).2]; decide))
  have HS : Hid (St.new n = St.fresh (loadS (List.replicate m ⟨#[]⟩))) := by show _ = _; unfold St.new; rw [loadS_rep hm1, hm]
  clear hM hrow hm
  go_enter Try.func9, Try.ntmps9
  go_wp2_with (go_at_call 23; refine HL.out.mono ?_; rintro e w1 ⟨rfl, h1, b1⟩)
  go_ret
  rw [HS.out]
  have e : (w.alloc (.cells M 9)).heap.size = w.heap.size + 1 := by simp
  rw [e] at h1 b1
  exact ⟨_, _, _, by simp, h1, by omega, by omega, by omega, ((Below.refl _ w).alloc (Nat.le_refl _) (.cells M 9)).trans (b1.mono (by omega))⟩
end Go.Proofs.Ytpljifeebbeakaa.Sl
