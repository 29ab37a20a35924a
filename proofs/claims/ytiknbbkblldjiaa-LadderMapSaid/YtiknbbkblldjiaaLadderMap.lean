/-
  LadderMap: the map of any rungs is what the document says. No condition.
-/
import Derived.Test.YtiknbbkblldjiaaRefMap
namespace Go.Proofs.Ytiknbbkblldjiaa.ladderMap
open Go.ChangeShapes Go.WideShapes Go.ChangeAt Go.RowKit
open Go.ChangeMaps (open_string shut_string)

set_option maxHeartbeats 2000000 in
theorem walk (A1 : Option Addr) (n1 c1 : Nat) (d : List Int) (A2 : Option Addr) (n2 c2 : Nat) (s : List Int) (A3 : Option Addr) (n3 c3 : Nat) (ls : List (Option (List Int))) (w : World)
    (h1 : IntsAt w w.heap.size A1 n1 d ∧ n1 ≤ c1) (h2 : IntsAt w w.heap.size A2 n2 s ∧ n2 ≤ c2) (h3 : ListsAt w w.heap.size A3 n3 ls) :
    Calls Try.prog 4 #[.slice A1 n1 c1, .slice A2 n2 c2, .slice A3 n3 c3] w fun e w' => e = .returned (.bool true) ∧ Below w.heap.size w w' := by
  have HR : Hid (Rungs3 w w.heap.size A1 A2 A3 n1 n2 n3 d s ls) := ⟨h1.1, h2.1, h3⟩
  have HFT : Hid (∀ z ∈ numsTo d s ls 76, Fit z) := numsTo_fit d s ls h1.1.fit h2.1.fit h3.fit 76
  clear h1 h2 h3
  go_enter Try.func4, Try.ntmps4
  go_wp2_with fail
  refine (lives_any w).mono ?_
  rintro e w1 ⟨rfl, b1⟩
  have HR1 := Lib.hid (HR.out.below b1 (Nat.le_refl _))
  have HB1 := Lib.hid b1
  have hz1 := b1.size
  clear b1
  go_wp2_with fail
  refine (map_any A1 A2 A3 n1 n2 n3 c1 c2 c3 w.heap.size d s ls w1 HR1.out hz1).mono ?_
  rintro e w2 ⟨g, hg, rfl, hrow, b2⟩
  rw [mapRow_nums] at hrow ⊢
  rw [numsTo_len]
  have HR2 := Lib.hid (HR1.out.below b2 hz1)
  have HROW := Lib.hid hrow
  have HB2 := Lib.hid (HB1.out.trans (b2.mono hz1))
  have hz2 := HB2.out.size
  clear b2 hrow
  go_wp2_with fail
  refine (rmap_any A1 A2 A3 n1 n2 n3 c1 c2 c3 w.heap.size d s ls w2 HR2.out hz2).mono ?_
  rintro e w3 ⟨A, n, c, rfl, hi, b3⟩
  obtain rfl : 76 = n := by rw [← hi.len, numsTo_len]
  have HROW3 := Lib.hid (HROW.out.below b3 HROW.out.lt)
  have HI := Lib.hid hi
  have HB3 := Lib.hid (HB2.out.trans (b3.mono hz2))
  clear b3 hi
  go_wp2_with fail
  have hA : IntsAt w3 w3.heap.size (some ⟨g, 0, none⟩) 76 (numsTo d s ls 76) := by
    have := HROW3.out.ints HFT.out HROW3.out.lt
    rwa [numsTo_len] at this
  refine (same_ints (some ⟨g, 0, none⟩) A 76 76 c _ _ _ w3 hA HI.out (by omega)).mono ?_
  rintro e w4 ⟨rfl, d4⟩
  go_wp2
  go_ret
  exact ⟨rfl, Below.drews HB3.out d4⟩

set_option maxRecDepth 100000 in
theorem lifted (os : Os) (started : os.Started) (H : Type) (enc : TypeId × Value → H) :
    ReturnsInHanded {} Try.checked os 4 .any (Rows.ladderMapSpec.pre6 enc Try.prog Try.f4 Rows.ladderMapRow.domain false) (Rows.ladderMapSpec.post enc Try.prog Try.f4 false true false false) := by
  refine returnsInHanded_of_change_sized (C := Try.checked) own started (by kernel_rfl) Try.func4
    (ChangeSpec.witness6 (enc := enc) (C := Try.checked) false ⟨#[], #[.slice none 0 0, .slice none 0 0, .slice none 0 0], []⟩ 8 (by kernel_rfl) (by kernel_rfl) (by kernel_rfl) (by kernel_rfl)) ?_
  intro W base args ds gs before hval0 hW hcnd hsz0 _
  have hval : ∀ (j : Nat) t v, Try.f4.params[j]? = some t → args[j]? = some v → Value.okWide Try.prog W .any base t v := hval0
  have hW' := hW
  obtain ⟨p, q, hA0, hV, rfl, hfz, hnd⟩ := hW
  have hA : DataW.TrodAll enc Try.prog W 0 (fun _ => true) true Try.f4.params.toList args.toList ds p := hA0
  rw [Try.params4] at hA hval
  obtain ⟨v0, vs0, d0, ds0, p0, q0, hargs, rfl, rfl, h0, r0⟩ := trodAll_cons hA
  obtain ⟨v1, vs1, d1, ds1, p1, q1, rfl, rfl, rfl, h1, r1⟩ := trodAll_cons r0
  obtain ⟨v2, vs2, d2, ds2, p2, q2, rfl, rfl, rfl, h2, r2⟩ := trodAll_cons r1
  obtain ⟨rfl, rfl, rfl⟩ := trodAll_nil r2
  obtain rfl : args = #[v0, v1, v2] := by cases args; simp_all
  obtain ⟨rfl, rfl⟩ := trodVars_none hV
  have lt0 : ∀ x ∈ p0, x.block < W.heap.size := by obtain ⟨m, hm⟩ := h0; exact DataW.trod_lt m _ _ _ hm
  obtain ⟨a0, len0, cap0, rfl⟩ := okWide_slice Try.underlying22 (hval 0 22 v0 rfl rfl)
  obtain ⟨l0, w0⟩ := ints_open h0
  have lt1 : ∀ x ∈ p1, x.block < W.heap.size := by obtain ⟨m, hm⟩ := h1; exact DataW.trod_lt m _ _ _ hm
  obtain ⟨a1, len1, cap1, rfl⟩ := okWide_slice Try.underlying22 (hval 1 22 v1 rfl rfl)
  obtain ⟨l1, w1⟩ := ints_open h1
  have lt2 : ∀ x ∈ p2, x.block < W.heap.size := by obtain ⟨m, hm⟩ := h2; exact DataW.trod_lt m _ _ _ hm
  obtain ⟨a2, len2, cap2, rfl⟩ := okWide_slice Try.underlying24 (hval 2 24 v2 rfl rfl)
  obtain ⟨l2, w2⟩ := lists_open h2
  clear hA0 hval0
  refine (walk a0 len0 cap0 l0 a1 len1 cap1 l1 a2 len2 cap2 l2 W w0 w1 w2).mono fun e W' ⟨he, bel⟩ => ?_
  subst he
  exact ⟨_, rfl, _, _, _, [], _, [], hW', trodAll_mk1 (shut_bool Try.underlying4 _), (trodAll_cons_mk (Below.trod laidOut (by kernel_rfl) (of_decide_eq_true (by kernel_rfl)) h0 bel lt0) (trodAll_cons_mk (Below.trod laidOut (by kernel_rfl) (of_decide_eq_true (by kernel_rfl)) h1 bel lt1) (trodAll_cons_mk (Below.trod laidOut (by kernel_rfl) (of_decide_eq_true (by kernel_rfl)) h2 bel lt2) trodAll_mk0))), rfl, bel.frame _, fun h => by cases h⟩

theorem over : Rows.ladderMapRow.holds Try.pinned (OpenSpec.ofChange Rows.ladderMapSpec) :=
  OpenClaim.holds_of_wide 4 Try.f4 rfl rfl rfl rfl rfl rfl rfl ⟨rfl, rfl, rfl, rfl, rfl⟩ rfl rfl rfl rfl rfl (by kernel_rfl) Try.func4 (by kernel_rfl)
    (of_decide_eq_true (by kernel_rfl)) (by unfold Func.isWrapper; first | (rw [if_pos (by decide +kernel)]; kernel_rfl) | (rw [if_neg (by decide +kernel)]; exact ⟨rfl, rfl⟩))
    (fun os started H enc _ => lifted os started H enc)

end Go.Proofs.Ytiknbbkblldjiaa.ladderMap
namespace Go.Proofs.Ytiknbbkblldjiaa
theorem ladderMap_proved : Rows.LadderMapSaid := ladderMap.over
#print axioms ladderMap_proved
end Go.Proofs.Ytiknbbkblldjiaa
