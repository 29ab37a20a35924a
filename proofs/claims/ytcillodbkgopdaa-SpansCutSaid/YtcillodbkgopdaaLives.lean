/-
  WALK: the statements' own lives: the chapter's example. No condition.
-/
import Derived.Test.YtcillodbkgopdaaApart
namespace Go.Proofs.Ytcillodbkgopdaa
open Go.RowKit

theorem of_five : ofR [7, 8, 0, 9, 10] = two := by rfl
theorem right_two : rightL none two = true := by decide
theorem den_two : den two 4 = 10 := by decide

theorem five_at (w : World) : IntsAt (w.alloc (.cells #[.int .i64 7, .int .i64 8, .int .i64 0, .int .i64 9, .int .i64 10] 3)) (w.heap.size + 1) (some ⟨w.heap.size, 0, none⟩) 5 [7, 8, 0, 9, 10] := by
  refine ⟨rfl, ?_, fun k hk => ⟨w.heap.size, 0, rfl, by omega, ?_⟩⟩
  · intro z hz
    simp only [List.mem_cons, List.not_mem_nil, or_false] at hz
    unfold Fit
    omega
  · rw [Nat.zero_add]
    refine cell_new w _ 3 k ?_
    have : k = 0 ∨ k = 1 ∨ k = 2 ∨ k = 3 ∨ k = 4 := by omega
    rcases this with rfl | rfl | rfl | rfl | rfl <;> rfl
theorem TwoAt.of_sps {w : World} {B : Nat} {A : Option Addr} (h : SpsAt w B A 2 two) : ∃ b o, A = some ⟨b, o, none⟩ ∧ TwoAt w b o := by
  obtain ⟨b, o, rfl, _, h1, h2, h3⟩ := h.at_ (show 0 < 2 by omega)
  obtain ⟨b', o', e, _, h4, h5, h6⟩ := h.at_ (show 1 < 2 by omega)
  cases e
  exact ⟨b, o, rfl, h1, h2, h3, h4, h5, h6⟩

set_option maxHeartbeats 2000000 in
theorem lives_any (w : World) : Calls Try.prog 7 #[] w fun e w' => e = .returned (.bool true) ∧ Below w.heap.size w w' := by
  have HOF := Lib.hid (of_any (some ⟨w.heap.size, 0, none⟩) 5 5 (w.heap.size + 1) [7, 8, 0, 9, 10] _ (five_at w) (by simp) (by omega) (by omega))
  rw [of_five] at HOF
  go_enter Try.func7, Try.ntmps7
  go_wp2_with fail
  refine HOF.out.mono ?_
  rintro e w2 ⟨A, c, rfl, hc, hs, b2⟩
  have HB2 : Hid (Below w.heap.size w w2) := ((Below.refl _ _).alloc (Nat.le_refl _) _).trans (b2.mono (by simp))
  have e2 : two.length = 2 := rfl
  rw [e2] at hs hc
  rw [e2]
  obtain ⟨b, o, rfl, htw⟩ := TwoAt.of_sps hs
  have HS := Lib.hid hs
  have HT := Lib.hid htw
  obtain ⟨k1, k2, k3, k4, k5, k6⟩ := htw
  clear hs b2 e2
  have HR := Lib.hid (right_any (some ⟨b, o, none⟩) 2 c w2.heap.size two w2 HS.out (Nat.le_refl _) (by omega))
  rw [right_two] at HR
  go_wp2_with fail
  refine HR.out.mono ?_
  rintro e w3 ⟨rfl, b3⟩
  have HS3 := Lib.hid (HS.out.below b3 (Nat.le_refl _))
  have HT3 := Lib.hid (HT.out.below b3 HT.out.lt)
  have HB3 := Lib.hid (HB2.out.trans (b3.mono HB2.out.size))
  have HA := Lib.hid (at_any (some ⟨b, o, none⟩) 2 c w2.heap.size two 4 w3 HS3.out b3.size (by omega) (fun s hs => in_small (right_mem two none right_two s hs)) (by omega))
  rw [den_two] at HA
  clear b3
  go_wp2_with fail
  refine HA.out.mono ?_
  rintro e w4 ⟨rfl, b4⟩
  have HT4 := Lib.hid (HT3.out.below b4 HT3.out.lt)
  have HB4 := Lib.hid (HB3.out.trans (b4.mono HB3.out.size))
  clear b4
  go_wp2_with fail
  refine (apart_two b o c w4 HT4.out).mono ?_
  rintro e w5 ⟨rfl, b5⟩
  go_wp2
  go_ret
  exact ⟨rfl, HB4.out.trans (b5.mono HB4.out.size)⟩
end Go.Proofs.Ytcillodbkgopdaa
