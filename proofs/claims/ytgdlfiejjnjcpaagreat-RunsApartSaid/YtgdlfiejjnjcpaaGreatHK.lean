/-
  WALKS: the reference's New of a file's card of format Two; the law's fresh. No condition.
-/
import Derived.Test.YtgdlfiejjnjcpaaGreatHJ
import Derived.Test.YtgdlfiejjnjcpaaGreatBN
set_option linter.unusedVariables false
set_option linter.unusedSimpArgs false
set_option maxRecDepth 100000
set_option maxHeartbeats 8000000
namespace Go.Proofs.YtgdlfiejjnjcpaaGreat
open Go.RowKit
theorem rnew2_any (w : World) : Calls Tryz.prog 28 #[.int .i64 2, .int .i64 1] w fun e w' => e = .returned (.tuple #[cdv ⟨2, 1, 1, 0, [], 0, 0, [], 0⟩ none 0 0 none 0 0, .int .i64 0]) ∧ Below w.heap.size w w' := by
  have HB2 : Hid (Below w.heap.size w ((w.alloc (.cells #[.int .i64 0, .int .i64 0, .int .i64 0, .int .i64 0, .slice none 0 0, .int .i64 0, .int .i64 0, .slice none 0 0, .int .i64 0] 30)).alloc (.cells #[.int .i64 2, .int .i64 1, .int .i64 1, .int .i64 0, .slice none 0 0, .int .i64 0, .int .i64 0, .slice none 0 0, .int .i64 0] 30))) := ((Below.refl _ _).alloc (Nat.le_refl _) _).alloc (by simp) _
  have HR2 : Hid (CdRow ((w.alloc (.cells #[.int .i64 0, .int .i64 0, .int .i64 0, .int .i64 0, .slice none 0 0, .int .i64 0, .int .i64 0, .slice none 0 0, .int .i64 0] 30)).alloc (.cells #[.int .i64 2, .int .i64 1, .int .i64 1, .int .i64 0, .slice none 0 0, .int .i64 0, .int .i64 0, .slice none 0 0, .int .i64 0] 30)) w.heap.size zeroC none 0 0 none 0 0) := (CdRow.new w zeroC none 0 0 none 0 0).below ((Below.refl (w.alloc (.cells #[.int .i64 0, .int .i64 0, .int .i64 0, .int .i64 0, .slice none 0 0, .int .i64 0, .int .i64 0, .slice none 0 0, .int .i64 0] 30)).heap.size _).alloc (Nat.le_refl _) _) (by simp)
  have HG2 : Hid (CdRow ((w.alloc (.cells #[.int .i64 0, .int .i64 0, .int .i64 0, .int .i64 0, .slice none 0 0, .int .i64 0, .int .i64 0, .slice none 0 0, .int .i64 0] 30)).alloc (.cells #[.int .i64 2, .int .i64 1, .int .i64 1, .int .i64 0, .slice none 0 0, .int .i64 0, .int .i64 0, .slice none 0 0, .int .i64 0] 30)) (w.heap.size + 1) ⟨2, 1, 1, 0, [], 0, 0, [], 0⟩ none 0 0 none 0 0) := by
    have h1 := CdRow.new (w.alloc (.cells #[.int .i64 0, .int .i64 0, .int .i64 0, .int .i64 0, .slice none 0 0, .int .i64 0, .int .i64 0, .slice none 0 0, .int .i64 0] 30)) ⟨2, 1, 1, 0, [], 0, 0, [], 0⟩ none 0 0 none 0 0
    rwa [show (w.alloc (.cells #[.int .i64 0, .int .i64 0, .int .i64 0, .int .i64 0, .slice none 0 0, .int .i64 0, .int .i64 0, .slice none 0 0, .int .i64 0] 30)).heap.size = w.heap.size + 1 by simp] at h1
  have HC2 : Hid (∀ W : World, CdAt W W.heap.size (cdv ⟨2, 1, 1, 0, [], 0, 0, [], 0⟩ none 0 0 none 0 0) ⟨2, 1, 1, 0, [], 0, 0, [], 0⟩) := fun W => ⟨none, 0, 0, none, 0, 0, rfl, ⟨rfl, by simp, fun k hk => absurd hk (Nat.not_lt_zero _)⟩, ⟨rfl, by simp, fun k hk => absurd hk (Nat.not_lt_zero _)⟩, by omega, by omega, by unfold Cd.fit Fit; simp⟩
  go_enter Tryz.func28, Tryz.ntmps28
  go_upto_region 4 with fail
  generalize ((w.alloc (.cells #[.int .i64 0, .int .i64 0, .int .i64 0, .int .i64 0, .slice none 0 0, .int .i64 0, .int .i64 0, .slice none 0 0, .int .i64 0] 30)).alloc (.cells #[.int .i64 2, .int .i64 1, .int .i64 1, .int .i64 0, .slice none 0 0, .int .i64 0, .int .i64 0, .slice none 0 0, .int .i64 0] 30)) = w3 at *
  have hg3 := HG2.out.lt
  obtain ⟨e0, e1, e2, e3, e4, e5, e6, e7, e8⟩ := HG2.out.cells
  simp only at e0 e1 e2 e3 e4 e5 e6 e7 e8
  go_wp2_with fail
  refine (rright9_any _ ⟨2, 1, 1, 0, [], 0, 0, [], 0⟩ w3.heap.size _ w3 rfl (HC2.out w3) (Nat.le_refl _)).mono ?_
  rintro e w4 ⟨rfl, b4⟩
  have HR4 := Lib.hid (HR2.out.below b4 HR2.out.lt)
  have HG4 := Lib.hid (HG2.out.below b4 hg3)
  have HB4 := Lib.hid (HB2.out.trans (b4.mono HB2.out.size))
  clear e0 e1 e2 e3 e4 e5 e6 e7 e8 b4
  obtain ⟨e0, e1, e2, e3, e4, e5, e6, e7, e8⟩ := HG4.out.cells
  obtain ⟨r0, r1, r2, r3, r4, r5, r6, r7, r8⟩ := HR4.out.cells
  have zr := HR4.out.fz
  simp only at e0 e1 e2 e3 e4 e5 e6 e7 e8
  have hr : rightC ⟨2, 1, 1, 0, [], 0, 0, [], 0⟩ = true := by decide
  rw [hr]
  go_wp2
  clear e0 e1 e2 e3 e4 e5 e6 e7 e8 r0 r1 r2 r3 r4 r5 r6 r7 r8 zr
  have HR8 : Hid (CdRow (put9 w4 w.heap.size ⟨2, 1, 1, 0, [], 0, 0, [], 0⟩ none 0 0 none 0 0) w.heap.size ⟨2, 1, 1, 0, [], 0, 0, [], 0⟩ none 0 0 none 0 0) := put9_row HR4.out
  have HB8 : Hid (Below w.heap.size w (put9 w4 w.heap.size ⟨2, 1, 1, 0, [], 0, 0, [], 0⟩ none 0 0 none 0 0)) := put9_below HB4.out (Nat.le_refl _)
  unfold put9 at HR8 HB8
  simp only at HR8 HB8
  generalize World.setCell _ ⟨w.heap.size, 8, none⟩ _ = w8 at *
  obtain ⟨r0, r1, r2, r3, r4, r5, r6, r7, r8⟩ := HR8.out.cells
  refine bodyPost_ret (v := .tuple #[cdv ⟨2, 1, 1, 0, [], 0, 0, [], 0⟩ none 0 0 none 0 0, .int .i64 0]) (by simp [results, Tryz.results28, go_sem, r0, r1, r2, r3, r4, r5, r6, r7, r8]) rfl ?_
  exact ⟨rfl, HB8.out⟩

namespace Dl
/-- a new file's card. -/
def frC : Cd := ⟨2, 1, 1, 0, [], 0, 0, [], 0⟩
theorem fresh_any (w : World) : Calls Tryz.prog 9 #[] w fun e w' => e = .returned (cdv frC none 0 0 none 0 0) ∧ Below w.heap.size w w' := by
  have HB0 : Hid (Below w.heap.size w (w.alloc (.cells (cells9 zeroC none 0 0 none 0 0) 30))) := (Below.refl _ _).alloc (Nat.le_refl _) _
  have HC0 : Hid (CdRow (w.alloc (.cells (cells9 zeroC none 0 0 none 0 0) 30)) w.heap.size zeroC none 0 0 none 0 0) := CdRow.new _ _ _ _ _ _ _ _
  have HNW := Lib.hid rnew2_any
  unfold cells9 zeroC at HB0 HC0
  simp only at HB0 HC0
  go_enter Tryz.func9, Tryz.ntmps9
  go_wp2_with (go_at_call 28; refine (HNW.out _).mono ?_; rintro e w2 ⟨rfl, b2⟩
               have hal := (Below.refl w2.heap.size w2).alloc (Nat.le_refl _) (.cells #[.int .i64 2, .int .i64 1, .int .i64 1, .int .i64 0, .slice none 0 0, .int .i64 0, .int .i64 0, .slice none 0 0, .int .i64 0] 30)
               have HB2 := Lib.hid ((HB0.out.trans (b2.mono HB0.out.size)).trans (hal.mono (HB0.out.trans (b2.mono HB0.out.size)).size))
               have HC2 := Lib.hid ((HC0.out.below b2 HC0.out.lt).below hal (HC0.out.below b2 HC0.out.lt).lt)
               obtain ⟨r0, r1, r2, r3, r4, r5, r6, r7, r8⟩ := HC2.out.cells
               have zr := HC2.out.fz
               clear b2 hal)
  clear r0 r1 r2 r3 r4 r5 r6 r7 r8 zr
  generalize w2.alloc _ = w3 at *
  have HR8 : Hid (CdRow (put9 w3 w.heap.size frC none 0 0 none 0 0) w.heap.size frC none 0 0 none 0 0) := put9_row HC2.out
  have HB8 : Hid (Below w.heap.size w (put9 w3 w.heap.size frC none 0 0 none 0 0)) := put9_below HB2.out (Nat.le_refl _)
  unfold put9 frC at HR8 HB8
  simp only at HR8 HB8
  generalize World.setCell _ ⟨w.heap.size, 8, none⟩ _ = wz at *
  obtain ⟨r0, r1, r2, r3, r4, r5, r6, r7, r8⟩ := HR8.out.cells
  simp only at r0 r1 r2 r3 r4 r5 r6 r7 r8
  refine bodyPost_ret (v := cdv frC none 0 0 none 0 0) (by simp [results, Tryz.results9, go_sem, r0, r1, r2, r3, r4, r5, r6, r7, r8, frC]) rfl ?_
  exact ⟨rfl, HB8.out⟩
end Dl
end Go.Proofs.YtgdlfiejjnjcpaaGreat
