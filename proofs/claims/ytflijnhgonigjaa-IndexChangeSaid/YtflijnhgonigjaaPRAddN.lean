/-
  WALK: the reference's Add at no page. No condition beside a node and a name that may be.
-/
import Derived.Test.YtflijnhgonigjaaPRAdd
namespace Go.Proofs.Ytflijnhgonigjaa
open Go.RowKit
set_option linter.unusedVariables false

set_option maxRecDepth 100000 in
set_option maxHeartbeats 4000000 in
theorem radd_nil (A : Option Addr) (c B : Nat) (s : ByteArray) (z : Int) (w : World) (hB : B ≤ w.heap.size) (hnz : nodeB z = true) (hs : rightB s = true) :
    Calls Try.prog 21 #[.slice A 0 c, .string s, .int .i64 z] w (RetAP w ([[⟨s, z⟩]], 0)) := by
  have hA : PgsAt w B A 0 [] := PgsAt.nil _ _ _
  have hsz := rightB_size hs
  have K14 := Lib.hid (rright_anyP A 0 c B [] w hA hB (by omega) (by simp))
  have K11 := Lib.hid (fun W (hW : Below w.heap.size w W) => rfind_anyP A 0 c B [] s W (hA.below hW hB) (Nat.le_trans hB hW.size) (by omega) (by simp))
  have K12 := Lib.hid (fun W (hW : Below w.heap.size w W) => rall_any A 0 c B [] W (hA.below hW hB) (Nat.le_trans hB hW.size) (by omega) (by simp))
  have K29 := Lib.hid (fun W => rright_any s W (by omega))
  have HFIT := Lib.hid (En.fitOf (s := s) (z := z) (by omega) hnz)
  obtain ⟨h1, h2⟩ := nodeB_iff.1 hnz
  have z1 : decide (z < 1) = false := by simp; omega
  have z2 : decide (65535 < z) = false := by simp; omega
  have z3 : ¬ z < 1 := by omega
  have z4 : ¬ 65535 < z := by omega
  have e2 : findP [] s = (0, false) := findP_none rfl
  rw [rightP_nil] at K14
  rw [hs] at K29
  rw [e2] at K11
  rw [show ([] : Pg).flatten = [] from rfl] at K12
  clear hA hs hnz e2 hsz
  go_enter Try.func21, Try.ntmps21
  go_wp2_with fail
  refine K14.out.mono ?_
  rintro e w1 ⟨rfl, b1⟩
  go_wp2_with fail
  refine (K29.out _).mono ?_
  rintro e w2 ⟨rfl, rfl⟩
  go_wp2_with fail
  refine (K11.out _ b1).mono ?_
  rintro e w2 ⟨rfl, b2⟩
  have B2 := Lib.hid (b1.trans (b2.mono b1.size))
  clear b1 b2
  go_wp2_with fail
  refine (K12.out w2 B2.out).mono ?_
  intro e w3 hr3
  obtain ⟨A3, c3, rfl, -, -, b3⟩ := hr3.ens (fun e he => by simp at he)
  have B3 := Lib.hid (B2.out.trans (b3.mono B2.out.size))
  clear b3 hr3
  rw [show ([] : List En).length = 0 from rfl]
  have B4 : Hid (Below w.heap.size w (w3.alloc (.cells #[.string s, .int .i64 z] 47))) := B3.out.alloc B3.out.size _
  have e0 : (w3.alloc (.cells #[.string s, .int .i64 z] 47)).cell? ⟨w3.heap.size, 0, none⟩ = some (.string s) := cell_new w3 _ 47 0 rfl
  have e1 : (w3.alloc (.cells #[.string s, .int .i64 z] 47)).cell? ⟨w3.heap.size, 1, none⟩ = some (.int .i64 z) := cell_new w3 _ 47 1 rfl
  go_wp2
  go_ret2
  have h := one_page HFIT.out B4.out
  have hz : (w3.alloc (.cells #[.string s, .int .i64 z] 47)).heap.size = w3.heap.size + 1 := by simp
  rw [hz] at h
  exact h
end Go.Proofs.Ytflijnhgonigjaa
