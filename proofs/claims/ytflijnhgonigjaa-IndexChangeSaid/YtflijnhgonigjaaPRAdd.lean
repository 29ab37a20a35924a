/-
  WALK: the reference's Add where it fails. Conditions: at most 10000 pages, at most 100000 entries in all.
-/
import Derived.Test.YtflijnhgonigjaaPRWith
import Derived.Test.YtflijnhgonigjaaPRAddM
import Derived.Test.YtflijnhgonigjaaPRefFind
namespace Go.Proofs.Ytflijnhgonigjaa
open Go.RowKit
set_option linter.unusedVariables false

set_option maxRecDepth 100000 in
set_option maxHeartbeats 4000000 in
theorem radd_err (A : Option Addr) (n c B : Nat) (p : Pg) (s : ByteArray) (z : Int) (w : World) (hA : PgsAt w B A n p) (hB : B ≤ w.heap.size) (hn : n ≤ 10000) (hm : p.flatten.length ≤ 100000) (hs : s.size ≤ 140737488355328)
    (hno : ¬ (rightP p = true ∧ nodeB z = true ∧ rightB s = true ∧ hasL p.flatten s = false ∧ p.flatten.length ≠ 160)) :
    Calls Try.prog 21 #[.slice A n c, .string s, .int .i64 z] w (RetAP w (addP p s z)) := by
  have K14 := Lib.hid (rright_anyP A n c B p w hA hB (by omega) hm)
  have K11 := Lib.hid (fun W (hW : Below w.heap.size w W) => rfind_anyP A n c B p s W (hA.below hW hB) (Nat.le_trans hB hW.size) (by omega) hm)
  have K12 := Lib.hid (fun W (hW : Below w.heap.size w W) => rall_any A n c B p W (hA.below hW hB) (Nat.le_trans hB hW.size) (by omega) hm)
  have K29 := Lib.hid (fun W => rright_any s W (by omega))
  have HFIT := Lib.hid hA.fit
  clear hA
  cases hr : rightP p with
  | false =>
    have e1 : addP p s z = ([], 1) := by unfold addP; rw [if_neg]; simp [hr]
    rw [e1]
    rw [hr] at K14
    clear hr e1 hno
    go_enter Try.func21, Try.ntmps21
    go_wp2_with fail
    refine K14.out.mono ?_
    rintro e w1 ⟨rfl, b1⟩
    go_wp2
    go_ret2
    exact RetAP.err w 1 b1
  | true =>
    by_cases hz : nodeB z = true
    · have hz2 := nodeB_iff.1 hz
      obtain ⟨h1, h2⟩ := hz2
      have z1 : decide (z < 1) = false := by simp; omega
      have z2 : decide (65535 < z) = false := by simp; omega
      have z3 : ¬ z < 1 := by omega
      have z4 : ¬ 65535 < z := by omega
      cases hsr : rightB s with
      | false =>
        have e1 : addP p s z = ([], 4) := by unfold addP; rw [if_pos ⟨hr, hz⟩, if_neg]; simp [hsr]
        rw [e1]
        rw [hr] at K14
        rw [hsr] at K29
        clear hr e1 hno hz hsr
        go_enter Try.func21, Try.ntmps21
        go_wp2_with fail
        refine K14.out.mono ?_
        rintro e w1 ⟨rfl, b1⟩
        go_wp2_with fail
        refine (K29.out _).mono ?_
        rintro e w2 ⟨rfl, rfl⟩
        go_wp2
        go_ret2
        exact RetAP.err w 4 b1
      | true =>
        cases hh : hasL p.flatten s with
        | true =>
          have e1 : addP p s z = ([], 6) := by unfold addP; rw [if_pos ⟨hr, hz⟩, if_pos hsr, if_pos hh]
          have e2 : findP p s = (nodeOf p.flatten s, true) := by unfold findP; rw [if_pos ⟨hr, hh⟩]
          rw [e1]
          rw [hr] at K14
          rw [hsr] at K29
          rw [e2] at K11
          clear hr e1 e2 hno hz hsr hh
          go_enter Try.func21, Try.ntmps21
          go_wp2_with fail
          refine K14.out.mono ?_
          rintro e w1 ⟨rfl, b1⟩
          go_wp2_with fail
          refine (K29.out _).mono ?_
          rintro e w2 ⟨rfl, rfl⟩
          go_wp2_with fail
          refine (K11.out _ b1).mono ?_
          rintro e w2 ⟨rfl, b2⟩
          go_wp2
          go_ret2
          exact RetAP.err w 6 (b1.trans (b2.mono b1.size))
        | false =>
          have hl : p.flatten.length = 160 := by
            by_cases h : p.flatten.length = 160
            · exact h
            · exact absurd ⟨hr, hz, hsr, hh, h⟩ hno
          have e1 : addP p s z = ([], 12) := by unfold addP; rw [if_pos ⟨hr, hz⟩, if_pos hsr, if_neg (by simp [hh]), if_pos hl]
          have e2 : findP p s = (0, false) := findP_none hh
          rw [e1]
          rw [hr] at K14
          rw [hsr] at K29
          rw [e2] at K11
          have HL := Lib.hid hl
          clear hr e1 e2 hno hz hsr hh hl
          go_enter Try.func21, Try.ntmps21
          go_wp2_with fail
          refine K14.out.mono ?_
          rintro e w1 ⟨rfl, b1⟩
          go_wp2_with fail
          refine (K29.out _).mono ?_
          rintro e w2 ⟨rfl, rfl⟩
          go_wp2_with fail
          refine (K11.out _ b1).mono ?_
          rintro e w2 ⟨rfl, b2⟩
          have B2 := Lib.hid (b1.trans (b2.mono b1.size))
          clear b1 b2
          go_wp2_with fail
          refine (K12.out w2 B2.out).mono ?_
          intro e w3 hr3
          obtain ⟨A3, c3, rfl, -, -, b3⟩ := hr3.ens HFIT.out
          rw [HL.out]
          go_wp2
          go_ret2
          exact RetAP.err w 12 (B2.out.trans (b3.mono B2.out.size))
    · have e1 : addP p s z = ([], 1) := by unfold addP; rw [if_neg]; exact fun h => hz h.2
      rw [e1]
      rw [hr] at K14
      have hz2 : ¬ (1 ≤ z ∧ z ≤ 65535) := fun h => hz (nodeB_iff.2 h)
      clear hr e1 hno hz
      go_enter Try.func21, Try.ntmps21
      go_wp2_with fail
      refine K14.out.mono ?_
      rintro e w1 ⟨rfl, b1⟩
      by_cases q1 : z < 1
      · have z1 : decide (z < 1) = true := by simpa using q1
        go_wp2
        go_ret2
        exact RetAP.err w 1 b1
      · have z1 : decide (z < 1) = false := by simpa using q1
        have q2 : 65535 < z := by omega
        have z2 : decide (65535 < z) = true := by simpa using q2
        go_wp2
        go_ret2
        exact RetAP.err w 1 b1
end Go.Proofs.Ytflijnhgonigjaa
