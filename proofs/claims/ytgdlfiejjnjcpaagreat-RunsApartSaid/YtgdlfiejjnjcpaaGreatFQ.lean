/-
  WALK: the reference's Same of ints tells whether the lists are one, and only reads. Condition: as many elements as an int64 counts.
-/
import Derived.Test.YtgdlfiejjnjcpaaGreatDU
import Derived.Deep.QuietTactic
import Derived.BigQuiet
set_option linter.unusedVariables false
set_option linter.unusedSimpArgs false
set_option maxRecDepth 100000
namespace Go.Proofs.YtgdlfiejjnjcpaaGreat.Dl
open Go.RowKit

section
variable {α : Type} {d : α}
theorem list_no {zs ys : List α} {k : Nat} {R : Bool} (hR : R = true ↔ zs = ys) (hne : zs.getD k d ≠ ys.getD k d) : R = false := by
  cases R with
  | false => rfl
  | true => exact absurd (by rw [hR.1 rfl]) hne
theorem list_step {zs ys : List α} {k : Nat} (h : k < zs.length) (h' : k < ys.length) (ht : zs.take k = ys.take k) (he : zs.getD k d = ys.getD k d) : zs.take (k + 1) = ys.take (k + 1) := by
  rw [List.take_add_one, List.take_add_one, ht, List.getElem?_eq_getElem h, List.getElem?_eq_getElem h']
  simp only [List.getD, List.getElem?_eq_getElem h, List.getElem?_eq_getElem h', Option.getD_some] at he
  rw [he]
theorem list_yes {zs ys : List α} {k : Nat} {R : Bool} (hR : R = true ↔ zs = ys) (h : zs.length ≤ k) (h' : ys.length ≤ k) (ht : zs.take k = ys.take k) : R = true := by
  rw [List.take_of_length_le h, List.take_of_length_le h'] at ht
  exact hR.2 ht
theorem list_len {zs ys : List α} {R : Bool} (hR : R = true ↔ zs = ys) (h : zs.length ≠ ys.length) : R = false := by
  cases R with
  | false => rfl
  | true => exact absurd (by rw [hR.1 rfl]) h
end

set_option maxHeartbeats 4000000 in
theorem rsame_ints (A A' : Option Addr) (n c m c' B B' : Nat) (zs ys : List Int) (R : Bool) (w : World) (hR : R = true ↔ zs = ys) (hr : IntsAt w B A n zs) (hr' : IntsAt w B' A' m ys) (hn : n ≤ 9223372036854775807) (hm : m ≤ 9223372036854775807) :
    Calls Tryz.prog 15 #[.slice A n c, .slice A' m c'] w fun e w' => e = .returned (.bool R) ∧ Lg.Drew w w' := by
  have HR := Lib.hid hR
  clear hR
  have HL := Lib.hid hr.len
  have HL' := Lib.hid hr'.len
  by_cases hl : n = m
  · subst hl
    have HA := Lib.hid hr
    have HA' := Lib.hid hr'
    clear hr hr'
    have hne : ((n : Int) != (n : Int)) = false := by simp
    go_enter Tryz.func15, Tryz.ntmps15
    go_wp2
    clear hne
    go_loopw [5] (fun i wr => ∃ k : Nat, k ≤ n ∧ i = .int .i64 k ∧ Hid (zs.take k = ys.take k) ∧ Lg.Drew w wr) (fun i _ => n - (intOf i).toNat)
    case atStart => exact ⟨0, Nat.zero_le _, rfl, (by show _ = _; rfl), Lg.Drew.refl _⟩
    case round =>
      obtain ⟨k, hk, rfl, HT, hd⟩ := hrel
      by_cases hlt : k < n
      · obtain ⟨b, o, rfl, hb, hc⟩ := HA.out.at_ hlt
        obtain ⟨b', o', rfl, hb', hc'⟩ := HA'.out.at_ hlt
        rw [← hd.cells] at hc hc'
        have h0 : (0 : Int) ≤ (k : Int) := by omega
        have hkn : (k : Int) < (n : Int) := by omega
        by_cases he : zs.getD k 0 = ys.getD k 0
        · have HE := Lib.hid (list_step (by rw [HL.out]; exact hlt) (by rw [HL'.out]; exact hlt) HT.out he)
          rw [← he] at hc'
          clear he
          generalize zs.getD k 0 = z at *
          have hzz : (z != z) = false := by simp
          go_wp2
          go_quiet (fail)
          go_wp2
          go_roundw
          case rel => exact ⟨k + 1, by omega, by go_num, HE, hd.trans ⟨_, rfl⟩⟩
          case measure => simp [intOf]; omega
        · have HN := Lib.hid (list_no HR.out he)
          have hd' : (zs.getD k 0 != ys.getD k 0) = true := bne_iff_ne.2 he
          clear he
          generalize zs.getD k 0 = z at *
          generalize ys.getD k 0 = y at *
          go_wp2
          go_quiet (fail)
          go_wp2
          go_ret
          exact ⟨ret_bool HN.out.symm, hd.trans ⟨_, rfl⟩⟩
      · have HE := Lib.hid (list_yes HR.out (by rw [HL.out]; omega) (by rw [HL'.out]; omega) HT.out)
        go_wp2
        go_ret
        exact ⟨ret_bool HE.out.symm, hd⟩
  · have hne : ((n : Int) != (m : Int)) = true := bne_iff_ne.2 (by omega)
    have HN := Lib.hid (list_len HR.out (by rw [HL.out, HL'.out]; exact hl))
    clear hr hr'
    go_enter Tryz.func15, Tryz.ntmps15
    go_wp2
    go_ret
    exact ⟨ret_bool HN.out.symm, Lg.Drew.refl _⟩

end Go.Proofs.YtgdlfiejjnjcpaaGreat.Dl
