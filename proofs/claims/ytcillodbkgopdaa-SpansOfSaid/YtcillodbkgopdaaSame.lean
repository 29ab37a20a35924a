/-
  WALKS: the reference's Same, of spans and of ints: where both lists are the same. Conditions: as many elements as an int64 counts.
-/
import Derived.Test.YtcillodbkgopdaaSmall
import Derived.Deep.QuietTactic
import Derived.BigQuiet
namespace Go.Proofs.Ytcillodbkgopdaa
open Go.RowKit
theorem Drew.trans {a b c : World} (h : Drew a b) (k : Drew b c) : Drew a c := by
  obtain ⟨n, rfl⟩ := h
  obtain ⟨m, rfl⟩ := k
  exact ⟨n + m, World.drewN_drewN _ _ _⟩
theorem Drew.cells {a b : World} (h : Drew a b) (p : Addr) : b.cell? p = a.cell? p := by
  obtain ⟨n, rfl⟩ := h
  rfl

set_option maxHeartbeats 1000000 in
theorem same_sps (A A' : Option Addr) (n c c' B B' : Nat) (l : List Sp) (w : World) (hA : SpsAt w B A n l) (hA' : SpsAt w B' A' n l) (hn : n ≤ 1000000000) :
    Calls Try.prog 10 #[.slice A n c, .slice A' n c'] w fun e w' => e = .returned (.bool true) ∧ Drew w w' := by
  have HA := Lib.hid hA
  have HA' := Lib.hid hA'
  clear hA hA'
  go_enter Try.func10, Try.ntmps10
  go_wp2
  go_loopw [5] (fun i wr => ∃ k : Nat, k ≤ n ∧ i = .int .i64 (k : Int) ∧ Drew w wr) (fun i _ => n - (intOf i).toNat)
  case atStart => exact ⟨0, by omega, rfl, Drew.refl _⟩
  case round =>
    obtain ⟨k, hk, rfl, hd⟩ := hrel
    by_cases hlt : k < n
    · obtain ⟨b, o, rfl, _, h1, h2, h3⟩ := HA.out.at_ hlt
      obtain ⟨b', o', rfl, _, g1, g2, g3⟩ := HA'.out.at_ hlt
      rw [← hd.cells] at h1 h2 h3 g1 g2 g3
      generalize l.getD k Sp.z = s at *
      obtain ⟨sa, sp, sl⟩ := s
      simp only at h1 h2 h3 g1 g2 g3
      have h0 : (0 : Int) ≤ (k : Int) := by omega
      have hkn : (k : Int) < (n : Int) := by omega
      go_wp2
      go_quiet (fail)
      go_wp2
      go_roundw
      case rel => exact ⟨k + 1, by omega, by go_num, hd.trans ⟨_, rfl⟩⟩
      case measure => simp [intOf]; omega
    · go_wp2
      go_ret
      exact ⟨rfl, hd⟩

set_option maxHeartbeats 1000000 in
theorem same_ints (A A' : Option Addr) (n c c' B B' : Nat) (zs : List Int) (w : World) (hA : IntsAt w B A n zs) (hA' : IntsAt w B' A' n zs) (hn : n ≤ 1000000000) :
    Calls Try.prog 13 #[.slice A n c, .slice A' n c'] w fun e w' => e = .returned (.bool true) ∧ Drew w w' := by
  have HA := Lib.hid hA
  have HA' := Lib.hid hA'
  clear hA hA'
  go_enter Try.func13, Try.ntmps13
  go_wp2
  go_loopw [5] (fun i wr => ∃ k : Nat, k ≤ n ∧ i = .int .i64 (k : Int) ∧ Drew w wr) (fun i _ => n - (intOf i).toNat)
  case atStart => exact ⟨0, by omega, rfl, Drew.refl _⟩
  case round =>
    obtain ⟨k, hk, rfl, hd⟩ := hrel
    by_cases hlt : k < n
    · obtain ⟨b, o, rfl, _, h1⟩ := HA.out.at_ hlt
      obtain ⟨b', o', rfl, _, g1⟩ := HA'.out.at_ hlt
      rw [← hd.cells] at h1 g1
      generalize zs.getD k 0 = s at *
      have h0 : (0 : Int) ≤ (k : Int) := by omega
      have hkn : (k : Int) < (n : Int) := by omega
      go_wp2
      go_quiet (fail)
      go_wp2
      go_roundw
      case rel => exact ⟨k + 1, by omega, by go_num, hd.trans ⟨_, rfl⟩⟩
      case measure => simp [intOf]; omega
    · go_wp2
      go_ret
      exact ⟨rfl, hd⟩
end Go.Proofs.Ytcillodbkgopdaa
