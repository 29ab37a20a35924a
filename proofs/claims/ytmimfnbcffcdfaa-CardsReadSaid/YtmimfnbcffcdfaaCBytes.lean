/-
  WALK: the reference's bytes are those of numbers of one width. Condition: at most 100000 numbers.
-/
import Derived.Test.YtmimfnbcffcdfaaCInts
namespace Go.Proofs.Ytmimfnbcffcdfaa
open Go.RowKit

theorem rep_succ (z : Int) (k : Nat) : List.replicate (k + 1) z = List.replicate k z ++ [z] := List.replicate_succ'
def bytesW (z : Int) (l : List Int) : ByteArray := strOfNums (writeR (List.replicate l.length z) l).1

set_option maxHeartbeats 2000000 in
theorem bytes_any (z : Int) (A : Option Addr) (n c B : Nat) (l : List Int) (w : World) (hz : Fit z) (hA : IntsAt w B A n l) (hB : B ≤ w.heap.size) (hn : n ≤ 100000) :
    Calls Try.prog 26 #[.int .i64 z, .slice A n c] w fun e w' => e = .returned (.string (bytesW z l)) ∧ Below w.heap.size w w' := by
  have HL := Lib.hid hA.len
  have HA : Hid (∀ v, Below w.heap.size w v → IntsAt v B A n l) := fun v hv => hA.below hv hB
  have HZ := Lib.hid hz
  have HE : Hid (bytesW z l = strOfNums (writeR (List.replicate n z) l).1) := by show _ = _; unfold bytesW; rw [hA.len]
  have HRS : Hid (∀ k, List.replicate (k + 1) z = List.replicate k z ++ [z]) := rep_succ z
  generalize bytesW z l = R at *
  clear hA hz
  go_enter Try.func26, Try.ntmps26
  go_wp2
  go_loopw [5, 6] (fun v i wr => ∃ k : Nat, k ≤ n ∧ i = .int .i64 (k : Int) ∧ wr.ownsRow w.heap.size 3 1 v (List.replicate k z).length (ints (List.replicate k z)) ∧ Below w.heap.size w wr) (fun _ i _ => n - (intOf i).toNat)
  case atStart => exact ⟨0, by omega, rfl, World.ownsRow_nil _ _ _ _, Below.refl _ _⟩
  case round =>
    obtain ⟨k, hk, rfl, ho, hb⟩ := hrel
    have HO := Lib.hid ho
    have HB := Lib.hid hb
    have hws := hb.size
    clear ho hb
    by_cases hlt : k < n
    · go_wp2_with (at_builtin; refine pushN_law rfl (.tmp 15) (.tmp 17) rfl w.heap.size wr u5 (List.replicate k z) [z] 1 1 _ rfl rfl rfl rfl HO.out (by simp; omega) hws ?_)
      intro v' w6 ho6 hb6
      have HO6 := Lib.hid ho6
      have HB6 := Lib.hid (HB.out.trans hb6)
      clear ho6 hb6
      go_wp2
      go_roundw
      case rel => exact ⟨k + 1, by omega, by go_num, by rw [HRS.out]; simpa [ints] using HO6.out, HB6.out⟩
      case measure => simp [intOf]; omega
    · obtain rfl : k = n := by omega
      have HW : Hid (∃ A' c', u5 = .slice A' k c' ∧ IntsAt wr wr.heap.size A' k (List.replicate k z)) := by
        have ho := HO.out
        rw [List.length_replicate] at ho
        obtain ⟨A', c', rfl, -⟩ := own_slice ho
        refine ⟨A', c', rfl, ?_⟩
        have h := IntsAt.of_own (l := List.replicate k z) (A := A') (c := c') HO.out (by rw [List.length_replicate]) (fun x hx => by rw [List.eq_of_mem_replicate hx]; exact HZ.out)
        rw [List.length_replicate] at h
        exact h
      obtain ⟨A', c', rfl, i5⟩ := HW.out
      have I5 := Lib.hid i5
      have IA := Lib.hid ((HA.out wr HB.out).more (Nat.le_trans hB hws))
      clear HW i5 HO hlt hk
      go_wp2_with fail
      refine (rwrite_any A' A k c' k c wr.heap.size (List.replicate k z) l wr I5.out IA.out (Nat.le_refl _) (by omega) (by omega)).mono ?_
      rintro e w6 ⟨rfl, b6⟩
      have HB6 := Lib.hid (HB.out.trans (b6.mono hws))
      clear b6
      go_wp2
      go_ret
      rw [HE.out]
      exact ⟨rfl, HB6.out⟩
end Go.Proofs.Ytmimfnbcffcdfaa
