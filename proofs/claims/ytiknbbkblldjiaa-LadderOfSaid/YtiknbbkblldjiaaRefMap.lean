/-
  WALK: the reference's Map: the map of rungs, number by number. No condition.
-/
import Derived.Test.YtiknbbkblldjiaaPush
namespace Go.Proofs.Ytiknbbkblldjiaa
open Go.RowKit Go.Shelf

set_option maxHeartbeats 1000000 in
theorem at_all (A : Option Addr) (n c B : Nat) (zs : List Int) (i : Nat) (w : World) (hr : IntsAt w B A n zs) (hi : i ≤ 1000000) :
    Calls Try.prog 27 #[.slice A n c, .int .i64 (i : Int)] w fun e w' => e = .returned (.int .i64 (zs.getD i 0)) ∧ w = w' := by
  by_cases hlt : i < n
  · obtain ⟨b, o, rfl, hbB, h1⟩ := hr.at_ hlt
    generalize zs.getD i 0 = z at *
    go_enter Try.func27, Try.ntmps27
    go_wp2
    go_ret
    exact ⟨rfl, rfl⟩
  · have e : zs.getD i 0 = 0 := by
      have := hr.len
      simp [List.getD, List.getElem?_eq_none (show zs.length ≤ i by omega)]
    rw [e]
    go_enter Try.func27, Try.ntmps27
    go_wp2
    go_ret
    exact ⟨rfl, rfl⟩

set_option maxHeartbeats 4000000 in
theorem rmap_any (A1 A2 A3 : Option Addr) (n1 n2 n3 c1 c2 c3 B : Nat) (d s : List Int) (ls : List (Option (List Int))) (w : World) (hr : Rungs3 w B A1 A2 A3 n1 n2 n3 d s ls) (hB : B ≤ w.heap.size) :
    Calls Try.prog 16 #[.slice A1 n1 c1, .slice A2 n2 c2, .slice A3 n3 c3] w (RetInts w (numsTo d s ls 76)) := by
  have HR := Lib.hid hr
  have HFT : Hid (∀ t, ∀ z ∈ numsTo d s ls t, Fit z) := numsTo_fit d s ls hr.h1.fit hr.h2.fit hr.h3.fit
  clear hr
  have H1 : Hid (∀ (i : Nat) (w' : World), Below w.heap.size w w' → i < 4 → Calls Try.prog 27 #[.slice A1 n1 c1, .int .i64 (i : Int)] w' fun e w'' => e = .returned (.int .i64 (numAt d s ls i)) ∧ w' = w'') := fun i w' hb hi => by
    rw [numAt_0 d s ls i hi]
    exact at_all A1 n1 c1 B d i w' (HR.out.h1.below hb hB) (by omega)
  have H2 : Hid (∀ (i : Nat) (w' : World), Below w.heap.size w w' → i < 8 → Calls Try.prog 27 #[.slice A2 n2 c2, .int .i64 (i : Int)] w' fun e w'' => e = .returned (.int .i64 (numAt d s ls (4 + i))) ∧ w' = w'') := fun i w' hb hi => by
    rw [numAt_1 d s ls i hi]
    exact at_all A2 n2 c2 B s i w' (HR.out.h2.below hb hB) (by omega)
  go_enter Try.func16, Try.ntmps16
  go_wp2
  go_loopw [7, 8] (fun v j wr => ∃ i : Nat, i ≤ 4 ∧ j = .int .i64 (i : Int) ∧ wr.ownsRow w.heap.size 3 1 v (numsTo d s ls i).length (ints (numsTo d s ls i)) ∧ Below w.heap.size w wr) (fun _ j _ => 4 - (intOf j).toNat)
  case atStart => exact ⟨0, by omega, rfl, World.ownsRow_nil _ _ _ _, Below.refl _ _⟩
  case round =>
    obtain ⟨i, hi, rfl, hown, hb⟩ := hrel
    obtain ⟨A', c', rfl, hc'⟩ := own_slice hown
    have HO := Lib.hid hown
    have HB := Lib.hid hb
    have HNL := Lib.hid (numsTo_len d s ls i)
    have HNS := Lib.hid (numsTo_succ d s ls i)
    clear hown hb hc'
    by_cases hlt : i < 4
    · have e1 : decide ((i : Int) < 4) = true := by simp; omega
      have hl1 : (numsTo d s ls i).length ≤ 100 := by rw [HNL.out]; omega
      have HC := Lib.hid (H1.out i wr HB.out hlt)
      generalize numAt d s ls i = z at *
      go_wp2_with fail
      refine HC.out.mono ?_
      rintro e w2 ⟨rfl, rfl⟩
      go_wp2_with (at_builtin; refine pushI_law rfl (.tmp 17) (.tmp 21) rfl w.heap.size _ (.slice A' (numsTo d s ls i).length c') (numsTo d s ls i) z rfl rfl HO.out (by omega) HB.out.size ?_; intro v' w3 hown3 hb3)
      go_roundw
      case rel => exact ⟨i + 1, by omega, by go_num, by rw [HNS.out]; exact hown3, HB.out.trans hb3⟩
      case measure => simp [intOf]; omega
    · obtain rfl : i = 4 := by omega
      clear H1 hi hlt HNL HNS
      rw [show ((4 : Nat) : Int) = 4 from rfl]
      go_wp2
      go_loopw [7, 9] (fun v j wr => ∃ i : Nat, i ≤ 8 ∧ j = .int .i64 (i : Int) ∧ wr.ownsRow w.heap.size 3 1 v (numsTo d s ls (4 + i)).length (ints (numsTo d s ls (4 + i))) ∧ Below w.heap.size w wr) (fun _ j _ => 8 - (intOf j).toNat)
      case atStart => exact ⟨0, by omega, rfl, HO.out, HB.out⟩
      case round =>
        obtain ⟨i, hi, rfl, hown, hb⟩ := hrel
        obtain ⟨A', c', rfl, hc'⟩ := own_slice hown
        have HO := Lib.hid hown
        have HB := Lib.hid hb
        have HNL := Lib.hid (numsTo_len d s ls (4 + i))
        have HNS := Lib.hid (numsTo_succ d s ls (4 + i))
        clear hown hb hc'
        by_cases hlt : i < 8
        · have e1 : decide ((i : Int) < 8) = true := by simp; omega
          have hl1 : (numsTo d s ls (4 + i)).length ≤ 100 := by rw [HNL.out]; omega
          have HC := Lib.hid (H2.out i _ HB.out hlt)
          generalize numAt d s ls (4 + i) = z at *
          go_wp2_with fail
          refine HC.out.mono ?_
          rintro e w2 ⟨rfl, rfl⟩
          go_wp2_with (at_builtin; refine pushI_law rfl (.tmp 27) (.tmp 31) rfl w.heap.size _ (.slice A' (numsTo d s ls (4 + i)).length c') (numsTo d s ls (4 + i)) z rfl rfl HO.out (by omega) HB.out.size ?_; intro v' w3 hown3 hb3)
          go_roundw
          case rel => exact ⟨i + 1, by omega, by go_num, by rw [show 4 + (i + 1) = 4 + i + 1 by omega, HNS.out]; exact hown3, HB.out.trans hb3⟩
          case measure => simp [intOf]; omega
        · obtain rfl : i = 8 := by omega
          clear H2 hi hlt HNL HNS
          rw [show ((8 : Nat) : Int) = 8 from rfl]
          go_wp2
          go_loopw [7, 10] (fun v j wr => ∃ k : Nat, k ≤ 8 ∧ j = .int .i64 (k : Int) ∧ wr.ownsRow w.heap.size 3 1 v (numsTo d s ls (12 + 8 * k)).length (ints (numsTo d s ls (12 + 8 * k))) ∧ Below w.heap.size w wr) (fun _ j _ => 8 - (intOf j).toNat)
          case atStart => exact ⟨0, by omega, rfl, HO.out, HB.out⟩
          case round =>
            obtain ⟨k, hk, rfl, hown, hb⟩ := hrel
            obtain ⟨A', c', rfl, hc'⟩ := own_slice hown
            have HO := Lib.hid hown
            have HB := Lib.hid hb
            clear hown hb hc'
            by_cases hlt : k < 8
            · have e1 : decide ((k : Int) < 8) = true := by simp; omega
              by_cases hkn : k < n3
              · obtain ⟨b, o, u, rfl, hbB, hu, hl⟩ := HR.out.h3.2 k hkn
                obtain ⟨A4, c4, rfl, hc4, hi4, _⟩ := hl.read
                have hu' := (HB.out.cell (p := ⟨b, o + k, none⟩) (show b < w.heap.size by omega)).trans hu
                have H4 : Hid (∀ (i : Nat) (w' : World), Below w.heap.size w w' → i < 8 → Calls Try.prog 27 #[.slice A4 ((ls.getD k none).getD []).length c4, .int .i64 (i : Int)] w' fun e w'' => e = .returned (.int .i64 (numAt d s ls (12 + 8 * k + i))) ∧ w' = w'') := fun i w' hb hi => by
                  rw [numAt_2 d s ls k i hi]
                  exact at_all A4 _ c4 B _ i w' (hi4.below hb hB) (by omega)
                have hkn' : (k : Int) < (n3 : Int) := by omega
                clear hu hl hc4 hi4
                generalize ((ls.getD k none).getD []).length = m4 at *
                go_wp2
                go_loopw [7, 12] (fun v j wr => ∃ i : Nat, i ≤ 8 ∧ j = .int .i64 (i : Int) ∧ wr.ownsRow w.heap.size 3 1 v (numsTo d s ls (12 + 8 * k + i)).length (ints (numsTo d s ls (12 + 8 * k + i))) ∧ Below w.heap.size w wr) (fun _ j _ => 8 - (intOf j).toNat)
                case atStart => exact ⟨0, by omega, rfl, HO.out, HB.out⟩
                case round =>
                  obtain ⟨i, hi, rfl, hown, hb⟩ := hrel
                  obtain ⟨A', c', rfl, hc'⟩ := own_slice hown
                  have HO := Lib.hid hown
                  have HB := Lib.hid hb
                  have HNL := Lib.hid (numsTo_len d s ls (12 + 8 * k + i))
                  have HNS := Lib.hid (numsTo_succ d s ls (12 + 8 * k + i))
                  clear hown hb hc'
                  by_cases hlt : i < 8
                  · have e1 : decide ((i : Int) < 8) = true := by simp; omega
                    have hl1 : (numsTo d s ls (12 + 8 * k + i)).length ≤ 100 := by rw [HNL.out]; omega
                    have HC := Lib.hid (H4.out i _ HB.out hlt)
                    generalize numAt d s ls (12 + 8 * k + i) = z at *
                    go_wp2_with fail
                    refine HC.out.mono ?_
                    rintro e w2 ⟨rfl, rfl⟩
                    go_wp2_with (at_builtin; refine pushI_law rfl (.tmp 49) (.tmp 53) rfl w.heap.size _ (.slice A' (numsTo d s ls (12 + 8 * k + i)).length c') (numsTo d s ls (12 + 8 * k + i)) z rfl rfl HO.out (by omega) HB.out.size ?_; intro v' w3 hown3 hb3)
                    go_roundw
                    case rel => exact ⟨i + 1, by omega, by go_num, by rw [show 12 + 8 * k + (i + 1) = 12 + 8 * k + i + 1 by omega, HNS.out]; exact hown3, HB.out.trans hb3⟩
                    case measure => simp [intOf]; omega
                  · obtain rfl : i = 8 := by omega
                    rw [show ((8 : Nat) : Int) = 8 from rfl]
                    go_wp2
                    go_roundw
                    case rel => exact ⟨k + 1, by omega, by go_num, HO.out, HB.out⟩
                    case measure => simp [intOf]; omega
              · have H4 : Hid (∀ (i : Nat) (w' : World), Below w.heap.size w w' → i < 8 → Calls Try.prog 27 #[.slice none 0 0, .int .i64 (i : Int)] w' fun e w'' => e = .returned (.int .i64 (numAt d s ls (12 + 8 * k + i))) ∧ w' = w'') := fun i w' _ hi => by
                  have e : lstAt ls k = [] := by
                    have := HR.out.h3.1
                    simp [lstAt, List.getD, List.getElem?_eq_none (show ls.length ≤ k by omega)]
                  rw [numAt_2 d s ls k i hi, e]
                  exact at_all none 0 0 0 [] i w' (IntsAt.nil _ _ _) (by omega)
                have hkn' : ¬ (k : Int) < (n3 : Int) := by omega
                go_wp2
                go_loopw [7, 12] (fun v j wr => ∃ i : Nat, i ≤ 8 ∧ j = .int .i64 (i : Int) ∧ wr.ownsRow w.heap.size 3 1 v (numsTo d s ls (12 + 8 * k + i)).length (ints (numsTo d s ls (12 + 8 * k + i))) ∧ Below w.heap.size w wr) (fun _ j _ => 8 - (intOf j).toNat)
                case atStart => exact ⟨0, by omega, rfl, HO.out, HB.out⟩
                case round =>
                  obtain ⟨i, hi, rfl, hown, hb⟩ := hrel
                  obtain ⟨A', c', rfl, hc'⟩ := own_slice hown
                  have HO := Lib.hid hown
                  have HB := Lib.hid hb
                  have HNL := Lib.hid (numsTo_len d s ls (12 + 8 * k + i))
                  have HNS := Lib.hid (numsTo_succ d s ls (12 + 8 * k + i))
                  clear hown hb hc'
                  by_cases hlt : i < 8
                  · have e1 : decide ((i : Int) < 8) = true := by simp; omega
                    have hl1 : (numsTo d s ls (12 + 8 * k + i)).length ≤ 100 := by rw [HNL.out]; omega
                    have HC := Lib.hid (H4.out i _ HB.out hlt)
                    generalize numAt d s ls (12 + 8 * k + i) = z at *
                    go_wp2_with fail
                    refine HC.out.mono ?_
                    rintro e w2 ⟨rfl, rfl⟩
                    go_wp2_with (at_builtin; refine pushI_law rfl (.tmp 49) (.tmp 53) rfl w.heap.size _ (.slice A' (numsTo d s ls (12 + 8 * k + i)).length c') (numsTo d s ls (12 + 8 * k + i)) z rfl rfl HO.out (by omega) HB.out.size ?_; intro v' w3 hown3 hb3)
                    go_roundw
                    case rel => exact ⟨i + 1, by omega, by go_num, by rw [show 12 + 8 * k + (i + 1) = 12 + 8 * k + i + 1 by omega, HNS.out]; exact hown3, HB.out.trans hb3⟩
                    case measure => simp [intOf]; omega
                  · obtain rfl : i = 8 := by omega
                    rw [show ((8 : Nat) : Int) = 8 from rfl]
                    go_wp2
                    go_roundw
                    case rel => exact ⟨k + 1, by omega, by go_num, HO.out, HB.out⟩
                    case measure => simp [intOf]; omega
            · obtain rfl : k = 8 := by omega
              have HFIN : Hid (RetInts w (numsTo d s ls 76) (.returned (.slice A' (numsTo d s ls 76).length c')) _) := ⟨A', _, c', rfl, IntsAt.of_own HO.out rfl (HFT.out 76), HB.out⟩
              go_wp2
              go_ret
              exact HFIN.out
end Go.Proofs.Ytiknbbkblldjiaa
