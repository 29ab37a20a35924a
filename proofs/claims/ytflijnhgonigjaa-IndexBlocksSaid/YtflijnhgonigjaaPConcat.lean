/-
  WALKS: slices.Grow from nil, slices.Concat, All, the reference's All. Conditions: at most 100000 pages, at most 100000 entries in all.
-/
import Derived.Test.YtflijnhgonigjaaPPages
import Derived.Lib.AppendZeros
namespace Go.Proofs.Ytflijnhgonigjaa
open Go.RowKit

theorem z43 : (Value.agg #[.string ⟨#[]⟩, .int .i64 0]).cells.size = 2 := rfl
set_option maxHeartbeats 1000000 in
theorem grow_any (n : Nat) (w : World) (hn : n ≤ 100000) :
    Calls Try.prog 66 #[.slice none 0 0, .int .i64 (n : Int)] w fun e w' => ∃ v, e = .returned v ∧ w'.ownsRow w.heap.size 47 2 v 0 [] ∧ Below w.heap.size w w' := by
  rcases Nat.eq_zero_or_pos n with rfl | hp
  · go_enter Try.func66, Try.ntmps66
    go_wp2
    go_ret
    exact ⟨_, rfl, World.ownsRow_nil _ _ _ _, Below.refl _ _⟩
  · obtain ⟨i0, hi, hz0, hz1, hz2⟩ := info_parts info43
    have hap := Lib.run_append_nil_zeros w 27 3 27 47 i0 _ .i64 .i64 Try.underlying27 Try.underlying3 hi hz0 n hp (by omega) (by omega) (by rw [hz2]; omega)
    have hcap := grownCap_ge w n 0 47
    have hmax := grownCap_le_maxLen w n 0 47 (by unfold maxLen; omega)
    have hown := World.ownsRow_made (base := w.heap.size) (e := 47) (size := 2) w.drew (Builtin.zeroCells (Value.agg #[.string ⟨#[]⟩, .int .i64 0]).cells n ++ Builtin.zeroCells (Value.agg #[.string ⟨#[]⟩, .int .i64 0]).cells (grownCap w n 0 47 - n)) (grownCap w n 0 47) (Nat.le_refl _) hmax (by rw [Array.size_append, size_zeroCells, size_zeroCells, z43]; omega)
    have HO := Lib.hid hown
    have HAP := Lib.hid hap
    have hb : Below w.heap.size w (w.drew.alloc (.cells (Builtin.zeroCells (Value.agg #[.string ⟨#[]⟩, .int .i64 0]).cells n ++ Builtin.zeroCells (Value.agg #[.string ⟨#[]⟩, .int .i64 0]).cells (grownCap w n 0 47 - n)) 47)) :=
      Below.alloc (a := w) (w := w.drew) ⟨rfl, rfl, rfl, Nat.le_refl _, fun _ _ => rfl⟩ (Nat.le_refl _) _
    have HB := Lib.hid hb
    clear hown hap hb
    generalize grownCap w n 0 47 = G at *
    generalize (.cells (Builtin.zeroCells (Value.agg #[.string ⟨#[]⟩, .int .i64 0]).cells n ++ Builtin.zeroCells (Value.agg #[.string ⟨#[]⟩, .int .i64 0]).cells (G - n)) 47 : Obj) = ob at *
    have e1 : ¬ (n : Int) < 0 := by omega
    have e2 : (0 : Int) < (n : Int) := by omega
    have hmi : (G : Int) ≤ 9223372036854775807 := by unfold maxLen at hmax; omega
    go_enter Try.func66, Try.ntmps66
    go_wp2_with (at_builtin; refine Lib.wpList_append_run _ rfl _ _ _ _ rfl _ _ rfl rfl _ _ HAP.out ?_)
    go_ret
    exact ⟨_, rfl, HO.out, HB.out⟩

theorem flat_le (p : Pg) (k : Nat) : (p.take k).flatten.length ≤ p.flatten.length := (flat_prefix p k).length_le
set_option maxHeartbeats 4000000 in
theorem concat_any (A : Option Addr) (n c B : Nat) (p : Pg) (w : World) (hA : PgsAt w B A n p) (hB : B ≤ w.heap.size) (hn : n ≤ 100000) (hm : p.flatten.length ≤ 100000) :
    Calls Try.prog 38 #[.slice A n c] w (RetOwn w p.flatten) := by
  have HL := Lib.hid hA.len
  have HA := Lib.hid hA
  have HF : Hid (∀ k, k < n → (p.take (k + 1)).flatten.length = (p.take k).flatten.length + (p.getD k []).length) := fun k hk => by
    rw [flat_take (by rw [HL.out]; exact hk), List.length_append]
  have HG : Hid (∀ k, k < n → (p.take (k + 1)).flatten = (p.take k).flatten ++ p.getD k []) := fun k hk => flat_take (by rw [HL.out]; exact hk)
  have HLE : Hid (∀ k, (p.take k).flatten.length ≤ p.flatten.length) := fun k => flat_le p k
  have HALL : Hid ((p.take n).flatten = p.flatten) := by show _ = _; rw [← HL.out, List.take_length]
  clear hA
  go_enter Try.func38, Try.ntmps38
  go_wp2
  go_loop [3, 11] (fun s i => ∃ k : Nat, k ≤ n ∧ i = .int .i64 (k : Int) ∧ s = .int .i64 (((p.take k).flatten.length : Nat) : Int)) (fun _ i => n - (intOf i).toNat)
  case atStart => exact ⟨0, by omega, rfl, by simp⟩
  case round =>
    obtain ⟨k, hk, rfl, rfl⟩ := hrel
    by_cases hlt : k < n
    · obtain ⟨b, o, A', c', rfl, hbB, hcell, hlc, -⟩ := HA.out.at_ hlt
      have hf := HF.out k hlt
      have h1 := HLE.out (k + 1)
      have HFk := Lib.hid hf
      generalize hT : (p.take k).flatten.length = t at *
      have HT := Lib.hid hT
      clear hT
      generalize (p.getD k []).length = len at *
      have x1 : ¬ ((t : Int) + (len : Int)) < 0 := by omega
      have x2 : ((t : Int) + (len : Int)) ≤ 100000 := by omega
      have HE : Hid ((t : Int) + (len : Int) = (((p.take (k + 1)).flatten.length : Nat) : Int)) := by show _ = _; rw [HFk.out]; omega
      clear hf
      go_wp2
      go_round
      case rel => exact ⟨k + 1, by omega, by go_num, by rw [HE.out]⟩
      case measure => simp [intOf]; omega
    · have HK : Hid (k = n) := by show k = n; omega
      have HGR : Hid (Calls Try.prog 66 #[.slice none 0 0, .int .i64 (((p.take k).flatten.length : Nat) : Int)] w fun e w' => ∃ v, e = .returned v ∧ w'.ownsRow w.heap.size 47 2 v 0 [] ∧ Below w.heap.size w w') := grow_any _ w (by have := HLE.out k; omega)
      generalize (p.take k).flatten.length = t at *
      go_wp2_with fail
      refine HGR.out.mono ?_
      rintro e w1 ⟨v, rfl, ho1, b1⟩
      have HO1 : Hid (w1.ownsRow w.heap.size 47 2 v ((p.take 0).flatten).length (ensCells (p.take 0).flatten)) := by
        show World.ownsRow _ _ _ _ _ _ _
        exact ho1
      clear ho1
      have HNV : Hid (∃ A c, v = .slice A 0 c) := by obtain ⟨A, c, e, -⟩ := own_slice HO1.out; exact ⟨A, c, e⟩
      obtain ⟨A1, c1, rfl⟩ := HNV.out
      have HB1 := Lib.hid b1
      clear b1 HNV HGR HK hlt hk
      go_wp2
      go_loopw [6, 8, 27] (fun v _ i wq => ∃ j : Nat, j ≤ n ∧ i = .int .i64 (j : Int) ∧ wq.ownsRow w.heap.size 47 2 v (p.take j).flatten.length (ensCells (p.take j).flatten) ∧ Below w.heap.size w wq) (fun _ _ i _ => n - (intOf i).toNat)
      case atStart => exact ⟨0, by omega, rfl, HO1.out, HB1.out⟩
      case round =>
        clear HO1 HB1
        obtain ⟨j, hj, rfl, hown, hb⟩ := hrel
        by_cases hjn : j < n
        · obtain ⟨b, o, A', c', rfl, hbB, hcell, hlc, hE⟩ := HA.out.at_ hjn
          have hc := bcell hb hcell (show b < _ by omega)
          have h1 := HLE.out (j + 1)
          have h2 := HF.out j hjn
          have HGj := Lib.hid (HG.out j hjn)
          have hE2 := hE.below hb (by omega)
          have HE2 := Lib.hid hE2
          have HOWN := Lib.hid hown
          have HB := Lib.hid hb
          have hlen : (p.take j).flatten.length + (p.getD j []).length ≤ 100000 := by omega
          have hsz := hb.size
          clear hE hE2 hown hcell hb h1 h2
          generalize (p.take j).flatten = acc at *
          generalize p.getD j [] = l at *
          go_wp2_with (at_builtin; refine join_law rfl (.tmp 31) (.tmp 32) rfl w.heap.size wr _ acc rfl B A' l.length c' l rfl HOWN.out HE2.out hlen hsz ?_)
          intro v' w6 ho6 b6
          obtain ⟨A6, c6, rfl, -⟩ := own_slice ho6
          have HO6 := Lib.hid ho6
          have HB6 := Lib.hid (HB.out.trans (b6.mono (Nat.le_refl _)))
          clear ho6 b6 hc
          go_wp2
          go_roundw
          case rel => exact ⟨j + 1, by omega, by go_num, by rw [HGj.out, List.length_append]; exact HO6.out, HB6.out⟩
          case measure => simp [intOf]; omega
        · obtain rfl : j = n := by omega
          rw [HALL.out] at hown
          obtain ⟨A6, c6, rfl, -⟩ := own_slice hown
          have HO6 := Lib.hid hown
          clear hown
          go_wp2
          go_ret
          exact ⟨_, rfl, HO6.out, hb⟩

set_option maxHeartbeats 2000000 in
theorem all_any (A : Option Addr) (n c B : Nat) (p : Pg) (w : World) (hA : PgsAt w B A n p) (hB : B ≤ w.heap.size) (hn : n ≤ 100000) (hm : p.flatten.length ≤ 100000) :
    Calls Try.prog 16 #[.slice A n c] w (RetOwn w p.flatten) := by
  have HC := Lib.hid (concat_any A n c B p w hA hB hn hm)
  have HFT := Lib.hid hA.fit
  clear hA
  generalize p.flatten = l at *
  go_enter Try.func16, Try.ntmps16
  go_wp2_with fail
  refine HC.out.mono ?_
  intro e w1 hr
  obtain ⟨A1, c1, rfl, -, hE, b1⟩ := hr.ens HFT.out
  have HK := Lib.hid (cloneE_any A1 l.length c1 w1.heap.size l w1 hE (Nat.le_refl _) hm)
  have HB := Lib.hid b1
  clear hE b1 hr
  generalize hm' : l.length = m at *
  have HM := Lib.hid hm'
  clear hm'
  go_wp2_with fail
  refine HK.out.mono ?_
  rintro e w2 ⟨rfl, ho, b2⟩
  have HO := Lib.hid (own_base ho HB.out.size)
  have HB2 := Lib.hid (HB.out.trans (b2.mono HB.out.size))
  clear ho b2
  go_wp2
  go_ret
  exact ⟨_, rfl, HO.out, HB2.out⟩

set_option maxHeartbeats 2000000 in
theorem rall_any (A : Option Addr) (n c B : Nat) (p : Pg) (w : World) (hA : PgsAt w B A n p) (hB : B ≤ w.heap.size) (hn : n ≤ 100000) (hm : p.flatten.length ≤ 100000) :
    Calls Try.prog 12 #[.slice A n c] w (RetOwn w p.flatten) := by
  have HL := Lib.hid hA.len
  have HA := Lib.hid hA
  have HF : Hid (∀ k, k < n → (p.take (k + 1)).flatten.length = (p.take k).flatten.length + (p.getD k []).length) := fun k hk => by
    rw [flat_take (by rw [HL.out]; exact hk), List.length_append]
  have HG : Hid (∀ k, k < n → (p.take (k + 1)).flatten = (p.take k).flatten ++ p.getD k []) := fun k hk => flat_take (by rw [HL.out]; exact hk)
  have HLE : Hid (∀ k, (p.take k).flatten.length ≤ p.flatten.length) := fun k => flat_le p k
  have HALL : Hid ((p.take n).flatten = p.flatten) := by show _ = _; rw [← HL.out, List.take_length]
  clear hA
  go_enter Try.func12, Try.ntmps12
  go_wp2
  go_loopw [3, 4] (fun v i wq => ∃ j : Nat, j ≤ n ∧ i = .int .i64 (j : Int) ∧ wq.ownsRow w.heap.size 47 2 v (p.take j).flatten.length (ensCells (p.take j).flatten) ∧ Below w.heap.size w wq) (fun _ i _ => n - (intOf i).toNat)
  case atStart => exact ⟨0, by omega, rfl, by rw [List.take_zero]; exact World.ownsRow_nil _ _ _ _, Below.refl _ _⟩
  case round =>
    obtain ⟨j, hj, rfl, hown, hb⟩ := hrel
    by_cases hjn : j < n
    · obtain ⟨b, o, A', c', rfl, hbB, hcell, hlc, hE⟩ := HA.out.at_ hjn
      have hc := bcell hb hcell (show b < _ by omega)
      have h1 := HLE.out (j + 1)
      have h2 := HF.out j hjn
      have HGj := Lib.hid (HG.out j hjn)
      have hE2 := hE.below hb (by omega)
      have HE2 := Lib.hid hE2
      have HOWN := Lib.hid hown
      have HB := Lib.hid hb
      have hlen : (p.take j).flatten.length + (p.getD j []).length ≤ 100000 := by omega
      have hsz := hb.size
      obtain ⟨A5, c5, rfl, -⟩ := own_slice hown
      clear hE hE2 hown hcell hb h1 h2
      generalize (p.take j).flatten = acc at *
      generalize p.getD j [] = l at *
      have x2 : (j : Int) < (n : Int) := by omega
      go_wp2_with (at_builtin; refine join_law rfl (.tmp 11) (.tmp 15) rfl w.heap.size wr _ acc rfl B A' l.length c' l rfl HOWN.out HE2.out hlen hsz ?_)
      intro v' w6 ho6 b6
      obtain ⟨A6, c6, rfl, -⟩ := own_slice ho6
      have HO6 := Lib.hid ho6
      have HB6 := Lib.hid (HB.out.trans (b6.mono (Nat.le_refl _)))
      clear ho6 b6 hc
      go_wp2
      go_roundw
      case rel => exact ⟨j + 1, by omega, by go_num, by rw [HGj.out, List.length_append]; exact HO6.out, HB6.out⟩
      case measure => simp [intOf]; omega
    · obtain rfl : j = n := by omega
      rw [HALL.out] at hown
      obtain ⟨A6, c6, rfl, -⟩ := own_slice hown
      have HO6 := Lib.hid hown
      clear hown
      go_wp2
      go_ret
      exact ⟨_, rfl, HO6.out, hb⟩
end Go.Proofs.Ytflijnhgonigjaa
