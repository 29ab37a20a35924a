/-
  WALKS: the law's inside and wide; the reference's Lists. Conditions: at most 1000 elements.
-/
import Derived.Test.YtgdlfiejjnjcpaaGreatHL
import Derived.Test.YtgdlfiejjnjcpaaGreatHK
import Derived.Test.YtgdlfiejjnjcpaaGreatSRefOf
set_option linter.unusedVariables false
set_option linter.unusedSimpArgs false
set_option maxRecDepth 100000
set_option maxHeartbeats 8000000
namespace Go.Proofs.YtgdlfiejjnjcpaaGreat.Dl
open Go.RowKit
open Mk
open Sl (Turns SlabAt)
open Kr (crv rightK blockK kf kb kc KBox cells3 I64 inB marksK bit_marks marks_size)

theorem getD_ext {l l' : List Int} (h : l.length = l'.length) (hk : ∀ k, k < l.length → l.getD k 0 = l'.getD k 0) : l = l' := by
  apply List.ext_getElem h
  intro k h1 h2
  have := hk k h1
  simpa [List.getD, List.getElem?_eq_getElem h1, List.getElem?_eq_getElem h2] using this
def inzX (n z : Int) : Int := if z = 0 then 0 else 51 + (z % 18446744073709551616) % (n - 51)
def inzL (n : Int) (zs : List Int) : List Int := (zs.take 200).map (inzX n)
theorem inzX_ok {n : Nat} (h1 : 64 ≤ n) (z : Int) : ptOk (n : Int) (inzX n z) = true := by
  unfold inzX
  split
  · rfl
  · have h2 := Int.emod_nonneg (z % 18446744073709551616) (show (n : Int) - 51 ≠ 0 by omega)
    have h3 := Int.emod_lt_of_pos (z % 18446744073709551616) (show (0 : Int) < (n : Int) - 51 by omega)
    exact ptOk_t.2 (.inr ⟨by omega, by omega⟩)
theorem inzL_ok {n : Nat} (h1 : 64 ≤ n) (zs : List Int) : ptsOk (n : Int) (inzL n zs) = true := by
  unfold ptsOk
  rw [List.all_eq_true]
  intro x hx
  unfold inzL at hx
  obtain ⟨z, _, rfl⟩ := List.mem_map.1 hx
  exact inzX_ok h1 z
theorem inzL_len (n : Int) (zs : List Int) : (inzL n zs).length ≤ 200 := by unfold inzL; rw [List.length_map, List.length_take]; omega
theorem pts_fit {b : Int} (hb : b ≤ 400) {l : List Int} (h : ptsOk b l = true) : ∀ z ∈ l, Fit z := fun z hz => by
  have := pts_range hb h z hz
  unfold Fit; omega
theorem inside_any (n : Nat) (A : Option Addr) (k cp B : Nat) (zs : List Int) (w : World) (hA : IntsAt w B A k zs) (hB : B ≤ w.heap.size) (h1 : 64 ≤ n) (h2 : n ≤ 400) :
    Calls Tryz.prog 10 #[.slice A k cp, .int .i64 (n : Int)] w fun e w' => ∃ v, e = .returned v ∧ w'.ownsRow w.heap.size 3 1 v (inzL n zs).length (Lg.ints (inzL n zs)) ∧ Below w.heap.size w w' := by
  have HL := Lib.hid hA.len
  have HA := Lib.hid hA
  have HB := Lib.hid hB
  have HM : Hid (∀ z : Int, wrap64 ((IntKind.u64.wrap z).tmod ((n : Int) - 51)) = (z % 18446744073709551616) % ((n : Int) - 51)) := fun z => mod_num z _ ⟨by omega, by omega⟩
  have HMB : Hid (∀ z : Int, 0 ≤ (z % 18446744073709551616) % ((n : Int) - 51) ∧ (z % 18446744073709551616) % ((n : Int) - 51) < 400) := fun z => by
    have h3 := Int.emod_nonneg (z % 18446744073709551616) (show (n : Int) - 51 ≠ 0 by omega)
    have h4 := Int.emod_lt_of_pos (z % 18446744073709551616) (show (0 : Int) < (n : Int) - 51 by omega)
    exact ⟨h3, by omega⟩
  have HX : Hid (∀ z : Int, z ≠ 0 → inzX n z = 51 + (z % 18446744073709551616) % ((n : Int) - 51)) := fun z h0 => by show _ = _; unfold inzX; rw [if_neg h0]
  have e1 : wrap64 ((n : Int) - 51) = (n : Int) - 51 := by unfold wrap64; omega
  have e1' : IntKind.i64.wrap ((n : Int) - 51) = (n : Int) - 51 := IntWalk.i64_in _ (by omega)
  have e2 : IntKind.u64.wrap ((n : Int) - 51) = (n : Int) - 51 := by rw [u64_wrap]; omega
  have e3 : ((n : Int) - 51 == 0) = false := by rw [beq_eq_false_iff_ne]; omega
  clear hA hB
  go_enter Tryz.func10, Tryz.ntmps10
  go_wp2
  go_loopw [5, 6, 7] (fun v i _ wr => ∃ t : Nat, t ≤ k ∧ t ≤ 200 ∧ i = .int .i64 (t : Int) ∧ Hid (wr.ownsRow w.heap.size 3 1 v (inzL n (zs.take t)).length (Lg.ints (inzL n (zs.take t)))) ∧ Hid (Below w.heap.size w wr)) (fun _ i _ _ => k - (intOf i).toNat)
  case atStart => exact ⟨0, by omega, by omega, rfl, World.ownsRow_nil _ _ _ _, Below.refl _ _⟩
  case round =>
    obtain ⟨t, ht, ht2, rfl, hown, hb⟩ := hrel
    obtain ⟨A1, c1, rfl, hc1⟩ := Lg.own_slice hown.out
    by_cases hlt : t < k
    · have hlt2 : (t : Int) < (k : Int) := by omega
      by_cases h200 : t < 200
      · have h202 : (t : Int) < 200 := by omega
        obtain ⟨bb, o, rfl, hbB, hc⟩ := (HA.out.below hb.out HB.out).at_ hlt
        have hsnoc : inzL n (zs.take (t + 1)) = inzL n (zs.take t) ++ [inzX n (zs.getD t 0)] := by
          unfold inzL
          rw [List.take_take, List.take_take, show min 200 (t + 1) = t + 1 by omega, show min 200 t = t by omega, List.take_add_one, List.map_append]
          simp [List.getD, List.getElem?_eq_getElem (show t < zs.length by rw [HL.out]; exact hlt)]
        have HSN := Lib.hid hsnoc
        have HXL := Lib.hid (inzL_len n (zs.take t))
        generalize hbs : inzL n (zs.take t) = bs at *
        generalize zs.getD t 0 = z at *
        have HZ2 := Lib.hid hb.out.size
        clear hsnoc hbs
        by_cases h0 : z = 0
        · have HX0 : Hid (inzX n z = 0) := by show _ = _; unfold inzX; rw [if_pos h0]
          subst h0
          go_wp2_with (at_builtin
                       refine pushT_law rfl (.tmp 34) (.tmp 36) rfl w.heap.size _ (.slice A1 bs.length c1) bs 0 rfl rfl hown.out (by have := HXL.out; omega) HZ2.out ?_
                       intro v' w8 hown8 hown7 hg8
                       have HO8 := Lib.hid hown8
                       have HB8 := Lib.hid ((hb.out.alloc HZ2.out _).grown hg8 (by simp; exact Nat.le_trans HZ2.out (Nat.le_succ _)) (fun k hk => (hown7.lt k hk).1))
                       clear hown8 hown7 hg8)
          go_roundw
          case rel => exact ⟨t + 1, by omega, by omega, by go_num, by show World.ownsRow _ _ _ _ _ _ _; rw [HSN.out, HX0.out]; exact HO8.out, HB8.out⟩
          case measure => simp [intOf]; omega
        · have h0' : (z != 0) = true := bne_iff_ne.2 h0
          have hm := HM.out z
          have hmb := HMB.out z
          have HXZ := Lib.hid (HX.out z h0)
          generalize (z % 18446744073709551616) % ((n : Int) - 51) = y at *
          have e4 : wrap64 (51 + y) = 51 + y := by unfold wrap64; omega
          go_wp2_with (at_builtin
                       refine pushT_law rfl (.tmp 34) (.tmp 36) rfl w.heap.size _ (.slice A1 bs.length c1) bs (51 + y) rfl rfl hown.out (by have := HXL.out; omega) HZ2.out ?_
                       intro v' w8 hown8 hown7 hg8
                       have HO8 := Lib.hid hown8
                       have HB8 := Lib.hid ((hb.out.alloc HZ2.out _).grown hg8 (by simp; exact Nat.le_trans HZ2.out (Nat.le_succ _)) (fun k hk => (hown7.lt k hk).1))
                       clear hown8 hown7 hg8)
          go_roundw
          case rel => exact ⟨t + 1, by omega, by omega, by go_num, by show World.ownsRow _ _ _ _ _ _ _; rw [HSN.out, HXZ.out]; exact HO8.out, HB8.out⟩
          case measure => simp [intOf]; omega
      · have h202 : ¬ (t : Int) < 200 := by omega
        have HE : Hid (inzL n (zs.take t) = inzL n zs) := by
          show _ = _
          unfold inzL
          rw [List.take_take, show min 200 t = 200 by omega]
        have HOW := Lib.hid hown.out
        clear hown
        go_wp2
        go_ret
        refine ⟨_, rfl, ?_, hb.out⟩
        show wr.ownsRow _ _ _ (.slice A1 (inzL n (zs.take t)).length c1) _ _
        have h := HOW.out
        rw [HE.out] at h ⊢
        exact h
    · have hlt2 : ¬ (t : Int) < (k : Int) := by omega
      have HE : Hid (inzL n (zs.take t) = inzL n zs) := by
        show _ = _
        rw [List.take_of_length_le (by rw [HL.out]; omega)]
      have HOW := Lib.hid hown.out
      clear hown
      go_wp2
      go_ret
      refine ⟨_, rfl, ?_, hb.out⟩
      show wr.ownsRow _ _ _ (.slice A1 (inzL n (zs.take t)).length c1) _ _
      have h := HOW.out
      rw [HE.out] at h ⊢
      exact h
def wdT (zs : List Int) (t : Nat) : List Int := (List.range 120).map fun j => if j < t then zs.getD j 0 else 0
theorem wdT_len (zs : List Int) (t : Nat) : (wdT zs t).length = 120 := by simp [wdT]
theorem wdT_get (zs : List Int) (t j : Nat) (hj : j < 120) : (wdT zs t).getD j 0 = if j < t then zs.getD j 0 else 0 := by simp [wdT, List.getD, hj]
theorem wdT_0 (zs : List Int) : wdT zs 0 = List.replicate 120 0 := getD_ext (by simp [wdT]) fun k hk => by
  rw [wdT_len] at hk
  rw [wdT_get _ _ _ hk, if_neg (by omega), show (List.replicate 120 (0 : Int)).getD k 0 = 0 from by rw [List.getD, List.getElem?_replicate]; split <;> rfl]
theorem wdT_succ (zs : List Int) (t : Nat) (ht : t < 120) : wdT zs (t + 1) = (wdT zs t).set t (zs.getD t 0) := getD_ext (by simp [wdT]) fun k hk => by
  rw [wdT_len] at hk
  rw [wdT_get _ _ _ hk]
  by_cases e : k = t
  · subst e
    rw [if_pos (by omega)]
    simp [List.getD, wdT_len, hk]
  · have h1 : ((wdT zs t).set t (zs.getD t 0)).getD k 0 = (wdT zs t).getD k 0 := by
      simp only [List.getD]
      rw [List.getElem?_set_ne (by omega)]
    rw [h1, wdT_get _ _ _ hk]
    by_cases h : k < t
    · rw [if_pos h, if_pos (by omega)]
    · rw [if_neg h, if_neg (by omega)]
theorem wdT_end (zs : List Int) (t : Nat) (h : t = zs.length ∨ 120 ≤ t) : wdT zs t = whole zs := getD_ext (by rw [wdT_len, whole_len]) fun k hk => by
  rw [wdT_len] at hk
  rw [wdT_get _ _ _ hk, whole_get zs k hk]
  by_cases e : k < t
  · rw [if_pos e]
  · rw [if_neg e, gd_out (l := zs) (k := k) (by omega)]
theorem irow_set {w : World} {g : Nat} {l : List Int} (h : Lg.IntRow w g l) (i : Nat) (x : Int) : Lg.IntRow (w.setCell ⟨g, i, none⟩ (.int .i64 x)) g (l.set i x) := by
  unfold Lg.IntRow at *
  rw [Sl.heap_setCell_same w g i _ h]
  congr 2
  apply Array.ext'
  simp [Lg.ints, List.map_set]
theorem irow_fz {w : World} {g : Nat} {l : List Int} (h : Lg.IntRow w g l) (k : Nat) : w.frozen? ⟨g, k, none⟩ = false := by unfold World.frozen?; rw [show w.heap[g]? = _ from h]; simp
/-- the map's 120 blocks. -/
theorem wide_any (A : Option Addr) (k cp B : Nat) (zs : List Int) (w : World) (hA : IntsAt w B A k zs) (hB : B ≤ w.heap.size) (hk : k ≤ 1000) :
    Calls Tryz.prog 18 #[.slice A k cp] w fun e w' => ∃ g, w.heap.size ≤ g ∧ e = .returned (.slice (some ⟨g, 0, none⟩) 120 120) ∧ Lg.IntRow w' g (whole zs) ∧ Below w.heap.size w w' := by
  have HL := Lib.hid hA.len
  have HA := Lib.hid hA
  have HB := Lib.hid hB
  have hmk := Lg.make_ints 120 (by omega) w
  have HR0 : Hid (Lg.IntRow (w.alloc (.cells (Lg.ints (List.replicate 120 0)).toArray 3)) w.heap.size (List.replicate 120 0)) := Lg.IntRow.new _ _
  have HB0 : Hid (Below w.heap.size w (w.alloc (.cells (Lg.ints (List.replicate 120 0)).toArray 3))) := (Below.refl _ _).alloc (Nat.le_refl _) _
  simp only [show ((120 : Nat) : Int) = 120 from rfl] at hmk
  clear hA hB
  generalize w.alloc (.cells (Lg.ints (List.replicate 120 0)).toArray 3) = W0 at *
  go_enter Tryz.func18, Tryz.ntmps18
  go_wp2
  go_loopw [4] (fun i wr => ∃ t : Nat, t ≤ k ∧ t ≤ 120 ∧ i = .int .i64 (t : Int) ∧ Hid (Lg.IntRow wr w.heap.size (wdT zs t)) ∧ Hid (Below w.heap.size w wr)) (fun i _ => k - (intOf i).toNat)
  case atStart => exact ⟨0, by omega, by omega, rfl, by rw [wdT_0]; exact HR0.out, HB0.out⟩
  case round =>
    obtain ⟨t, ht, ht2, rfl, hrow, hb⟩ := hrel
    by_cases hlt : t < k
    · have hlt2 : (t : Int) < (k : Int) := by omega
      by_cases h120 : t < 120
      · have h1202 : (t : Int) < 120 := by omega
        obtain ⟨bb, o, rfl, hbB, hc⟩ := (HA.out.below hb.out HB.out).at_ hlt
        have hcell := hrow.out.cell t (by rw [wdT_len]; exact h120)
        have hfz := irow_fz hrow.out t
        have HSU := Lib.hid (wdT_succ zs t h120)
        have HR1 := Lib.hid (irow_set hrow.out t (zs.getD t 0))
        rw [← HSU.out] at HR1
        generalize zs.getD t 0 = z at *
        have HB1 := Lib.hid (hb.out.setCell (Nat.le_refl _) (p := ⟨w.heap.size, t, none⟩) (.int .i64 z))
        generalize (wdT zs t).getD t 0 = zo at *
        go_wp2_with fail
        go_roundw
        case rel => exact ⟨t + 1, by omega, by omega, by go_num, HR1.out, HB1.out⟩
        case measure => simp [intOf]; omega
      · have h1202 : ¬ (t : Int) < 120 := by omega
        have HE := Lib.hid (wdT_end zs t (.inr (by omega)))
        go_wp2
        go_ret
        exact ⟨w.heap.size, Nat.le_refl _, rfl, by rw [← HE.out]; exact hrow.out, hb.out⟩
    · have hlt2 : ¬ (t : Int) < (k : Int) := by omega
      have HE := Lib.hid (wdT_end zs t (.inl (by rw [HL.out]; omega)))
      go_wp2
      go_ret
      exact ⟨w.heap.size, Nat.le_refl _, rfl, by rw [← HE.out]; exact hrow.out, hb.out⟩
/-- the reference's count of run blocks. -/
theorem rlists_any (A : Option Addr) (n cp B : Nat) (zs : List Int) (w : World) (hA : IntsAt w B A n zs) (hB : B ≤ w.heap.size) (hn : n ≤ 1000) :
    Calls Tryz.prog 14 #[.slice A n cp] w fun e w' => e = .returned (.int .i64 (if smB zs = true then ((need zs : Nat) : Int) else -1)) ∧ Below w.heap.size w w' := by
  have HL := Lib.hid hA.len
  have HA := Lib.hid hA
  have HOF := Lib.hid (Go.Proofs.YtgdlfiejjnjcpaaGreat.rof_any A n cp B zs w hA hB (by omega))
  unfold RetSps at HOF
  have HNE : Hid (need zs = ((ofR zs).length - 3 + 19) / 20) := rfl
  have HBAD : Hid (∀ t, 120 ≤ t → t < n → zs.getD t 0 ≠ 0 → smB zs = false) := fun t h1 h2 h3 => by
    unfold smB
    refine zeroB_f (k := t - 120) (by rw [List.length_drop, hA.len]; omega) ?_
    rw [show (zs.drop 120).getD (t - 120) 0 = zs.getD t 0 by simp only [List.getD, List.getElem?_drop]; rw [show 120 + (t - 120) = t by omega]]
    exact h3
  have HGOOD : Hid ((∀ j, 120 ≤ j → j < n → zs.getD j 0 = 0) → smB zs = true) := fun h => by
    unfold smB
    refine zeroB_t fun k hk => ?_
    rw [List.length_drop, hA.len] at hk
    rw [show (zs.drop 120).getD k 0 = zs.getD (120 + k) 0 by simp only [List.getD, List.getElem?_drop]]
    exact h _ (by omega) (by omega)
  clear hA
  have HND : Hid (need zs ≤ 1000000) := by
    have h1 := ofN_len zs (min zs.length 65536)
    show need zs ≤ _
    unfold need ofR
    omega
  generalize need zs = nd at *
  obtain ⟨R, hR⟩ : ∃ R, (if smB zs = true then ((nd : Nat) : Int) else -1) = R := ⟨_, rfl⟩
  simp only [hR]
  have HR1 : Hid (smB zs = true → ((nd : Nat) : Int) = R) := fun h => by rw [← hR, if_pos h]
  have HR2 : Hid (smB zs = false → (-1 : Int) = R) := fun h => by rw [← hR, h]; rfl
  clear hR
  go_enter Tryz.func14, Tryz.ntmps14
  go_wp2
  go_loop [3] (fun i => ∃ t : Nat, 120 ≤ t ∧ i = .int .i64 (t : Int) ∧ Hid (∀ j, 120 ≤ j → j < t → j < n → zs.getD j 0 = 0)) (fun i => n - (intOf i).toNat)
  case atStart => exact ⟨120, by omega, rfl, fun j h1 h2 => by omega⟩
  case round =>
    obtain ⟨t, ht, rfl, hz⟩ := hrel
    by_cases hlt : t < n
    · have hlt2 : (t : Int) < (n : Int) := by omega
      obtain ⟨b', o, rfl, hbB, h1⟩ := HA.out.at_ hlt
      have HB1 := Lib.hid (HBAD.out t ht hlt)
      have hz2 : Hid (zs.getD t 0 = 0 → ∀ j, 120 ≤ j → j < t + 1 → j < n → zs.getD j 0 = 0) := fun h0 j h1 h2 h3 => by
        by_cases e : j = t
        · subst e; exact h0
        · exact hz.out j h1 (by omega) h3
      generalize zs.getD t 0 = z at *
      by_cases h0 : z = 0
      · subst h0
        have hz3 := Lib.hid (hz2.out rfl)
        clear hz2 HB1
        go_wp2
        go_round
        case rel => exact ⟨t + 1, by omega, by go_num, hz3.out⟩
        case measure => simp [intOf]; omega
      · have h0' : (z != 0) = true := bne_iff_ne.2 h0
        have HS := Lib.hid (HB1.out h0)
        clear hz2 HB1 h0
        go_wp2
        go_ret
        exact ⟨by rw [← HR2.out HS.out]; rfl, Below.refl _ _⟩
    · have hlt2 : ¬ (t : Int) < (n : Int) := by omega
      have HS := Lib.hid (HGOOD.out fun j h1 h2 => hz.out j h1 (by omega) h2)
      clear HGOOD HBAD hz
      go_wp2_with (go_at_call 43; refine HOF.out.mono ?_; rintro e w2 ⟨A2, c2, rfl, -, -, b2⟩; have HB2 := Lib.hid b2; clear b2)
      generalize (ofR zs).length = ln at *
      go_loop [5] (fun i => ∃ k : Nat, k ≤ nd ∧ i = .int .i64 (k : Int)) (fun i => nd - (intOf i).toNat)
      case atStart => exact ⟨0, by omega, rfl⟩
      case round =>
        obtain ⟨k, hk, rfl⟩ := hrel
        have hne := HNE.out
        by_cases hkn : k < nd
        · have q1 : decide (3 + 20 * (k : Int) < (ln : Int)) = true := by simp; omega
          have q2 := HND.out
          clear hne
          go_wp2
          go_round
          case rel => exact ⟨k + 1, by omega, by go_num⟩
          case measure => simp [intOf]; omega
        · obtain rfl : k = nd := by omega
          have q1 : decide (3 + 20 * (k : Int) < (ln : Int)) = false := by simp; omega
          have q2 := HND.out
          clear hne
          go_wp2
          go_ret
          exact ⟨by rw [← HR1.out HS.out]; rfl, HB2.out⟩
end Go.Proofs.YtgdlfiejjnjcpaaGreat.Dl
