/-
  WALKS of the laws' own: inside, wide; the reference's Lists. Conditions: 64 to 400 blocks; at most 1000 numbers for the reference.
-/
import Derived.Test.YtppbonjhckakiaaGreatHI
import Derived.Test.YtppbonjhckakiaaGreatDU
set_option linter.unusedVariables false
set_option linter.unusedSimpArgs false
set_option maxRecDepth 100000
set_option maxHeartbeats 8000000
namespace Go.Proofs.YtppbonjhckakiaaGreat.Dl
open Go.RowKit
open Mk
open Sl (Turns)

/-- a number as the law puts it among the blocks. -/
def inzX (n z : Int) : Int := if z = 0 then 0 else 51 + (z % 18446744073709551616) % (n - 51)
def inzL (n : Int) (zs : List Int) : List Int := (zs.take 200).map (inzX n)
theorem inzX_ok {n : Nat} (h1 : 64 ≤ n) (z : Int) : ptOk (n : Int) (inzX n z) = true := by
  unfold inzX
  split
  · rfl
  · have h2 := Int.emod_nonneg (z % 18446744073709551616) (show (n : Int) - 51 ≠ 0 by omega)
    have h3 := Int.emod_lt_of_pos (z % 18446744073709551616) (show (0 : Int) < (n : Int) - 51 by omega)
    exact ptOk_t.2 (.inr ⟨by omega, by omega⟩)
theorem inzL_ok {n : Nat} (h1 : 64 ≤ n) (zs : List Int) : ptsOk (n : Int) (inzL n zs) = true := by
  unfold ptsOk
  rw [List.all_eq_true]
  intro x hx
  unfold inzL at hx
  obtain ⟨z, _, rfl⟩ := List.mem_map.1 hx
  exact inzX_ok h1 z
theorem inzL_len (n : Int) (zs : List Int) : (inzL n zs).length ≤ 200 := by unfold inzL; rw [List.length_map, List.length_take]; omega
theorem pts_fit {b : Int} (hb : b ≤ 400) {l : List Int} (h : ptsOk b l = true) : ∀ z ∈ l, La.Fit z := fun z hz => by
  have := pts_range hb h z hz
  unfold La.Fit; omega
theorem inside_any (n : Nat) (A : Option Addr) (k cp B : Nat) (zs : List Int) (w : World) (hA : IntsAt w B A k zs) (hB : B ≤ w.heap.size) (h1 : 64 ≤ n) (h2 : n ≤ 400) :
    Calls Tryz.prog 10 #[.slice A k cp, .int .i64 (n : Int)] w fun e w' => ∃ v, e = .returned v ∧ w'.ownsRow w.heap.size 3 1 v (inzL n zs).length (La.ints (inzL n zs)) ∧ Below w.heap.size w w' := by
  have HL := Lib.hid hA.len
  have HA := Lib.hid hA
  have HB := Lib.hid hB
  have HM : Hid (∀ z : Int, wrap64 ((IntKind.u64.wrap z).tmod ((n : Int) - 51)) = (z % 18446744073709551616) % ((n : Int) - 51)) := fun z => mod_num z _ ⟨by omega, by omega⟩
  have HMB : Hid (∀ z : Int, 0 ≤ (z % 18446744073709551616) % ((n : Int) - 51) ∧ (z % 18446744073709551616) % ((n : Int) - 51) < 400) := fun z => by
    have h3 := Int.emod_nonneg (z % 18446744073709551616) (show (n : Int) - 51 ≠ 0 by omega)
    have h4 := Int.emod_lt_of_pos (z % 18446744073709551616) (show (0 : Int) < (n : Int) - 51 by omega)
    exact ⟨h3, by omega⟩
  have HX : Hid (∀ z : Int, z ≠ 0 → inzX n z = 51 + (z % 18446744073709551616) % ((n : Int) - 51)) := fun z h0 => by show _ = _; unfold inzX; rw [if_neg h0]
  have e1 : wrap64 ((n : Int) - 51) = (n : Int) - 51 := by unfold wrap64; omega
  have e1' : IntKind.i64.wrap ((n : Int) - 51) = (n : Int) - 51 := IntWalk.i64_in _ (by omega)
  have e2 : IntKind.u64.wrap ((n : Int) - 51) = (n : Int) - 51 := by rw [u64_wrap]; omega
  have e3 : ((n : Int) - 51 == 0) = false := by rw [beq_eq_false_iff_ne]; omega
  clear hA hB
  go_enter Tryz.func10, Tryz.ntmps10
  go_wp2
  go_loopw [5, 6, 7] (fun v i _ wr => ∃ t : Nat, t ≤ k ∧ t ≤ 200 ∧ i = .int .i64 (t : Int) ∧ Hid (wr.ownsRow w.heap.size 3 1 v (inzL n (zs.take t)).length (La.ints (inzL n (zs.take t)))) ∧ Hid (Below w.heap.size w wr)) (fun _ i _ _ => k - (intOf i).toNat)
  case atStart => exact ⟨0, by omega, by omega, rfl, World.ownsRow_nil _ _ _ _, Below.refl _ _⟩
  case round =>
    obtain ⟨t, ht, ht2, rfl, hown, hb⟩ := hrel
    obtain ⟨A1, c1, rfl, hc1⟩ := La.own_slice hown.out
    by_cases hlt : t < k
    · have hlt2 : (t : Int) < (k : Int) := by omega
      by_cases h200 : t < 200
      · have h202 : (t : Int) < 200 := by omega
        obtain ⟨bb, o, rfl, hbB, hc⟩ := (HA.out.below hb.out HB.out).at_ hlt
        have hsnoc : inzL n (zs.take (t + 1)) = inzL n (zs.take t) ++ [inzX n (zs.getD t 0)] := by
          unfold inzL
          rw [List.take_take, List.take_take, show min 200 (t + 1) = t + 1 by omega, show min 200 t = t by omega, List.take_add_one, List.map_append]
          simp [List.getD, List.getElem?_eq_getElem (show t < zs.length by rw [HL.out]; exact hlt)]
        have HSN := Lib.hid hsnoc
        have HXL := Lib.hid (inzL_len n (zs.take t))
        generalize hbs : inzL n (zs.take t) = bs at *
        generalize zs.getD t 0 = z at *
        have HZ2 := Lib.hid hb.out.size
        clear hsnoc hbs
        by_cases h0 : z = 0
        · have HX0 : Hid (inzX n z = 0) := by show _ = _; unfold inzX; rw [if_pos h0]
          subst h0
          go_wp2_with (at_builtin
                       refine pushT_law rfl (.tmp 34) (.tmp 36) rfl w.heap.size _ (.slice A1 bs.length c1) bs 0 rfl rfl hown.out (by have := HXL.out; omega) HZ2.out ?_
                       intro v' w8 hown8 hown7 hg8
                       have HO8 := Lib.hid hown8
                       have HB8 := Lib.hid ((hb.out.alloc HZ2.out _).grown hg8 (by simp; exact Nat.le_trans HZ2.out (Nat.le_succ _)) (fun k hk => (hown7.lt k hk).1))
                       clear hown8 hown7 hg8)
          go_roundw
          case rel => exact ⟨t + 1, by omega, by omega, by go_num, by show World.ownsRow _ _ _ _ _ _ _; rw [HSN.out, HX0.out]; exact HO8.out, HB8.out⟩
          case measure => simp [intOf]; omega
        · have h0' : (z != 0) = true := bne_iff_ne.2 h0
          have hm := HM.out z
          have hmb := HMB.out z
          have HXZ := Lib.hid (HX.out z h0)
          generalize (z % 18446744073709551616) % ((n : Int) - 51) = y at *
          have e4 : wrap64 (51 + y) = 51 + y := by unfold wrap64; omega
          go_wp2_with (at_builtin
                       refine pushT_law rfl (.tmp 34) (.tmp 36) rfl w.heap.size _ (.slice A1 bs.length c1) bs (51 + y) rfl rfl hown.out (by have := HXL.out; omega) HZ2.out ?_
                       intro v' w8 hown8 hown7 hg8
                       have HO8 := Lib.hid hown8
                       have HB8 := Lib.hid ((hb.out.alloc HZ2.out _).grown hg8 (by simp; exact Nat.le_trans HZ2.out (Nat.le_succ _)) (fun k hk => (hown7.lt k hk).1))
                       clear hown8 hown7 hg8)
          go_roundw
          case rel => exact ⟨t + 1, by omega, by omega, by go_num, by show World.ownsRow _ _ _ _ _ _ _; rw [HSN.out, HXZ.out]; exact HO8.out, HB8.out⟩
          case measure => simp [intOf]; omega
      · have h202 : ¬ (t : Int) < 200 := by omega
        have HE : Hid (inzL n (zs.take t) = inzL n zs) := by
          show _ = _
          unfold inzL
          rw [List.take_take, show min 200 t = 200 by omega]
        have HOW := Lib.hid hown.out
        clear hown
        go_wp2
        go_ret
        refine ⟨_, rfl, ?_, hb.out⟩
        show wr.ownsRow _ _ _ (.slice A1 (inzL n (zs.take t)).length c1) _ _
        have h := HOW.out
        rw [HE.out] at h ⊢
        exact h
    · have hlt2 : ¬ (t : Int) < (k : Int) := by omega
      have HE : Hid (inzL n (zs.take t) = inzL n zs) := by
        show _ = _
        rw [List.take_of_length_le (by rw [HL.out]; omega)]
      have HOW := Lib.hid hown.out
      clear hown
      go_wp2
      go_ret
      refine ⟨_, rfl, ?_, hb.out⟩
      show wr.ownsRow _ _ _ (.slice A1 (inzL n (zs.take t)).length c1) _ _
      have h := HOW.out
      rw [HE.out] at h ⊢
      exact h
def wdT (zs : List Int) (t : Nat) : List Int := (List.range 76).map fun j => if j < t then zs.getD j 0 else 0
theorem wdT_len (zs : List Int) (t : Nat) : (wdT zs t).length = 76 := by simp [wdT]
theorem wdT_get (zs : List Int) (t j : Nat) (hj : j < 76) : (wdT zs t).getD j 0 = if j < t then zs.getD j 0 else 0 := by simp [wdT, List.getD, hj]
theorem wdT_0 (zs : List Int) : wdT zs 0 = List.replicate 76 0 := La.getD_ext (by simp [wdT]) fun k hk => by
  rw [wdT_len] at hk
  rw [wdT_get _ _ _ hk, if_neg (by omega), show (List.replicate 76 (0 : Int)).getD k 0 = 0 from by rw [List.getD, List.getElem?_replicate]; split <;> rfl]
theorem wdT_succ (zs : List Int) (t : Nat) (ht : t < 76) : wdT zs (t + 1) = (wdT zs t).set t (zs.getD t 0) := La.getD_ext (by simp [wdT]) fun k hk => by
  rw [wdT_len] at hk
  rw [wdT_get _ _ _ hk]
  by_cases e : k = t
  · subst e
    rw [if_pos (by omega)]
    simp [List.getD, wdT_len, hk]
  · have h1 : ((wdT zs t).set t (zs.getD t 0)).getD k 0 = (wdT zs t).getD k 0 := by
      simp only [List.getD]
      rw [List.getElem?_set_ne (by omega)]
    rw [h1, wdT_get _ _ _ hk]
    by_cases h : k < t
    · rw [if_pos h, if_pos (by omega)]
    · rw [if_neg h, if_neg (by omega)]
theorem wdT_end (zs : List Int) (t : Nat) (h : t = zs.length ∨ 76 ≤ t) : wdT zs t = La.wholeOf zs := La.getD_ext (by rw [wdT_len, La.wholeOf_len]) fun k hk => by
  rw [wdT_len] at hk
  rw [wdT_get _ _ _ hk, La.wholeOf_get zs k hk]
  by_cases e : k < t
  · rw [if_pos e]
  · rw [if_neg e, La.getD_out zs k (by omega)]
theorem irow_set {w : World} {g : Nat} {l : List Int} (h : La.IntRow w g l) (i : Nat) (x : Int) : La.IntRow (w.setCell ⟨g, i, none⟩ (.int .i64 x)) g (l.set i x) := by
  unfold La.IntRow at *
  rw [Sl.heap_setCell_same w g i _ h]
  congr 2
  apply Array.ext'
  simp [La.ints, List.map_set]
theorem irow_fz {w : World} {g : Nat} {l : List Int} (h : La.IntRow w g l) (k : Nat) : w.frozen? ⟨g, k, none⟩ = false := by unfold World.frozen?; rw [show w.heap[g]? = _ from h]; simp
/-- the map's 76 blocks. -/
theorem wide_any (A : Option Addr) (k cp B : Nat) (zs : List Int) (w : World) (hA : IntsAt w B A k zs) (hB : B ≤ w.heap.size) (hk : k ≤ 1000) :
    Calls Tryz.prog 18 #[.slice A k cp] w fun e w' => ∃ g, w.heap.size ≤ g ∧ e = .returned (.slice (some ⟨g, 0, none⟩) 76 76) ∧ La.IntRow w' g (La.wholeOf zs) ∧ Below w.heap.size w w' := by
  have HL := Lib.hid hA.len
  have HA := Lib.hid hA
  have HB := Lib.hid hB
  have hmk := La.make_ints 76 (by omega) w
  have HR0 : Hid (La.IntRow (w.alloc (.cells (La.ints (List.replicate 76 0)).toArray 3)) w.heap.size (List.replicate 76 0)) := La.IntRow.new _ _
  have HB0 : Hid (Below w.heap.size w (w.alloc (.cells (La.ints (List.replicate 76 0)).toArray 3))) := (Below.refl _ _).alloc (Nat.le_refl _) _
  simp only [show ((76 : Nat) : Int) = 76 from rfl] at hmk
  clear hA hB
  generalize w.alloc (.cells (La.ints (List.replicate 76 0)).toArray 3) = W0 at *
  go_enter Tryz.func18, Tryz.ntmps18
  go_wp2
  go_loopw [4] (fun i wr => ∃ t : Nat, t ≤ k ∧ t ≤ 76 ∧ i = .int .i64 (t : Int) ∧ Hid (La.IntRow wr w.heap.size (wdT zs t)) ∧ Hid (Below w.heap.size w wr)) (fun i _ => k - (intOf i).toNat)
  case atStart => exact ⟨0, by omega, by omega, rfl, by rw [wdT_0]; exact HR0.out, HB0.out⟩
  case round =>
    obtain ⟨t, ht, ht2, rfl, hrow, hb⟩ := hrel
    by_cases hlt : t < k
    · have hlt2 : (t : Int) < (k : Int) := by omega
      by_cases h76 : t < 76
      · have h762 : (t : Int) < 76 := by omega
        obtain ⟨bb, o, rfl, hbB, hc⟩ := (HA.out.below hb.out HB.out).at_ hlt
        have hcell := hrow.out.cell t (by rw [wdT_len]; exact h76)
        have hfz := irow_fz hrow.out t
        have HSU := Lib.hid (wdT_succ zs t h76)
        have HR1 := Lib.hid (irow_set hrow.out t (zs.getD t 0))
        rw [← HSU.out] at HR1
        generalize zs.getD t 0 = z at *
        have HB1 := Lib.hid (hb.out.setCell (Nat.le_refl _) (p := ⟨w.heap.size, t, none⟩) (.int .i64 z))
        generalize (wdT zs t).getD t 0 = zo at *
        go_wp2_with fail
        go_roundw
        case rel => exact ⟨t + 1, by omega, by omega, by go_num, HR1.out, HB1.out⟩
        case measure => simp [intOf]; omega
      · have h762 : ¬ (t : Int) < 76 := by omega
        have HE := Lib.hid (wdT_end zs t (.inr (by omega)))
        go_wp2
        go_ret
        exact ⟨w.heap.size, Nat.le_refl _, rfl, by rw [← HE.out]; exact hrow.out, hb.out⟩
    · have hlt2 : ¬ (t : Int) < (k : Int) := by omega
      have HE := Lib.hid (wdT_end zs t (.inl (by rw [HL.out]; omega)))
      go_wp2
      go_ret
      exact ⟨w.heap.size, Nat.le_refl _, rfl, by rw [← HE.out]; exact hrow.out, hb.out⟩
/-- the reference's count of lists. -/
theorem rlists_any (A : Option Addr) (n cp B : Nat) (zs : List Int) (w : World) (hA : IntsAt w B A n zs) (hB : B ≤ w.heap.size) (hn : n ≤ 1000) :
    Calls Tryz.prog 14 #[.slice A n cp] w fun e w' => e = .returned (.int .i64 (if La.fitsE zs = 0 then ((need zs : Nat) : Int) else -1)) ∧ Below w.heap.size w w' := by
  have HF := Lib.hid (La.rfits_any A n cp B zs w hA (by omega))
  by_cases h0 : La.fitsE zs = 0
  · simp only [if_pos h0]
    rw [h0] at HF
    have HLI := Lib.hid (La.rlist_any A n cp B zs 4 w hA hB (by omega))
    have e1 : La.listR zs 4 = La.optP zs 1 := La.listR_opt zs 1 (by omega) (by omega)
    rw [e1] at HLI
    have HRD := Lib.hid (fun W (hW : Below w.heap.size w W) => La.rdouble_any A n cp B zs W (hA.below hW hB) (Nat.le_trans hB hW.size))
    have HNE : Hid (need zs = ((if 0 < ((La.optP zs 1).getD []).length then 1 else 0) + (if 0 < (La.dblOf zs).length then 1 else 0)) + La.cntTo (La.dblOf zs) (La.dblOf zs).length) := rfl
    have hd8 : (La.dblOf zs).length ≤ 8 := by have h1 := La.dblL_len (fun j => La.optP zs (j + 2)); rw [h1]; split <;> omega
    have HCL := Lib.hid (La.cntTo_le (La.dblOf zs))
    have HCN : Hid (∀ t, La.cntTo (La.dblOf zs) (t + 1) = La.cntTo (La.dblOf zs) t + if 0 < (((La.dblOf zs).getD t none).getD []).length then 1 else 0) := fun t => rfl
    clear h0 hA e1
    generalize La.optP zs 1 = o1 at *
    generalize La.dblOf zs = ls at *
    generalize need zs = nd at *
    obtain ⟨nl, hnl⟩ : ∃ nl, ls.length = nl := ⟨_, rfl⟩
    rw [hnl] at HNE hd8 HRD
    clear hnl
    obtain ⟨n1, hn1⟩ : ∃ n1, (o1.getD []).length = n1 := ⟨_, rfl⟩
    rw [hn1] at HNE
    have HN1 := Lib.hid hn1
    clear hn1
    have e4 : ((4 : Nat) : Int) = 4 := rfl
    rw [e4] at HLI
    clear e4
    rcases Nat.eq_zero_or_pos n1 with rfl | p2 <;> rcases Nat.eq_zero_or_pos nl with rfl | p3
    · have HNE : Hid (nd = 0) := by show _ = _; rw [HNE.out]; rfl
      go_enter Tryz.func14, Tryz.ntmps14
      go_wp2_with (first
        | (go_at_call 43; refine HF.out.mono ?_; rintro e w1 ⟨rfl, rfl⟩)
        | (go_at_call 44; refine HLI.out.mono ?_; rintro e w2 ⟨v2, rfl, o2, b2⟩
           obtain ⟨X2, y2, rfl⟩ := o2.form
           rw [HN1.out]
           have HB2 := Lib.hid b2
           clear b2 o2)
        | (go_at_call 45; refine (HRD.out _ HB2.out).mono ?_; rintro e w3 ⟨X3, y3, rfl, l3, b3⟩
           have HL3 := Lib.hid l3
           have HB3 := Lib.hid (HB2.out.trans (b3.mono HB2.out.size))
           clear b3 l3))
      go_loop [3, 5] (fun s i => s = .int .i64 0 ∧ i = .int .i64 0) (fun _ _ => 0)
      case atStart => exact ⟨rfl, rfl⟩
      case round =>
        obtain ⟨rfl, rfl⟩ := hrel
        go_wp2
        go_ret
        exact ⟨by rw [HNE.out]; rfl, HB3.out⟩
    · have HNE : Hid (nd = 1 + La.cntTo ls nl) := by show _ = _; rw [HNE.out, if_pos p3, if_neg (by omega)]
      go_enter Tryz.func14, Tryz.ntmps14
      go_wp2_with (first
        | (go_at_call 43; refine HF.out.mono ?_; rintro e w1 ⟨rfl, rfl⟩)
        | (go_at_call 44; refine HLI.out.mono ?_; rintro e w2 ⟨v2, rfl, o2, b2⟩
           obtain ⟨X2, y2, rfl⟩ := o2.form
           rw [HN1.out]
           have HB2 := Lib.hid b2
           clear b2 o2)
        | (go_at_call 45; refine (HRD.out _ HB2.out).mono ?_; rintro e w3 ⟨X3, y3, rfl, l3, b3⟩
           have HL3 := Lib.hid l3
           have HB3 := Lib.hid (HB2.out.trans (b3.mono HB2.out.size))
           clear b3 l3))
      go_loop [3, 5] (fun s i => ∃ k : Nat, k ≤ nl ∧ s = .int .i64 ((1 + La.cntTo ls k : Nat) : Int) ∧ i = .int .i64 (k : Int)) (fun _ i => nl - (intOf i).toNat)
      case atStart => exact ⟨0, by omega, rfl, rfl⟩
      case round =>
        obtain ⟨k, hk, rfl, rfl⟩ := hrel
        have hcl := HCL.out k
        by_cases hlt : k < nl
        · obtain ⟨b, o, u, rfl, hbB, hu, hl⟩ := HL3.out.2 k hlt
          obtain ⟨Aq, cq, rfl, hcq, hi, _⟩ := hl.read
          have HCNk := Lib.hid (HCN.out k)
          clear hl hi hcq
          generalize ((ls.getD k none).getD []).length = m at *
          have hk1 : (k : Int) < (nl : Int) := by omega
          rcases Nat.eq_zero_or_pos m with rfl | pm
          · have HCN2 : Hid (La.cntTo ls (k + 1) = La.cntTo ls k) := by show _ = _; rw [HCNk.out]; rfl
            go_wp2
            go_round
            case rel => exact ⟨k + 1, by omega, by rw [HCN2.out], by go_num⟩
            case measure => simp [intOf]; omega
          · have HCN2 : Hid (La.cntTo ls (k + 1) = La.cntTo ls k + 1) := by show _ = _; rw [HCNk.out, if_pos pm]
            go_wp2
            go_round
            case rel => exact ⟨k + 1, by omega, by rw [HCN2.out]; go_num, by go_num⟩
            case measure => simp [intOf]; omega
        · obtain rfl : k = nl := by omega
          go_wp2
          go_ret
          exact ⟨by rw [HNE.out]; rfl, HB3.out⟩
    · have HNE : Hid (nd = 1) := by show _ = _; rw [HNE.out, if_pos p2]; rfl
      go_enter Tryz.func14, Tryz.ntmps14
      go_wp2_with (first
        | (go_at_call 43; refine HF.out.mono ?_; rintro e w1 ⟨rfl, rfl⟩)
        | (go_at_call 44; refine HLI.out.mono ?_; rintro e w2 ⟨v2, rfl, o2, b2⟩
           obtain ⟨X2, y2, rfl⟩ := o2.form
           rw [HN1.out]
           have HB2 := Lib.hid b2
           clear b2 o2)
        | (go_at_call 45; refine (HRD.out _ HB2.out).mono ?_; rintro e w3 ⟨X3, y3, rfl, l3, b3⟩
           have HL3 := Lib.hid l3
           have HB3 := Lib.hid (HB2.out.trans (b3.mono HB2.out.size))
           clear b3 l3))
      go_loop [3, 5] (fun s i => s = .int .i64 1 ∧ i = .int .i64 0) (fun _ _ => 0)
      case atStart => exact ⟨rfl, rfl⟩
      case round =>
        obtain ⟨rfl, rfl⟩ := hrel
        go_wp2
        go_ret
        exact ⟨by rw [HNE.out]; rfl, HB3.out⟩
    · have HNE : Hid (nd = 2 + La.cntTo ls nl) := by show _ = _; rw [HNE.out, if_pos p2, if_pos p3]
      go_enter Tryz.func14, Tryz.ntmps14
      go_wp2_with (first
        | (go_at_call 43; refine HF.out.mono ?_; rintro e w1 ⟨rfl, rfl⟩)
        | (go_at_call 44; refine HLI.out.mono ?_; rintro e w2 ⟨v2, rfl, o2, b2⟩
           obtain ⟨X2, y2, rfl⟩ := o2.form
           rw [HN1.out]
           have HB2 := Lib.hid b2
           clear b2 o2)
        | (go_at_call 45; refine (HRD.out _ HB2.out).mono ?_; rintro e w3 ⟨X3, y3, rfl, l3, b3⟩
           have HL3 := Lib.hid l3
           have HB3 := Lib.hid (HB2.out.trans (b3.mono HB2.out.size))
           clear b3 l3))
      go_loop [3, 5] (fun s i => ∃ k : Nat, k ≤ nl ∧ s = .int .i64 ((2 + La.cntTo ls k : Nat) : Int) ∧ i = .int .i64 (k : Int)) (fun _ i => nl - (intOf i).toNat)
      case atStart => exact ⟨0, by omega, rfl, rfl⟩
      case round =>
        obtain ⟨k, hk, rfl, rfl⟩ := hrel
        have hcl := HCL.out k
        by_cases hlt : k < nl
        · obtain ⟨b, o, u, rfl, hbB, hu, hl⟩ := HL3.out.2 k hlt
          obtain ⟨Aq, cq, rfl, hcq, hi, _⟩ := hl.read
          have HCNk := Lib.hid (HCN.out k)
          clear hl hi hcq
          generalize ((ls.getD k none).getD []).length = m at *
          have hk1 : (k : Int) < (nl : Int) := by omega
          rcases Nat.eq_zero_or_pos m with rfl | pm
          · have HCN2 : Hid (La.cntTo ls (k + 1) = La.cntTo ls k) := by show _ = _; rw [HCNk.out]; rfl
            go_wp2
            go_round
            case rel => exact ⟨k + 1, by omega, by rw [HCN2.out], by go_num⟩
            case measure => simp [intOf]; omega
          · have HCN2 : Hid (La.cntTo ls (k + 1) = La.cntTo ls k + 1) := by show _ = _; rw [HCNk.out, if_pos pm]
            go_wp2
            go_round
            case rel => exact ⟨k + 1, by omega, by rw [HCN2.out]; go_num, by go_num⟩
            case measure => simp [intOf]; omega
        · obtain rfl : k = nl := by omega
          go_wp2
          go_ret
          exact ⟨by rw [HNE.out]; rfl, HB3.out⟩
  · simp only [if_neg h0]
    have h0' : (La.fitsE zs != 0) = true := bne_iff_ne.2 h0
    clear h0 hA
    generalize La.fitsE zs = z at *
    go_enter Tryz.func14, Tryz.ntmps14
    go_wp2_with (go_at_call 43; refine HF.out.mono ?_; rintro e w1 ⟨rfl, rfl⟩)
    go_ret
    exact ⟨rfl, Below.refl _ _⟩
end Go.Proofs.YtppbonjhckakiaaGreat.Dl
