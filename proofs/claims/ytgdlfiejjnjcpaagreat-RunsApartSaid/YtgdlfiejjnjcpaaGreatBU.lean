/-
  WALKS: Marks and the reference's Marks return the marks of a disk without files. Condition: an integer of an int64.
  WALK: the reference's Marks returns the marks of a disk without files. Condition: an integer of an int64.
  THE BITS of the marks of a disk without files. No condition.
-/
import Derived.Test.YtgdlfiejjnjcpaaGreatBK
import Derived.Test.YtgdlfiejjnjcpaaGreatBB
namespace Go.Proofs.YtgdlfiejjnjcpaaGreat.Kr
open Go.RowKit
open Mk

/-- The marks behind the first k blocks. -/
def mkTo (n : Int) : Nat → ByteArray
  | 0 => padS ⟨#[]⟩ 128
  | k + 1 => if k < 51 ∨ n ≤ k then setN (mkTo n k) k true else mkTo n k
def marksK (n : Int) : ByteArray := mkTo n 1024
theorem mkTo_size (n : Int) : ∀ k, (mkTo n k).size = 128
  | 0 => size_padS _ _ (Nat.zero_le _)
  | k + 1 => by
    unfold mkTo
    split
    · rw [size_setN]; exact mkTo_size n k
    · exact mkTo_size n k
theorem mkTo_set {n : Int} {k : Nat} (h : k < 51 ∨ n ≤ k) : mkTo n (k + 1) = setN (mkTo n k) k true := by rw [mkTo, if_pos h]
theorem mkTo_not {n : Int} {k : Nat} (h : ¬ (k < 51 ∨ n ≤ k)) : mkTo n (k + 1) = mkTo n k := by rw [mkTo, if_neg h]

theorem zero52 : ∃ Z : Array Value, Z.toList = List.replicate 128 (.int .u8 0) ∧ Z.size = 128 ∧ ¬ Z = #[] ∧ ∀ w : World, (zeroValue 143).run Tryz.prog w = .ok (.agg Z) w := by
  refine ⟨Array.replicate 128 (.int .u8 0), by simp, by simp, fun h => ?_, fun w => by kernel_rfl⟩
  have := congrArg Array.size h
  simp at this

/-- The array of the bytes of m, in block g. -/
def MArr (W : World) (g : Nat) (m : ByteArray) : Prop := ∃ Y : Array Value, W.heap[g]? = some (.cells Y 143 (0, 0)) ∧ Y.toList = Lib.byteCells m.data.toList
theorem MArr.cell {W : World} {g : Nat} {m : ByteArray} (h : MArr W g m) {j : Nat} (hj : j < m.size) : W.cell? ⟨g, j, none⟩ = some (.int .u8 ((byteN m j).toNat : Int)) := by
  obtain ⟨Y, hY, hl⟩ := h
  rw [cell_of_row W g j Y 143 (0, 0) hY, ← Array.getElem?_toList, hl, byte_at m j hj]
  simp [Lib.byteCells, hj]
  rfl
theorem MArr.fz {W : World} {g : Nat} {m : ByteArray} (h : MArr W g m) (j : Nat) : W.frozen? ⟨g, j, none⟩ = false := by
  obtain ⟨Y, hY, _⟩ := h
  unfold World.frozen?; rw [hY]; simp
theorem MArr.lt {W : World} {g : Nat} {m : ByteArray} (h : MArr W g m) : g < W.heap.size := by
  obtain ⟨Y, hY, _⟩ := h
  exact (Array.getElem?_eq_some_iff.1 hY).1
theorem MArr.set {W : World} {g : Nat} {m : ByteArray} (h : MArr W g m) {k : Nat} (hk : k / 8 < m.size) {v : Int} (hv : v = ((setByte (byteN m (k / 8)) (k % 8) true).toNat : Int)) :
    MArr (W.setCell ⟨g, k / 8, none⟩ (.int .u8 v)) g (setN m k true) := by
  obtain ⟨Y, hY, hl⟩ := h
  refine ⟨Y.setIfInBounds (k / 8) (.int .u8 v), row_set hY rfl, ?_⟩
  rw [Array.toList_setIfInBounds, hl]
  unfold setN
  rw [if_pos hk]
  simp only [Lib.byteCells, List.map_set, hv]

set_option maxRecDepth 100000 in
set_option maxHeartbeats 4000000 in
theorem marks_any (n : Int) (w : World) (hn : I64 n) :
    Calls Tryz.prog 63 #[.int .i64 n] w fun e w' => e = .returned (.string (marksK n)) ∧ Below w.heap.size w w' := by
  obtain ⟨Z, hZ, hZs, hZn, hZr⟩ := zero52
  have HA0 : Hid (MArr (w.alloc (.cells Z 143)) w.heap.size (mkTo n 0)) := ⟨Z, heap_alloc_new w _, by rw [hZ]; unfold mkTo padS Lib.byteCells; rw [List.toList_toArray, List.nil_append, List.map_replicate]; rfl⟩
  have HB0 : Hid (Below w.heap.size w (w.alloc (.cells Z 143))) := (Below.refl _ _).alloc (Nat.le_refl _) _
  have HN := Lib.hid hn
  clear hZ hZs hn
  go_enter Tryz.func63, Tryz.ntmps63
  go_wp2
  clear hZr hZn
  generalize w.alloc (.cells Z 143) = w0 at *
  go_loopw [4, 5] (fun _ i wr => ∃ k : Nat, k ≤ 1024 ∧ i = .int .i64 k ∧ MArr wr w.heap.size (mkTo n k) ∧ Below w.heap.size w wr) (fun _ i _ => 1024 - (intOf i).toNat)
  case atStart => exact ⟨0, by omega, rfl, HA0.out, HB0.out⟩
  case round =>
    obtain ⟨k, hk, rfl, hA, hB⟩ := hrel
    have HA := Lib.hid hA
    have HB := Lib.hid hB
    have HSZ := Lib.hid (mkTo_size n k)
    clear hA hB
    by_cases hlt : k < 1024
    · by_cases hc : (k : Int) < 51 ∨ n ≤ k
      · have HS := Lib.hid (mkTo_set (n := n) (k := k) (by omega))
        have hk8 : k / 8 < 128 := by omega
        have hck := HA.out.cell (j := k / 8) (by rw [HSZ.out]; exact hk8)
        have hfz := HA.out.fz (k / 8)
        have hbv : bits .or .u8 ((byteN (mkTo n k) (k / 8)).toNat : Int) ((2 : Int) ^ (k % 8) % 256) = ((setByte (byteN (mkTo n k) (k / 8)) (k % 8) true).toNat : Int) := by
          rw [← mask_mod]; exact byte_or (byteN (mkTo n k) (k / 8)) (k % 8) (by omega)
        have HST := Lib.hid (HA.out.set (k := k) (by rw [HSZ.out]; exact hk8) hbv)
        have HBT := Lib.hid (HB.out.setCell (p := ⟨w.heap.size, k / 8, none⟩) (Nat.le_refl _) (.int .u8 (bits .or .u8 ((byteN (mkTo n k) (k / 8)).toNat : Int) ((2 : Int) ^ (k % 8) % 256))))
        rw [← HS.out] at HST
        clear hbv
        generalize (byteN (mkTo n k) (k / 8)).toNat = x at *
        have ha : IntKind.i64.wrap ((k : Int) / 8) = (k : Int) / 8 := IntWalk.i64_in _ (by omega)
        have hb : (0 : Int) ≤ (k : Int) / 8 := by omega
        have hcc : ((k : Int) / 8).toNat = k / 8 := by omega
        have hd : (k : Int) / 8 < 128 := by omega
        by_cases h1 : (k : Int) < 51
        · clear hc
          go_upto_region 6 with fail
          go_region
          go_wp2
          go_roundw
          case rel => exact ⟨k + 1, by omega, by go_num, HST.out, Below.dr HBT.out⟩
          case measure => simp [intOf]; omega
        · have h2 : n ≤ k := by omega
          clear hc
          go_upto_region 6 with fail
          go_region
          go_wp2
          go_roundw
          case rel => exact ⟨k + 1, by omega, by go_num, HST.out, Below.dr HBT.out⟩
          case measure => simp [intOf]; omega
      · have HS := Lib.hid (mkTo_not (n := n) (k := k) (by omega))
        have h1 : ¬ (k : Int) < 51 := by omega
        have h2 : ¬ n ≤ k := by omega
        rw [← HS.out] at HA
        clear hc
        go_wp2
        go_roundw
        case rel => exact ⟨k + 1, by omega, by go_num, HA.out, HB.out⟩
        case measure => simp [intOf]; omega
    · have hke : k = 1024 := by omega
      subst hke
      have hcv := conv_back (W := wr) (g := w.heap.size) (cap := 128) (mkTo n 1024) (fun j hj => HA.out.cell hj)
      rw [HSZ.out] at hcv
      have HM : Hid (marksK n = mkTo n 1024) := by show _ = _; rfl
      generalize mkTo n 1024 = m at *
      go_wp2
      go_ret
      rw [HM.out]
      exact ⟨rfl, HB.out⟩
end Go.Proofs.YtgdlfiejjnjcpaaGreat.Kr

namespace Go.Proofs.YtgdlfiejjnjcpaaGreat.Kr
open Go.RowKit
open Mk

theorem whole_nil : wholeS ⟨#[]⟩ = padS ⟨#[]⟩ 128 := by
  unfold wholeS
  have e : (⟨#[]⟩ : ByteArray).extract 0 (min (⟨#[]⟩ : ByteArray).size 128) = ⟨#[]⟩ := by
    apply ByteArray.ext
    rw [ByteArray.data_extract]
    simp
  rw [e]

set_option maxRecDepth 100000 in
set_option maxHeartbeats 4000000 in
theorem rmarks_any (n : Int) (w : World) (hn : I64 n) :
    Calls Tryz.prog 27 #[.int .i64 n] w fun e w' => e = .returned (.string (marksK n)) ∧ Below w.heap.size w w' := by
  have HWH := Lib.hid (fun v => whole_any ⟨#[]⟩ v (Nat.zero_le _))
  have HE : Hid (wholeS ⟨#[]⟩ = mkTo n 0) := by show _ = _; rw [whole_nil]; rfl
  rw [HE.out] at HWH
  have HN := Lib.hid hn
  clear hn HE
  go_enter Tryz.func27, Tryz.ntmps27
  go_wp2_with fail
  refine (HWH.out _).mono ?_
  rintro e w0 ⟨rfl, b0⟩
  have HB0 := Lib.hid b0
  clear b0 HWH
  go_wp2
  go_loopw [3, 4] (fun m i wr => ∃ k : Nat, k ≤ 1024 ∧ i = .int .i64 k ∧ m = .string (mkTo n k) ∧ Below w.heap.size w wr) (fun _ i _ => 1024 - (intOf i).toNat)
  case atStart => exact ⟨0, by omega, rfl, rfl, HB0.out⟩
  case round =>
    obtain ⟨k, hk, rfl, rfl, hB⟩ := hrel
    have HB := Lib.hid hB
    have HSZ := Lib.hid (mkTo_size n k)
    clear hB
    by_cases hlt : k < 1024
    · by_cases hc : (k : Int) < 51 ∨ n ≤ k
      · have HS : Hid (mkTo n (k + 1) = setR (mkTo n k) k true) := by show _ = _; rw [setR_nat, mkTo_set (by omega)]
        have HST := Lib.hid (fun v => rset_any (mkTo n k) k true v (by rw [HSZ.out]; omega) (by omega))
        rw [← HS.out] at HST
        generalize mkTo n k = m at *
        by_cases h1 : (k : Int) < 51
        · clear hc
          go_wp2_with fail
          refine (HST.out _).mono ?_
          rintro e w2 ⟨rfl, b2⟩
          have HB2 := Lib.hid (HB.out.trans (b2.mono HB.out.size))
          clear b2
          go_wp2
          go_roundw
          case rel => exact ⟨k + 1, by omega, by go_num, rfl, HB2.out⟩
          case measure => simp [intOf]; omega
        · have h2 : n ≤ k := by omega
          clear hc
          go_wp2_with fail
          refine (HST.out _).mono ?_
          rintro e w2 ⟨rfl, b2⟩
          have HB2 := Lib.hid (HB.out.trans (b2.mono HB.out.size))
          clear b2
          go_wp2
          go_roundw
          case rel => exact ⟨k + 1, by omega, by go_num, rfl, HB2.out⟩
          case measure => simp [intOf]; omega
      · have HS := Lib.hid (mkTo_not (n := n) (k := k) (by omega))
        have h1 : ¬ (k : Int) < 51 := by omega
        have h2 : ¬ n ≤ k := by omega
        rw [← HS.out]
        clear hc
        go_wp2
        go_roundw
        case rel => exact ⟨k + 1, by omega, by go_num, rfl, HB.out⟩
        case measure => simp [intOf]; omega
    · have hke : k = 1024 := by omega
      subst hke
      have HM : Hid (marksK n = mkTo n 1024) := by show _ = _; rfl
      rw [← HM.out]
      go_wp2
      go_ret
      exact ⟨rfl, HB.out⟩
end Go.Proofs.YtgdlfiejjnjcpaaGreat.Kr

namespace Go.Proofs.YtgdlfiejjnjcpaaGreat.Kr
open Go.RowKit
open Mk
/-! ### the bits of the marks -/
theorem bit_zero (t : Nat) (h : t < 1024) : bitN (padS ⟨#[]⟩ 128) t = false := by
  unfold bitN
  rw [if_pos (by rw [size_padS _ _ (Nat.zero_le _)]; omega)]
  have : byteN (padS ⟨#[]⟩ 128) (t / 8) = 0 := by
    unfold byteN padS
    rw [List.toList_toArray, List.nil_append, List.getD, List.getElem?_replicate]
    split <;> rfl
  rw [this]
  simp
theorem bit_mkTo (n : Int) : ∀ j, j ≤ 1024 → ∀ t, t < 1024 → bitN (mkTo n j) t = decide (t < j ∧ (t < 51 ∨ n ≤ t))
  | 0, _, t, ht => by rw [mkTo, bit_zero t ht]; simp
  | j + 1, hj, t, ht => by
    by_cases hc : j < 51 ∨ n ≤ j
    · rw [mkTo_set hc, bit_setN _ _ _ _ (by rw [mkTo_size]; omega)]
      by_cases e : t = j
      · rw [if_pos e]; subst e; simp [hc]
      · rw [if_neg e, bit_mkTo n j (by omega) t ht]
        congr 1
        rw [eq_iff_iff]
        omega
    · rw [mkTo_not hc, bit_mkTo n j (by omega) t ht]
      congr 1
      rw [eq_iff_iff]
      omega
theorem bit_marks (n : Int) (t : Nat) (h : t < 1024) : bitN (marksK n) t = decide (t < 51 ∨ n ≤ t) := by
  unfold marksK
  rw [bit_mkTo n 1024 (Nat.le_refl _) t h]
  congr 1
  rw [eq_iff_iff]
  omega
theorem bit_far (n : Int) (t : Nat) (h : 1024 ≤ t) : bitN (marksK n) t = true := by
  unfold bitN marksK
  rw [if_neg (by rw [mkTo_size]; omega)]
theorem marks_size (n : Int) : (marksK n).size = 128 := mkTo_size n 1024

end Go.Proofs.YtgdlfiejjnjcpaaGreat.Kr
