/-
  WALKS: Marks and the reference's Marks return the marks of a disk without files. Condition: an integer of an int64.
-/
import Derived.Test.YtbjmbnodckhikaaKPlaces
import Derived.Test.YtbjmbnodckhikaaMRef
namespace Go.Proofs.Ytbjmbnodckhikaa
open Go.RowKit

/-- The marks behind the first k blocks. -/
def mkTo (n : Int) : Nat → ByteArray
  | 0 => padS ⟨#[]⟩ 128
  | k + 1 => if k < 51 ∨ n ≤ k then setN (mkTo n k) k true else mkTo n k
def marksK (n : Int) : ByteArray := mkTo n 1024
theorem mkTo_size (n : Int) : ∀ k, (mkTo n k).size = 128
  | 0 => size_padS _ _ (Nat.zero_le _)
  | k + 1 => by
    unfold mkTo
    split
    · rw [size_setN]; exact mkTo_size n k
    · exact mkTo_size n k
theorem mkTo_set {n : Int} {k : Nat} (h : k < 51 ∨ n ≤ k) : mkTo n (k + 1) = setN (mkTo n k) k true := by rw [mkTo, if_pos h]
theorem mkTo_not {n : Int} {k : Nat} (h : ¬ (k < 51 ∨ n ≤ k)) : mkTo n (k + 1) = mkTo n k := by rw [mkTo, if_neg h]

theorem zero52 : ∃ Z : Array Value, Z.toList = List.replicate 128 (.int .u8 0) ∧ Z.size = 128 ∧ ¬ Z = #[] ∧ ∀ w : World, (zeroValue 52).run Try.prog w = .ok (.agg Z) w := by
  refine ⟨Array.replicate 128 (.int .u8 0), by simp, by simp, fun h => ?_, fun w => by kernel_rfl⟩
  have := congrArg Array.size h
  simp at this

/-- The array of the bytes of m, in block g. -/
def MArr (W : World) (g : Nat) (m : ByteArray) : Prop := ∃ Y : Array Value, W.heap[g]? = some (.cells Y 52 (0, 0)) ∧ Y.toList = Lib.byteCells m.data.toList
theorem MArr.cell {W : World} {g : Nat} {m : ByteArray} (h : MArr W g m) {j : Nat} (hj : j < m.size) : W.cell? ⟨g, j, none⟩ = some (.int .u8 ((byteN m j).toNat : Int)) := by
  obtain ⟨Y, hY, hl⟩ := h
  rw [cell_of_row W g j Y 52 (0, 0) hY, ← Array.getElem?_toList, hl, byte_at m j hj]
  simp [Lib.byteCells, hj]
  rfl
theorem MArr.fz {W : World} {g : Nat} {m : ByteArray} (h : MArr W g m) (j : Nat) : W.frozen? ⟨g, j, none⟩ = false := by
  obtain ⟨Y, hY, _⟩ := h
  unfold World.frozen?; rw [hY]; simp
theorem MArr.lt {W : World} {g : Nat} {m : ByteArray} (h : MArr W g m) : g < W.heap.size := by
  obtain ⟨Y, hY, _⟩ := h
  exact (Array.getElem?_eq_some_iff.1 hY).1
theorem MArr.set {W : World} {g : Nat} {m : ByteArray} (h : MArr W g m) {k : Nat} (hk : k / 8 < m.size) {v : Int} (hv : v = ((setByte (byteN m (k / 8)) (k % 8) true).toNat : Int)) :
    MArr (W.setCell ⟨g, k / 8, none⟩ (.int .u8 v)) g (setN m k true) := by
  obtain ⟨Y, hY, hl⟩ := h
  refine ⟨Y.setIfInBounds (k / 8) (.int .u8 v), row_set hY rfl, ?_⟩
  rw [Array.toList_setIfInBounds, hl]
  unfold setN
  rw [if_pos hk]
  simp only [Lib.byteCells, List.map_set, hv]

set_option maxRecDepth 100000 in
set_option maxHeartbeats 4000000 in
theorem marks_any (n : Int) (w : World) (hn : I64 n) :
    Calls Try.prog 18 #[.int .i64 n] w fun e w' => e = .returned (.string (marksK n)) ∧ Below w.heap.size w w' := by
  obtain ⟨Z, hZ, hZs, hZn, hZr⟩ := zero52
  have HA0 : Hid (MArr (w.alloc (.cells Z 52)) w.heap.size (mkTo n 0)) := ⟨Z, heap_alloc_new w _, by rw [hZ]; unfold mkTo padS Lib.byteCells; rw [List.toList_toArray, List.nil_append, List.map_replicate]; rfl⟩
  have HB0 : Hid (Below w.heap.size w (w.alloc (.cells Z 52))) := (Below.refl _ _).alloc (Nat.le_refl _) _
  have HN := Lib.hid hn
  clear hZ hZs hn
  go_enter Try.func18, Try.ntmps18
  go_wp2
  clear hZr hZn
  generalize w.alloc (.cells Z 52) = w0 at *
  go_loopw [4, 5] (fun _ i wr => ∃ k : Nat, k ≤ 1024 ∧ i = .int .i64 k ∧ MArr wr w.heap.size (mkTo n k) ∧ Below w.heap.size w wr) (fun _ i _ => 1024 - (intOf i).toNat)
  case atStart => exact ⟨0, by omega, rfl, HA0.out, HB0.out⟩
  case round =>
    obtain ⟨k, hk, rfl, hA, hB⟩ := hrel
    have HA := Lib.hid hA
    have HB := Lib.hid hB
    have HSZ := Lib.hid (mkTo_size n k)
    clear hA hB
    by_cases hlt : k < 1024
    · by_cases hc : (k : Int) < 51 ∨ n ≤ k
      · have HS := Lib.hid (mkTo_set (n := n) (k := k) (by omega))
        have hk8 : k / 8 < 128 := by omega
        have hck := HA.out.cell (j := k / 8) (by rw [HSZ.out]; exact hk8)
        have hfz := HA.out.fz (k / 8)
        have hbv : bits .or .u8 ((byteN (mkTo n k) (k / 8)).toNat : Int) ((2 : Int) ^ (k % 8) % 256) = ((setByte (byteN (mkTo n k) (k / 8)) (k % 8) true).toNat : Int) := by
          rw [← mask_mod]; exact byte_or (byteN (mkTo n k) (k / 8)) (k % 8) (by omega)
        have HST := Lib.hid (HA.out.set (k := k) (by rw [HSZ.out]; exact hk8) hbv)
        have HBT := Lib.hid (HB.out.setCell (p := ⟨w.heap.size, k / 8, none⟩) (Nat.le_refl _) (.int .u8 (bits .or .u8 ((byteN (mkTo n k) (k / 8)).toNat : Int) ((2 : Int) ^ (k % 8) % 256))))
        rw [← HS.out] at HST
        clear hbv
        generalize (byteN (mkTo n k) (k / 8)).toNat = x at *
        have ha : IntKind.i64.wrap ((k : Int) / 8) = (k : Int) / 8 := IntWalk.i64_in _ (by omega)
        have hb : (0 : Int) ≤ (k : Int) / 8 := by omega
        have hcc : ((k : Int) / 8).toNat = k / 8 := by omega
        have hd : (k : Int) / 8 < 128 := by omega
        by_cases h1 : (k : Int) < 51
        · clear hc
          go_upto_region 6 with fail
          go_region
          go_wp2
          go_roundw
          case rel => exact ⟨k + 1, by omega, by go_num, HST.out, Below.dr HBT.out⟩
          case measure => simp [intOf]; omega
        · have h2 : n ≤ k := by omega
          clear hc
          go_upto_region 6 with fail
          go_region
          go_wp2
          go_roundw
          case rel => exact ⟨k + 1, by omega, by go_num, HST.out, Below.dr HBT.out⟩
          case measure => simp [intOf]; omega
      · have HS := Lib.hid (mkTo_not (n := n) (k := k) (by omega))
        have h1 : ¬ (k : Int) < 51 := by omega
        have h2 : ¬ n ≤ k := by omega
        rw [← HS.out] at HA
        clear hc
        go_wp2
        go_roundw
        case rel => exact ⟨k + 1, by omega, by go_num, HA.out, HB.out⟩
        case measure => simp [intOf]; omega
    · have hke : k = 1024 := by omega
      subst hke
      have hcv := conv_back (W := wr) (g := w.heap.size) (cap := 128) (mkTo n 1024) (fun j hj => HA.out.cell hj)
      rw [HSZ.out] at hcv
      have HM : Hid (marksK n = mkTo n 1024) := by show _ = _; rfl
      generalize mkTo n 1024 = m at *
      go_wp2
      go_ret
      rw [HM.out]
      exact ⟨rfl, HB.out⟩
end Go.Proofs.Ytbjmbnodckhikaa
