/-
  WALKS: Pad, and the reference's Zeros and Whole. Conditions: strings of at most 9223372036854775807 bytes; Zeros of at most 1000.
-/
import Derived.Test.YtpljifeebbeakaaSCount
import Derived.Lib.BufferWrite
import Derived.Laws.IdiomStrings
namespace Go.Proofs.Ytpljifeebbeakaa.Sl
open Go.RowKit

theorem info5 : (Try.prog.info? 5).map (fun i => (i.zero, i.size, i.bytes)) = some (some (.int .u8 0), 1, 1) := by kernel_rfl
theorem info5size : (Try.prog.info? 5).map (·.size) = some 1 := by kernel_rfl

/-- s, and behind it so many bytes 0 that there are n. -/
def padS (s : ByteArray) (n : Nat) : ByteArray := ⟨(s.data.toList ++ List.replicate (n - s.size) 0).toArray⟩
def padR (s : ByteArray) (n : Int) : ByteArray × Int :=
  if 0 ≤ n ∧ n ≤ 1000 then (if (s.size : Int) ≤ n then (padS s n.toNat, 0) else (⟨#[]⟩, 3)) else (⟨#[]⟩, 1)
theorem padR_arg {s : ByteArray} {n : Int} (h : ¬ (0 ≤ n ∧ n ≤ 1000)) : padR s n = (⟨#[]⟩, 1) := by unfold padR; rw [if_neg h]
theorem padR_range {s : ByteArray} {n : Int} (h : 0 ≤ n ∧ n ≤ 1000) (h2 : ¬ (s.size : Int) ≤ n) : padR s n = (⟨#[]⟩, 3) := by unfold padR; rw [if_pos h, if_neg h2]
theorem padR_ok {s : ByteArray} {n : Int} (h : 0 ≤ n ∧ n ≤ 1000) (h2 : (s.size : Int) ≤ n) : padR s n = (padS s n.toNat, 0) := by unfold padR; rw [if_pos h, if_pos h2]

/-- 'make([]byte, n)', for the walk to take. -/
theorem make_bytes (n : Nat) (hn : n ≤ 140737488355328) : ∃ M : Array Value, M.toList = List.replicate n (.int .u8 0) ∧ M.size = n ∧
    ∀ W : World, (Instr.makeSlice 36 (.int .i64 (n : Int)) (.int .i64 (n : Int))).run Try.prog W = .ok (.slice (some ⟨W.heap.size, 0, none⟩) n n) (W.alloc (.cells M 5)) := by
  obtain ⟨i0, hi, hz0, hz1, hz2⟩ := info_parts info5
  refine ⟨madeCells (Value.int .u8 0).cells (n * i0.size), ?_, ?_, fun W => ?_⟩
  · rw [hz1, Nat.mul_one]; exact toList_madeCells_one _ _
  · rw [size_madeCells, hz1, Nat.mul_one]
  · have h := run_make (P := Try.prog) W 36 5 i0 (.int .u8 0) Try.underlying36 hi hz0 .i64 .i64 (n : Int) (n : Int) (by omega) (by omega) (by rw [hz2]; omega) (by omega)
    simpa using h

theorem conv_cells {W : World} {g cap : Nat} (l : List UInt8) (Y : Array Value) (fr : Nat × Nat) (hg : W.heap[g]? = some (.cells Y 5 fr)) (hY : Y.toList = Lib.byteCells l) :
    (convert 36 9 (.slice (some ⟨g, 0, none⟩) l.length cap)).run Try.prog W = .ok (.string ⟨l.toArray⟩) W := by
  refine run_convert_bytes_back W 36 9 5 ⟨g, 0, none⟩ cap l Try.underlying36 Try.underlying5 Try.underlying9 (fun j hj => ?_)
  rw [Go.WideShapes.add_plain, cell_of_row W g (0 + j) Y 5 fr hg, Nat.zero_add, ← Array.getElem?_toList, hY]
  simp [Lib.byteCells, hj]

set_option maxRecDepth 100000 in
set_option maxHeartbeats 1000000 in
theorem zeros_any (n : Nat) (w : World) (hn : n ≤ 1000) :
    Calls Try.prog 34 #[.int .i64 n] w fun e w' => e = .returned (.string ⟨(List.replicate n (0 : UInt8)).toArray⟩) ∧ Below w.heap.size w w' := by
  obtain ⟨M, hM, hMs, hmk⟩ := make_bytes n (by omega)
  have hcv := conv_cells (W := w.alloc (.cells M 5)) (g := w.heap.size) (cap := n) (List.replicate n (0 : UInt8)) M (0, 0) (heap_alloc_new w _) (by rw [hM]; simp [Lib.byteCells])
  rw [List.length_replicate] at hcv
  have HM := Lib.hid hM
  clear hM
  generalize hR : (⟨(List.replicate n (0 : UInt8)).toArray⟩ : ByteArray) = R at *
  clear hR
  go_enter Try.func34, Try.ntmps34
  go_wp2
  go_ret
  exact ⟨rfl, (Below.refl _ _).alloc (Nat.le_refl _) _⟩

set_option maxRecDepth 100000 in
set_option maxHeartbeats 1000000 in
theorem pad_any (s : ByteArray) (n : Int) (w : World) (_hs : s.size ≤ 9223372036854775807) (hn : -9223372036854775808 ≤ n ∧ n ≤ 9223372036854775807) :
    Calls Try.prog 35 #[.string s, .int .i64 n] w fun e w' => e = .returned (.tuple #[.string (padR s n).1, .int .i64 (padR s n).2]) ∧ Below w.heap.size w w' := by
  by_cases h : 0 ≤ n ∧ n ≤ 1000
  · by_cases h2 : (s.size : Int) ≤ n
    · have HP := Lib.hid (padR_ok h h2)
      obtain ⟨m, rfl⟩ := Int.eq_ofNat_of_zero_le h.1
      obtain ⟨M, hM, hMs, hmk⟩ := make_bytes m (by omega)
      have hcp := Lib.run_copy_row_string (P := Try.prog) (w.alloc (.cells M 5)) 36 9 3 5 w.heap.size 0 m m s M 5 Try.underlying36 info5size (heap_alloc_new w _) (by omega) (by omega)
      obtain ⟨Y, hY⟩ : ∃ Y, Y = (M.toList.take 0 ++ Lib.byteCells s.data.toList ++ M.toList.drop (0 + s.size)).toArray := ⟨_, rfl⟩
      rw [← hY] at hcp
      have hl : (s.data.toList ++ List.replicate (m - s.size) (0 : UInt8)).length = m := by
        rw [List.length_append, List.length_replicate, ← Lib.size_eq]; omega
      have hYl : Y.toList = Lib.byteCells (s.data.toList ++ List.replicate (m - s.size) (0 : UInt8)) := by
        rw [hY, List.toList_toArray, List.take_zero, List.nil_append, hM, Nat.zero_add, List.drop_replicate]
        simp [Lib.byteCells]
      have hgY : ((w.alloc (.cells M 5)).setRow w.heap.size Y).heap[w.heap.size]? = some (.cells Y 5 (0, 0)) := setRow_heap _ _ M _ 5 (0, 0) (heap_alloc_new w _)
      have hcv := conv_cells (cap := m) _ Y (0, 0) hgY hYl
      rw [hl] at hcv
      have hb2 : Below w.heap.size w ((w.alloc (.cells M 5)).setRow w.heap.size Y) :=
        ((Below.refl _ w).alloc (Nat.le_refl _) (.cells M 5)).trans ⟨rfl, rfl, rfl, by simp, fun k hk => setRow_other _ _ _ _ (by omega)⟩
      have e1 : (⟨(s.data.toList ++ List.replicate (m - s.size) (0 : UInt8)).toArray⟩ : ByteArray) = padS s m := rfl
      rw [e1] at hcv
      rw [Int.toNat_natCast] at HP
      generalize padS s m = R at *
      clear hM hY hYl hgY hl e1
      go_enter Try.func35, Try.ntmps35
      go_wp2
      go_ret2
      exact ⟨by rw [HP.out]; rfl, hb2⟩
    · have HP := Lib.hid (padR_range h h2)
      have d1 : decide (n < 0) = false := by simp; omega
      have d2 : decide (1000 < n) = false := by simp; omega
      have d3 : decide (n < (s.size : Int)) = true := by simp; omega
      go_enter Try.func35, Try.ntmps35
      go_wp2
      go_ret2
      exact ⟨by rw [HP.out]; rfl, Below.refl _ _⟩
  · have HP := Lib.hid (padR_arg (s := s) h)
    have d : n < 0 ∨ 1000 < n := by omega
    rcases d with d | d
    · have d1 : decide (n < 0) = true := by simpa using d
      clear h
      go_enter Try.func35, Try.ntmps35
      go_wp2
      go_ret2
      exact ⟨by rw [HP.out]; rfl, Below.refl _ _⟩
    · have d1 : decide (n < 0) = false := by simp; omega
      have d2 : decide (1000 < n) = true := by simpa using d
      clear h
      go_enter Try.func35, Try.ntmps35
      go_wp2
      go_ret2
      exact ⟨by rw [HP.out]; rfl, Below.refl _ _⟩

theorem pad_add (s : ByteArray) (m : Nat) : s ++ (⟨(List.replicate (m - s.size) (0 : UInt8)).toArray⟩ : ByteArray) = padS s m := by
  apply ByteArray.ext
  apply Array.ext'
  simp [padS]


/-- a block: the first 128 bytes, and bytes 0 behind them. -/
def wholeS (s : ByteArray) : ByteArray := padS (s.extract 0 (min s.size 128)) 128

set_option maxRecDepth 100000 in
set_option maxHeartbeats 1000000 in
theorem whole_any (s : ByteArray) (w : World) (hs : s.size ≤ 9223372036854775807) :
    Calls Try.prog 22 #[.string s] w fun e w' => e = .returned (.string (wholeS s)) ∧ Below w.heap.size w w' := by
  obtain ⟨m, hm⟩ : ∃ m : Nat, m = min s.size 128 := ⟨_, rfl⟩
  have hsz : (s.extract 0 m).size = m := by rw [ByteArray.size_extract]; omega
  have HW : Hid (wholeS s = s.extract 0 m ++ (⟨(List.replicate (128 - m) (0 : UInt8)).toArray⟩ : ByteArray)) := by
    show _ = _
    unfold wholeS
    rw [← hm, ← pad_add, hsz]
  have HR : Hid ((⟨(List.replicate (128 - m) (0 : UInt8)).toArray⟩ : ByteArray).size ≤ 1000) := by
    show (List.replicate (128 - m) (0 : UInt8)).toArray.size ≤ 1000
    simp; omega
  have hm1 : m ≤ 128 := by omega
  have hm2 : m ≤ s.size := by omega
  have hmt : (min (s.size : Int) 128).toNat = m := by omega
  have hmm : (128 - ((min m s.size : Nat) : Int)) = ((128 - m : Nat) : Int) := by omega
  have HM := Lib.hid hmt
  have HMM := Lib.hid hmm
  have HS2 := Lib.hid hsz
  clear hm hmt hmm hsz
  go_enter Try.func22, Try.ntmps22
  go_wp2_with fail
  simp only [HM.out, HMM.out]
  refine (zeros_any (128 - m) w (by omega)).mono ?_
  rintro e w1 ⟨rfl, hb1⟩
  generalize (⟨(List.replicate (128 - m) (0 : UInt8)).toArray⟩ : ByteArray) = Z at *
  have hZ := HR.out
  have hS2 : (s.extract 0 m).size ≤ 128 := by rw [HS2.out]; omega
  generalize s.extract 0 m = S at *
  go_wp2
  go_ret
  exact ⟨by rw [HW.out]; rfl, hb1⟩
end Go.Proofs.Ytpljifeebbeakaa.Sl
