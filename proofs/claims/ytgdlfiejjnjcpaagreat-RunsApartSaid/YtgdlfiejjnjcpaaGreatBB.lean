/-
  WALKS: strings.Clone, Set. Conditions: strings of at most 1000000000000 bytes, integers of an int64.
  WALKS: the reference's Is, Set and Count, and the statements' own lives. Conditions: strings of at most 1000000000000 bytes, integers of an int64.
-/
import Derived.Test.YtgdlfiejjnjcpaaGreatBA
import Derived.Lib.Walk
import Derived.Lib.BufferWrite
import Derived.Lib.Bytealg
import Derived.Lib.UnsafeStr
import Derived.Laws.MakeOwn
import Derived.Laws.IdiomStrings
import Derived.RegionTactic
import Derived.Deep.RegionWith
namespace Go.Proofs.YtgdlfiejjnjcpaaGreat.Mk
open Go.RowKit

set_option maxRecDepth 100000 in
theorem Tryz.info5 : (Tryz.prog.info? 5).map (fun i => (i.zero, i.size, i.bytes)) = some (some (.int .u8 0), 1, 1) := by kernel_rfl
set_option maxRecDepth 100000 in
theorem Tryz.cells5 : Tryz.prog.cellsOf 5 = 1 := by kernel_rfl
set_option maxRecDepth 100000 in
theorem info5size : (Tryz.prog.info? 5).map (·.size) = some 1 := by kernel_rfl

set_option maxRecDepth 100000 in
/-- 'make([]byte, n)', for the walk to take. -/
theorem make_bytes (n : Nat) (hn : n ≤ 140737488355328) : ∃ M : Array Value, M.toList = List.replicate n (.int .u8 0) ∧ M.size = n ∧
    ∀ W : World, (Instr.makeSlice 112 (.int .i64 (n : Int)) (.int .i64 (n : Int))).run Tryz.prog W = .ok (.slice (some ⟨W.heap.size, 0, none⟩) n n) (W.alloc (.cells M 5)) := by
  obtain ⟨i0, hi, hz0, hz1, hz2⟩ := info_parts Tryz.info5
  refine ⟨madeCells (Value.int .u8 0).cells (n * i0.size), ?_, ?_, fun W => ?_⟩
  · rw [hz1, Nat.mul_one]; exact toList_madeCells_one _ _
  · rw [size_madeCells, hz1, Nat.mul_one]
  · have h := run_make (P := Tryz.prog) W 112 5 i0 (.int .u8 0) Tryz.underlying112 hi hz0 .i64 .i64 (n : Int) (n : Int) (by omega) (by omega) (by rw [hz2]; omega) (by omega)
    simpa using h

set_option maxRecDepth 100000 in
set_option maxHeartbeats 8000000 in
theorem sliteClone_any (s : ByteArray) (w : World) (hs : s.size ≤ 140737488355328) :
    Calls Tryz.prog 131 #[.string s] w fun e w' => e = .returned (.string s) ∧ Below w.heap.size w w' := by
  by_cases h0 : s.size = 0
  · have hs : s = ⟨#[]⟩ := by
      apply ByteArray.ext
      exact Array.eq_empty_of_size_eq_zero h0
    subst hs
    go_enter Tryz.func131, Tryz.ntmps131
    go_wp2
    go_ret
    exact ⟨rfl, Below.refl _ _⟩
  · obtain ⟨M, hM, hMs, hmk⟩ := make_bytes s.size hs
    have hcp := Lib.run_copy_row_string (P := Tryz.prog) (w.alloc (.cells M 5)) 112 9 3 5 w.heap.size 0 s.size s.size s M 5 Tryz.underlying112 info5size (heap_alloc_new w _) (Nat.le_refl _) (by omega)
    obtain ⟨Y, hY⟩ : ∃ Y, Y = (M.toList.take 0 ++ Lib.byteCells s.data.toList ++ M.toList.drop (0 + s.size)).toArray := ⟨_, rfl⟩
    rw [← hY] at hcp
    have hYl : Y.toList = Lib.byteCells s.data.toList := by
      rw [hY, List.toList_toArray, List.take_zero, List.nil_append, List.drop_of_length_le (by rw [Array.length_toList]; omega), List.append_nil]
    have hYs : Y.size = s.size := by rw [← Array.length_toList, hYl, Lib.byteCells_length, ← Lib.size_eq]
    have hgY : ((w.alloc (.cells M 5)).setRow w.heap.size Y).heap[w.heap.size]? = some (.cells Y 5 (0, 0)) := setRow_heap _ _ M _ 5 (0, 0) (heap_alloc_new w _)
    have hne : s.data.toList ≠ [] := fun e => h0 (by rw [Lib.size_eq, e]; rfl)
    have hUS := Lib.run_unsafeString_row (P := Tryz.prog) ((w.alloc (.cells M 5)).setRow w.heap.size Y) 177 3 9 5 Tryz.underlying177 Tryz.cells5 w.heap.size Y.size (by unfold World.shape?; rw [hgY]) s.data.toList hne (by rw [← Lib.size_eq]; omega) (by rw [← Lib.size_eq]; omega)
      (fun j x hx => Lib.cells_of_row hgY Y.size j _ (by rw [List.take_of_length_le (by rw [Array.length_toList]; exact Nat.le_refl _), hYl]; simp [Lib.byteCells, hx]))
    rw [← Lib.size_eq] at hUS
    have hb2 : Below w.heap.size w ((w.alloc (.cells M 5)).setRow w.heap.size Y) :=
      ((Below.refl _ w).alloc (Nat.le_refl _) (.cells M 5)).trans ⟨rfl, rfl, rfl, by simp, fun k hk => setRow_other _ _ _ _ (by omega)⟩
    clear hY hM hYl
    go_enter Tryz.func131, Tryz.ntmps131
    go_wp2
    go_ret
    exact ⟨rfl, Lib.below_freeze hb2 (p := ⟨w.heap.size, 0, none⟩) (Nat.le_refl _) _⟩

set_option maxRecDepth 100000 in
set_option maxHeartbeats 8000000 in
theorem clone_any (s : ByteArray) (w : World) (hs : s.size ≤ 140737488355328) :
    Calls Tryz.prog 98 #[.string s] w fun e w' => e = .returned (.string s) ∧ Below w.heap.size w w' := by
  go_enter Tryz.func98, Tryz.ntmps98
  go_wp2_with fail
  refine (sliteClone_any s w hs).mono ?_
  rintro e w1 ⟨rfl, hb1⟩
  go_wp2
  go_ret
  exact ⟨rfl, hb1⟩

set_option maxRecDepth 100000 in
/-- '[]byte(s)', for the walk to take: a new row of the bytes of s. -/
theorem bytes_new (m : ByteArray) (w : World) : ∃ W1 cap, (convert 9 112 (.string m)).run Tryz.prog w = .ok (.slice (some ⟨w.heap.size, 0, none⟩) m.size cap) W1 ∧ Below w.heap.size w W1 ∧
    (∀ j, j < m.size → W1.cell? ⟨w.heap.size, j, none⟩ = some (.int .u8 ((byteN m j).toNat : Int))) ∧ (∀ j, j < m.size → W1.frozen? ⟨w.heap.size, j, none⟩ = false) := by
  refine ⟨_, _, run_bytes_of_string w 9 112 5 m Tryz.underlying9 Tryz.underlying112 Tryz.underlying5, ?_, ?_, ?_⟩
  · exact ((Below.refl _ _).drew).alloc (Nat.le_refl _) _
  · intro j hj
    have h1 := World.cell?_alloc_mark w.drew (bytesRow m (grownCap w m.size 0 5)) 5 ((bytesRow m (grownCap w m.size 0 5)).size, (bytesRow m (grownCap w m.size 0 5)).size + 1) j
    have h2 := bytesRow_at m (grownCap w m.size 0 5) j (by simpa using hj)
    have h3 : byteN m j = m.data[j] := by rw [byte_at m j hj]; rfl
    rw [h3, ← h2]
    exact h1
  · intro j hj
    have h1 := World.frozen?_alloc_mark w.drew (bytesRow m (grownCap w m.size 0 5)) 5 (bytesRow m (grownCap w m.size 0 5)).size ((bytesRow m (grownCap w m.size 0 5)).size + 1) j
    have h2 : (bytesRow m (grownCap w m.size 0 5)).size = m.size + (grownCap w m.size 0 5 - m.size) := by simp [bytesRow]
    have h3 : (decide ((bytesRow m (grownCap w m.size 0 5)).size ≤ j) && decide (j < (bytesRow m (grownCap w m.size 0 5)).size + 1)) = false := by
      rw [Bool.and_eq_false_iff]; left; simp; omega
    rw [h3] at h1
    exact h1
set_option maxRecDepth 100000 in
theorem conv_back {W : World} {g cap : Nat} (R : ByteArray) (hc : ∀ j, j < R.size → W.cell? ⟨g, j, none⟩ = some (.int .u8 ((byteN R j).toNat : Int))) :
    (convert 112 9 (.slice (some ⟨g, 0, none⟩) R.size cap)).run Tryz.prog W = .ok (.string R) W := by
  have h := run_convert_bytes_back (P := Tryz.prog) W 112 9 5 ⟨g, 0, none⟩ cap R.data.toList Tryz.underlying112 Tryz.underlying5 Tryz.underlying9 (fun j hj => by
    rw [Go.WideShapes.add_plain, Nat.zero_add, hc j (by simpa using hj)]
    unfold byteN
    rw [List.getD, List.getElem?_eq_getElem hj]; rfl)
  rw [← Lib.size_eq] at h
  rw [h]

set_option maxRecDepth 100000 in
theorem set_cells {W : World} {g : Nat} (m : ByteArray) (k : Nat) (yes : Bool) (v : Int) (h : k / 8 < m.size) (hc : ∀ j, j < m.size → W.cell? ⟨g, j, none⟩ = some (.int .u8 ((byteN m j).toNat : Int)))
    (hv : v = ((setByte (byteN m (k / 8)) (k % 8) yes).toNat : Int)) : ∀ j, j < (setN m k yes).size → (W.setCell ⟨g, k / 8, none⟩ (.int .u8 v)).cell? ⟨g, j, none⟩ = some (.int .u8 ((byteN (setN m k yes) j).toNat : Int)) := by
  intro j hj
  rw [size_setN] at hj
  rw [byte_setN m k j yes h]
  by_cases e : j = k / 8
  · rw [if_pos e, e, hv]
    have := hc (k / 8) h
    go_simp
  · rw [if_neg e]
    have := hc j hj
    go_simp

set_option maxRecDepth 100000 in
set_option maxHeartbeats 8000000 in
theorem set_any (m : ByteArray) (i : Int) (yes : Bool) (w : World) (hm : m.size ≤ 1000000000000) (hi : -9223372036854775808 ≤ i ∧ i ≤ 9223372036854775807) :
    Calls Tryz.prog 69 #[.string m, .int .i64 i, .bool yes] w fun e w' => e = .returned (.string (setR m i yes)) ∧ Below w.heap.size w w' := by
  cases hx : exB m i with
  | false =>
    have HS := Lib.hid (setR_none hx yes)
    have HX := Lib.hid (exists_is false m i w (by omega) hi hx)
    clear hx
    go_enter Tryz.func69, Tryz.ntmps69
    go_wp2_with fail
    refine HX.out.mono ?_
    rintro e w1 ⟨rfl, rfl⟩
    go_wp2_with fail
    refine (clone_any m w (by omega)).mono ?_
    rintro e w1 ⟨rfl, hb⟩
    go_wp2
    go_ret
    rw [HS.out]
    exact ⟨rfl, hb⟩
  | true =>
    obtain ⟨h0, h1⟩ := exB_t hx
    have HX := Lib.hid (exists_is true m i w (by omega) hi hx)
    clear hx
    obtain ⟨k, rfl⟩ := Int.eq_ofNat_of_zero_le h0
    have hk : k / 8 < m.size := by omega
    obtain ⟨W1, cap, hcv, hb1, hc1, hf1⟩ := bytes_new m w
    have hck := hc1 (k / 8) hk
    have hfk := hf1 (k / 8) hk
    have HC1 := Lib.hid hc1
    clear hc1 hf1
    have HS := Lib.hid (setR_nat m k yes)
    cases yes with
    | true =>
      have hv : bits .or .u8 ((byteN m (k / 8)).toNat : Int) (maskI k) = ((setByte (byteN m (k / 8)) (k % 8) true).toNat : Int) := byte_or _ _ (by omega)
      have hcs := set_cells m k true _ hk HC1.out hv
      have hcv2 := conv_back (W := (W1.setCell ⟨w.heap.size, k / 8, none⟩ (.int .u8 (bits .or .u8 ((byteN m (k / 8)).toNat : Int) (maskI k)))).drew) (cap := cap) (setN m k true) hcs
      rw [size_setN] at hcv2
      have hb2 : Below w.heap.size w (W1.setCell ⟨w.heap.size, k / 8, none⟩ (.int .u8 (bits .or .u8 ((byteN m (k / 8)).toNat : Int) (maskI k)))).drew := (hb1.setCell (Nat.le_refl _) _).drew
      clear hv hcs HC1
      generalize setN m k true = R at *
      generalize (byteN m (k / 8)).toNat = x at *
      go_enter Tryz.func69, Tryz.ntmps69
      go_wp2_with fail
      refine HX.out.mono ?_
      rintro e w1 ⟨rfl, rfl⟩
      go_wp2
      have ha : IntKind.i64.wrap ((k : Int) / 8) = (k : Int) / 8 := IntWalk.i64_in _ (by omega)
      have hb : (0 : Int) ≤ (k : Int) / 8 := by omega
      have hc : ((k : Int) / 8).toNat = k / 8 := by omega
      have hd : (k : Int) / 8 < (m.size : Int) := by omega
      go_region_with ((go_at_call 83; refine (mask_any k _ hi.2).mono ?_; rintro e w' ⟨rfl, rfl⟩))
      all_goals
        go_wp2
        go_ret
        rw [HS.out]
        exact ⟨rfl, hb2⟩
    | false =>
      have hv : bits .andNot .u8 ((byteN m (k / 8)).toNat : Int) (maskI k) = ((setByte (byteN m (k / 8)) (k % 8) false).toNat : Int) := byte_andNot _ _ (by omega)
      have hcs := set_cells m k false _ hk HC1.out hv
      have hcv2 := conv_back (W := (W1.setCell ⟨w.heap.size, k / 8, none⟩ (.int .u8 (bits .andNot .u8 ((byteN m (k / 8)).toNat : Int) (maskI k)))).drew) (cap := cap) (setN m k false) hcs
      rw [size_setN] at hcv2
      have hb2 : Below w.heap.size w (W1.setCell ⟨w.heap.size, k / 8, none⟩ (.int .u8 (bits .andNot .u8 ((byteN m (k / 8)).toNat : Int) (maskI k)))).drew := (hb1.setCell (Nat.le_refl _) _).drew
      clear hv hcs HC1
      generalize setN m k false = R at *
      generalize (byteN m (k / 8)).toNat = x at *
      go_enter Tryz.func69, Tryz.ntmps69
      go_wp2_with fail
      refine HX.out.mono ?_
      rintro e w1 ⟨rfl, rfl⟩
      go_wp2
      have ha : IntKind.i64.wrap ((k : Int) / 8) = (k : Int) / 8 := IntWalk.i64_in _ (by omega)
      have hb : (0 : Int) ≤ (k : Int) / 8 := by omega
      have hc : ((k : Int) / 8).toNat = k / 8 := by omega
      have hd : (k : Int) / 8 < (m.size : Int) := by omega
      go_region_with ((go_at_call 83; refine (mask_any k _ hi.2).mono ?_; rintro e w' ⟨rfl, rfl⟩))
      all_goals
        go_wp2
        go_ret
        rw [HS.out]
        exact ⟨rfl, hb2⟩

end Go.Proofs.YtgdlfiejjnjcpaaGreat.Mk

namespace Go.Proofs.YtgdlfiejjnjcpaaGreat.Mk
open Go.RowKit

set_option maxRecDepth 100000 in
theorem bit_div (x j y : Nat) (h : y = x / 2 ^ j) : ((y : Int) % 2 == 1) = x.testBit j := by
  rw [Nat.testBit_eq_decide_div_mod_eq, ← h, Bool.eq_iff_iff]
  simp
  omega
set_option maxRecDepth 100000 in
theorem mask_mod (k : Nat) : maskI k = (2 : Int) ^ (k % 8) % 256 := by
  have hj : k % 8 = 0 ∨ k % 8 = 1 ∨ k % 8 = 2 ∨ k % 8 = 3 ∨ k % 8 = 4 ∨ k % 8 = 5 ∨ k % 8 = 6 ∨ k % 8 = 7 := by omega
  unfold maskI
  rcases hj with h | h | h | h | h | h | h | h <;> rw [h] <;> rfl
set_option maxRecDepth 100000 in
theorem halves (x j : Nat) : x / 2 ^ (j + 1) = x / 2 ^ j / 2 := by rw [Nat.pow_succ, Nat.div_div_eq_div_mul]

set_option maxRecDepth 100000 in
set_option maxHeartbeats 8000000 in
theorem ris_any (m : ByteArray) (i : Int) (w : World) (hm : m.size ≤ 1000000000000) (hi : -9223372036854775808 ≤ i ∧ i ≤ 9223372036854775807) :
    Calls Tryz.prog 93 #[.string m, .int .i64 i] w fun e w' => e = .returned (.bool (isB m i)) ∧ w = w' := by
  cases hx : exB m i with
  | false =>
    have HS := Lib.hid (isB_none hx)
    rcases exB_f hx with h | h
    · have d1 : decide (i < 0) = true := by simpa using h
      clear hx
      go_enter Tryz.func93, Tryz.ntmps93
      go_wp2
      go_ret
      exact ⟨ret_bool HS.out.symm, rfl⟩
    · have d1 : decide (i < 0) = false := by simp; omega
      have d2 : decide (8 * (m.size : Int) ≤ i) = true := by simp; omega
      clear hx h
      go_enter Tryz.func93, Tryz.ntmps93
      go_wp2
      go_ret
      exact ⟨ret_bool HS.out.symm, rfl⟩
  | true =>
    obtain ⟨h0, h1⟩ := exB_t hx
    obtain ⟨k, rfl⟩ := Int.eq_ofNat_of_zero_le h0
    have hk : k / 8 < m.size := by omega
    have d1 : decide ((k : Int) < 0) = false := by simp
    have d2 : decide (8 * (m.size : Int) ≤ (k : Int)) = false := by simp; omega
    have HB : Hid (isB m k = (m[k / 8]).toNat.testBit (k % 8)) := by show _ = _; rw [isB_nat, bitN, if_pos hk, byte_at m _ hk]
    have hxl : (m[k / 8]).toNat < 256 := (m[k / 8]).toNat_lt
    clear hx
    generalize hX : (m[k / 8]).toNat = x at *
    go_enter Tryz.func93, Tryz.ntmps93
    go_wp2
    go_loop [5, 6] (fun v i => ∃ t y : Nat, t ≤ k % 8 ∧ Hid (y = x / 2 ^ t) ∧ y < 256 ∧ i = .int .i64 (t : Int) ∧ v = .int .i64 (y : Int)) (fun _ i => 8 - (intOf i).toNat)
    case atStart => exact ⟨0, x, by omega, by show _ = _; simp, hxl, rfl, rfl⟩
    case round =>
      obtain ⟨t, y, ht, HY, hy, rfl, rfl⟩ := hrel
      by_cases hlt : t < k % 8
      · have HY2 : Hid (y / 2 = x / 2 ^ (t + 1)) := by show _ = _; rw [halves, ← HY.out]
        have h3 : (t : Int) < (k : Int) % 8 := by omega
        go_wp2
        go_round
        case rel => exact ⟨t + 1, y / 2, by omega, HY2, by omega, by go_num, by go_num⟩
        case measure => simp [intOf]; omega
      · have h3 : ¬ (t : Int) < (k : Int) % 8 := by omega
        have HF := Lib.hid (bit_div x (k % 8) y (by rw [HY.out, show t = k % 8 by omega]))
        go_wp2
        go_ret
        exact ⟨ret_bool (by rw [HB.out, HF.out]), rfl⟩

set_option maxRecDepth 100000 in
theorem ris_is (b : Bool) (m : ByteArray) (i : Int) (w : World) (hm : m.size ≤ 1000000000000) (hi : -9223372036854775808 ≤ i ∧ i ≤ 9223372036854775807) (h : isB m i = b) :
    Calls Tryz.prog 93 #[.string m, .int .i64 i] w fun e w' => e = .returned (.bool b) ∧ w = w' := by rw [← h]; exact ris_any m i w hm hi

set_option maxRecDepth 100000 in
set_option maxHeartbeats 8000000 in
theorem rset_any (m : ByteArray) (i : Int) (yes : Bool) (w : World) (hm : m.size ≤ 1000000000000) (hi : -9223372036854775808 ≤ i ∧ i ≤ 9223372036854775807) :
    Calls Tryz.prog 60 #[.string m, .int .i64 i, .bool yes] w fun e w' => e = .returned (.string (setR m i yes)) ∧ Below w.heap.size w w' := by
  cases hx : exB m i with
  | false =>
    have HS := Lib.hid (setR_none hx yes)
    rcases exB_f hx with h | h
    · have d1 : decide (i < 0) = true := by simpa using h
      clear hx
      go_enter Tryz.func60, Tryz.ntmps60
      go_wp2
      go_ret
      rw [HS.out]
      exact ⟨rfl, Below.refl _ _⟩
    · have d1 : decide (i < 0) = false := by simp; omega
      have d2 : decide (8 * (m.size : Int) ≤ i) = true := by simp; omega
      clear hx h
      go_enter Tryz.func60, Tryz.ntmps60
      go_wp2
      go_ret
      rw [HS.out]
      exact ⟨rfl, Below.refl _ _⟩
  | true =>
    obtain ⟨h0, h1⟩ := exB_t hx
    obtain ⟨k, rfl⟩ := Int.eq_ofNat_of_zero_le h0
    have hk : k / 8 < m.size := by omega
    have d1 : decide ((k : Int) < 0) = false := by simp
    have d2 : decide (8 * (m.size : Int) ≤ (k : Int)) = false := by simp; omega
    have HS := Lib.hid (setR_nat m k yes)
    have HI := fun b (h : bitN m k = b) => ris_is b m k w hm hi (by rw [isB_nat]; exact h)
    clear hx
    by_cases he : bitN m k = yes
    · have HE : Hid (setR m k yes = m) := by show _ = _; rw [HS.out]; exact setN_same m k yes he
      have HB := Lib.hid (HI yes he)
      have hyy : (yes == yes) = true := by simp
      clear HI he
      go_enter Tryz.func60, Tryz.ntmps60
      go_wp2_with fail
      refine HB.out.mono ?_
      rintro e w' ⟨rfl, rfl⟩
      go_wp2
      go_ret
      rw [HE.out]
      exact ⟨rfl, Below.refl _ _⟩
    · have he' : bitN m k = !yes := by cases yes <;> simp_all
      have HB := Lib.hid (HI _ he')
      have hyy : ((!yes) == yes) = false := by cases yes <;> rfl
      obtain ⟨W1, cap, hcv, hb1, hc1, hf1⟩ := bytes_new m w
      have hck := hc1 (k / 8) hk
      have hfk := hf1 (k / 8) hk
      have hbb : bitN m k = (byteN m (k / 8)).toNat.testBit (k % 8) := by unfold bitN; rw [if_pos hk]
      have hv : bits .xor .u8 ((byteN m (k / 8)).toNat : Int) (maskI k) = ((setByte (byteN m (k / 8)) (k % 8) yes).toNat : Int) := by
        have := byte_xor (byteN m (k / 8)) (k % 8) (by omega)
        rw [← hbb, he'] at this
        simpa [maskI] using this
      have hcs := set_cells m k yes _ hk hc1 hv
      have hcv2 := conv_back (W := (W1.setCell ⟨w.heap.size, k / 8, none⟩ (.int .u8 (bits .xor .u8 ((byteN m (k / 8)).toNat : Int) (maskI k))))) (cap := cap) (setN m k yes) hcs
      rw [size_setN] at hcv2
      have hb2 : Below w.heap.size w (W1.setCell ⟨w.heap.size, k / 8, none⟩ (.int .u8 (bits .xor .u8 ((byteN m (k / 8)).toNat : Int) (maskI k)))) := hb1.setCell (Nat.le_refl _) _
      rw [mask_mod] at hcv2 hb2
      have hd : (k : Int) / 8 < (m.size : Int) := by omega
      clear hv hcs hc1 hf1 hbb HI he he'
      generalize setN m k yes = R at *
      generalize (byteN m (k / 8)).toNat = x at *
      go_enter Tryz.func60, Tryz.ntmps60
      go_wp2_with fail
      refine HB.out.mono ?_
      rintro e w' ⟨rfl, rfl⟩
      go_wp2
      go_ret
      rw [HS.out]
      exact ⟨rfl, hb2⟩
set_option maxRecDepth 100000 in
theorem Below.drews {B : Nat} {a b c : World} (h : Below B a b) (k : Drew b c) : Below B a c := by
  obtain ⟨n, rfl⟩ := k
  exact ⟨h.os, h.tape, h.output, h.size, h.block⟩

end Go.Proofs.YtgdlfiejjnjcpaaGreat.Mk
