/-
  WALKS: own, slices.Index and Contains at ints, fill, bits.Mul at 1, slices.Repeat of one int, headWidths. Conditions: counts from 0 to 40.
-/
import Derived.Test.YtpljifeebbeakaaLInts
import Derived.Test.YtpljifeebbeakaaLModel
import Derived.RegionTactic
import Derived.IntWalk
namespace Go.Proofs.Ytpljifeebbeakaa
open Go.RowKit

theorem own_any (i : Int) (w : World) : Calls Try.prog 32 #[.int .i64 i] w fun e w' => e = .returned (.bool (ownB i)) ∧ w = w' := by
  by_cases h1 : 1 ≤ i
  · by_cases h2 : i ≤ 41
    · have H : Hid (ownB i = true) := ownB_t.2 ⟨h1, h2⟩
      have hg : decide (1 ≤ i) = true := by simp [h1]
      have hg2 : decide (i ≤ 41) = true := by simp [h2]
      go_enter Try.func32, Try.ntmps32
      go_wp2
      go_ret
      exact ⟨by rw [H.out]; rfl, rfl⟩
    · have H : Hid (ownB i = false) := ownB_f.2 (by omega)
      have hg : decide (1 ≤ i) = true := by simp [h1]
      have hg2 : decide (i ≤ 41) = false := by simp [h2]
      go_enter Try.func32, Try.ntmps32
      go_wp2
      go_ret
      exact ⟨by rw [H.out]; rfl, rfl⟩
  · have H : Hid (ownB i = false) := ownB_f.2 (by omega)
    have hg : decide (1 ≤ i) = false := by simp [h1]
    go_enter Try.func32, Try.ntmps32
    go_wp2
    go_ret
    exact ⟨by rw [H.out]; rfl, rfl⟩

theorem contains_take {l : List Int} {k : Nat} (h : k < l.length) (x : Int) : (l.take (k + 1)).contains x = ((l.take k).contains x || (x == l.getD k 0)) := by
  have e : l.take (k + 1) = l.take k ++ [l.getD k 0] := by
    rw [List.take_add_one, List.getElem?_eq_getElem h]
    simp [List.getD, List.getElem?_eq_getElem h]
  rw [e, Bool.eq_iff_iff]
  simp
set_option maxHeartbeats 1000000 in
theorem index_any (A : Option Addr) (n c B : Nat) (l : List Int) (x : Int) (w : World) (hA : IntsAt w B A n l) (hn : n ≤ 100000) :
    Calls Try.prog 81 #[.slice A n c, .int .i64 x] w fun e w' => ∃ z, e = .returned (.int .i64 z) ∧ decide (0 ≤ z) = l.contains x ∧ w = w' := by
  have HL := Lib.hid hA.len
  have HA := Lib.hid hA
  obtain ⟨b0, hb0⟩ : ∃ b0, b0 = l.contains x := ⟨_, rfl⟩
  rw [← hb0]
  have HB0 := Lib.hid hb0
  clear hA hb0
  go_enter Try.func81, Try.ntmps81
  go_wp2
  go_loopw [5, 8] (fun _ j wr => ∃ k : Nat, k ≤ n ∧ j = .int .i64 (k : Int) ∧ (l.take k).contains x = false ∧ wr = w) (fun _ j _ => n - (intOf j).toNat)
  case atStart => exact ⟨0, by omega, rfl, by simp, rfl⟩
  case round =>
    obtain ⟨k, hk, rfl, hc, rfl⟩ := hrel
    have HC := Lib.hid hc
    clear hc
    by_cases h1 : k < n
    · have hlt : (k : Int) < (n : Int) := by omega
      obtain ⟨b, o, rfl, hb, hcell⟩ := HA.out.at_ h1
      have HT := Lib.hid (contains_take (l := l) (k := k) (by rw [HL.out]; exact h1) x)
      generalize l.getD k 0 = y at *
      cases hxy : (x == y) with
      | true =>
        have hm : l.contains x = true := by
          have h := HT.out
          rw [hxy, Bool.or_true] at h
          simp only [List.contains_iff_mem] at h ⊢
          exact List.mem_of_mem_take h
        have HM := Lib.hid hm
        clear hm
        go_wp2
        go_ret
        exact ⟨_, rfl, by rw [HB0.out, HM.out]; simp, by first | rfl | trivial⟩
      | false =>
        go_wp2
        go_roundw
        case rel => exact ⟨k + 1, h1, by push_cast; rfl, by rw [HT.out, HC.out, hxy]; rfl, by first | rfl | trivial⟩
        case measure => simp only [intOf]; omega
    · have hnlt : ¬ (k : Int) < (n : Int) := by omega
      have hkn : k = n := by omega
      have hm : l.contains x = false := by
        have h := HC.out
        rw [hkn, ← HL.out, List.take_length] at h
        exact h
      have HM := Lib.hid hm
      clear hm hkn
      go_wp2
      go_ret
      exact ⟨_, rfl, by rw [HB0.out, HM.out]; rfl, rfl⟩
theorem contains_any (A : Option Addr) (n c B : Nat) (l : List Int) (x : Int) (w : World) (hA : IntsAt w B A n l) (hn : n ≤ 100000) :
    Calls Try.prog 63 #[.slice A n c, .int .i64 x] w fun e w' => e = .returned (.bool (l.contains x)) ∧ w = w' := by
  have HI := Lib.hid (index_any A n c B l x w hA hn)
  clear hA
  go_enter Try.func63, Try.ntmps63
  go_wp2_with fail
  refine HI.out.mono ?_
  rintro e w1 ⟨z, rfl, hz, rfl⟩
  have HZ := Lib.hid hz
  clear hz
  go_wp2
  go_ret
  exact ⟨by rw [← HZ.out]; rfl, rfl⟩

/-- the bytes of a block of one byte. -/
def fillS (x : Int) : ByteArray := ⟨(List.replicate 128 (UInt8.ofNat x.toNat)).toArray⟩
theorem fillS_size (x : Int) : (fillS x).size = 128 := by
  show (List.replicate 128 (UInt8.ofNat x.toNat)).toArray.size = 128
  simp
def FillAt (w : World) (g : Nat) (u : UInt8) (k : Nat) : Prop := w.heap[g]? = some (.cells (Lib.byteCells (List.replicate k u ++ List.replicate (128 - k) 0)).toArray 5 (0, 0))
theorem FillAt.set {w : World} {g : Nat} {u : UInt8} {k : Nat} (h : FillAt w g u k) (hk : k < 128) : FillAt (w.setCell ⟨g, k, none⟩ (.int .u8 (u.toNat : Int))) g u (k + 1) := by
  unfold FillAt at *
  rw [Sl.heap_setCell_same w g k _ h]
  congr 2
  apply Array.ext'
  simp only [Array.toList_setIfInBounds]
  apply List.ext_getElem?
  intro j
  simp only [Lib.byteCells, List.getElem?_set, List.getElem?_map, List.length_map, List.length_append, List.length_replicate]
  by_cases e : k = j
  · subst e
    rw [if_pos rfl, if_pos (by omega), List.getElem?_append_left (by simp), List.getElem?_replicate, if_pos (by omega)]
    rfl
  · rw [if_neg e]
    congr 1
    by_cases hj : j < k
    · rw [List.getElem?_append_left (by simpa using hj), List.getElem?_append_left (by simp; omega)]
      simp [hj, Nat.lt_succ_of_lt hj]
    · rw [List.getElem?_append_right (by simp; omega), List.getElem?_append_right (by simp; omega)]
      simp only [List.length_replicate, List.getElem?_replicate]
      have : (j - k < 128 - k) ↔ (j - (k + 1) < 128 - (k + 1)) := by omega
      simp only [this]
theorem FillAt.cell {w : World} {g : Nat} {u : UInt8} {k : Nat} (h : FillAt w g u k) (hk : k < 128) : ∃ v, w.cell? ⟨g, k, none⟩ = some v := by
  rw [cell_of_row w g k _ 5 _ h, List.getElem?_toArray]
  rw [List.getElem?_eq_getElem (by simp [Lib.byteCells]; omega)]
  exact ⟨_, rfl⟩
theorem FillAt.fz {w : World} {g : Nat} {u : UInt8} {k : Nat} (h : FillAt w g u k) (j : Nat) : w.frozen? ⟨g, j, none⟩ = false := by
  unfold FillAt at h
  simp [World.frozen?, h]

set_option maxRecDepth 100000 in
set_option maxHeartbeats 1000000 in
theorem fill_any (x : Int) (w : World) (hx : 0 ≤ x ∧ x ≤ 255) :
    Calls Try.prog 26 #[.int .u8 x] w fun e w' => e = .returned (.string (fillS x)) ∧ Below w.heap.size w w' := by
  obtain ⟨M, hM, hMs, hmk⟩ := Sl.make_bytes 128 (by omega)
  have hf : FillAt (w.alloc (.cells M 5)) w.heap.size (UInt8.ofNat x.toNat) 0 := by
    unfold FillAt
    rw [heap_alloc_new]
    congr 2
    apply Array.ext'
    rw [hM]; simp [Lib.byteCells]
  have hu : ((UInt8.ofNat x.toNat).toNat : Int) = x := by
    rw [UInt8.toNat_ofNat']; omega
  have HF := Lib.hid hf
  have HU := Lib.hid hu
  have HFS : Hid (fillS x = ⟨(List.replicate 128 (UInt8.ofNat x.toNat)).toArray⟩) := rfl
  have HB : Hid (Below w.heap.size w (w.alloc (.cells M 5))) := (Below.refl _ _).alloc (Nat.le_refl _) _
  generalize UInt8.ofNat x.toNat = u at *
  have hmk2 : ∀ W : World, (Instr.makeSlice 36 (.int .i64 128) (.int .i64 128)).run Try.prog W = .ok (.slice (some ⟨W.heap.size, 0, none⟩) 128 128) (W.alloc (.cells M 5)) := hmk
  clear hM hf hu hmk
  go_enter Try.func26, Try.ntmps26
  go_wp2
  go_loopw [4] (fun j wr => ∃ k : Nat, k ≤ 128 ∧ j = .int .i64 (k : Int) ∧ FillAt wr w.heap.size u k ∧ Below w.heap.size w wr) (fun j _ => 128 - (intOf j).toNat)
  case atStart => exact ⟨0, by omega, rfl, HF.out, HB.out⟩
  case round =>
    obtain ⟨k, hk, rfl, hf, hb⟩ := hrel
    have H := Lib.hid hf
    by_cases h1 : k < 128
    · have hlt : (k : Int) < 128 := by omega
      obtain ⟨v, hc⟩ := hf.cell h1
      have hz := hf.fz k
      have HN := Lib.hid (hf.set h1)
      have HB2 := Lib.hid (hb.setCell (p := ⟨w.heap.size, k, none⟩) (Nat.le_refl _) (.int .u8 (u.toNat : Int)))
      rw [HU.out] at HN HB2
      clear hf hb
      go_wp2
      go_roundw
      case rel => exact ⟨k + 1, h1, by push_cast; rfl, HN.out, HB2.out⟩
      case measure => simp only [intOf]; omega
    · have hnlt : ¬ (k : Int) < 128 := by omega
      have e : k = 128 := by omega
      subst e
      have hcv := Sl.conv_cells (cap := 128) (List.replicate 128 u) _ (0, 0) H.out (by simp)
      rw [List.length_replicate] at hcv
      have HB2 := Lib.hid hb
      clear hf hb
      go_wp2
      go_ret
      exact ⟨by rw [HFS.out]; rfl, HB2.out⟩

theorem two_u64 {a b a' b' : Int} (h : a = a') (h2 : b = b') : Ending.returned (.tuple #[.int .u64 a, .int .u64 b]) = Ending.returned (.tuple #[.int .u64 a', .int .u64 b']) := by rw [h, h2]
theorem mul64_one (n : Nat) (w : World) (hn : n ≤ 40) :
    Calls Try.prog 94 #[.int .u64 1, .int .u64 n] w fun e w' => e = .returned (.tuple #[.int .u64 0, .int .u64 n]) ∧ w = w' := by
  obtain ⟨m, rfl⟩ : ∃ m : Fin 41, n = m.val := ⟨⟨n, by omega⟩, rfl⟩
  clear hn
  go_enter Try.func94, Try.ntmps94
  go_wp2
  go_ret2
  refine ⟨two_u64 ?_ ?_, rfl⟩
  · revert m; decide +kernel
  · revert m; decide +kernel
theorem mul_one64 (n : Nat) (w : World) (hn : n ≤ 40) :
    Calls Try.prog 91 #[.int .u64 1, .int .u64 n] w fun e w' => e = .returned (.tuple #[.int .u64 0, .int .u64 n]) ∧ w = w' := by
  go_enter Try.func91, Try.ntmps91
  go_wp2_with fail
  refine (mul64_one n _ hn).mono ?_
  rintro e w1 ⟨rfl, rfl⟩
  go_wp2
  go_ret2
  exact ⟨rfl, rfl⟩

/-- slices.Repeat of one int: n of them, a new row. -/
theorem rep_splice (n d : Nat) (x : Int) (m : Nat) (hm : d + m ≤ n) : splice (List.replicate d x ++ List.replicate (n - d) 0) d (List.replicate m x) = List.replicate (d + m) x ++ List.replicate (n - (d + m)) 0 := by
  have e1 : (List.replicate d x ++ List.replicate (n - d) (0 : Int)).take d = List.replicate d x := by
    rw [List.take_append_of_le_length (by simp)]; simp
  have e2 : (List.replicate d x ++ List.replicate (n - d) (0 : Int)).drop (d + m) = List.replicate (n - (d + m)) 0 := by
    rw [List.drop_append, List.drop_replicate, List.drop_replicate, List.length_replicate]
    rw [show d - (d + m) = 0 by omega, show n - d - (d + m - d) = n - (d + m) by omega]; rfl
  simp only [splice, List.length_replicate, e1, e2]
  rw [← List.append_assoc, ← List.replicate_append_replicate]
set_option maxRecDepth 100000 in
set_option maxHeartbeats 2000000 in
theorem repeat_any (A : Option Addr) (c B : Nat) (x : Int) (n : Nat) (w : World) (hA : IntsAt w B A 1 [x]) (hB : B ≤ w.heap.size) (hn : n ≤ 40) :
    Calls Try.prog 80 #[.slice A 1 c, .int .i64 n] w fun e w' => e = .returned (.slice (some ⟨w.heap.size, 0, none⟩) n n) ∧ IntRow w' w.heap.size (List.replicate n x) ∧ Below w.heap.size w w' := by
  have hmk := make_ints n (by omega)
  have hx : Fit x := hA.2.1 x (by simp)
  have hrow := IntRow.new w (List.replicate n 0)
  have hA1 : IntsAt (w.alloc (.cells (ints (List.replicate n 0)).toArray 3)) B A 1 [x] := hA.alloc hB _
  obtain ⟨w1, hc1, hr1, hg1, hs1⟩ := copy_ints _ w.heap.size 0 n n B A 1 c (List.replicate n 0) [x] hrow (by simp) hA1
  have hb1 : Below w.heap.size w w1 := ((Below.refl _ _).alloc (Nat.le_refl _) _).grown hg1 (by simp) (fun j hj => by cases hj; omega)
  have hr1' : IntRow w1 w.heap.size (List.replicate (Nat.min 1 n) x ++ List.replicate (n - Nat.min 1 n) 0) := by
    have e := rep_splice n 0 x (Nat.min 1 n) (by have h := Nat.min_le_right 1 n; rw [Nat.zero_add]; exact h)
    simp only [Nat.zero_add, List.replicate_zero, List.nil_append, Nat.sub_zero] at e
    rw [← e]
    have e2 : List.take (Nat.min 1 n) [x] = List.replicate (Nat.min 1 n) x := by
      rcases Nat.eq_zero_or_pos n with h0 | h0
      · subst h0; rfl
      · have : Nat.min 1 n = 1 := Nat.min_eq_left h0
        rw [this]; rfl
    rw [← e2]; exact hr1
  have HR := Lib.hid hr1'
  have HB1 := Lib.hid hb1
  obtain ⟨d1, hd1⟩ : ∃ d1, d1 = Nat.min 1 n := ⟨_, rfl⟩
  have hd1n : d1 ≤ n := by rw [hd1]; exact Nat.min_le_right 1 n
  have hd10 : d1 = 0 → n = 0 := by
    intro h; rw [hd1] at h
    rcases Nat.eq_zero_or_pos n with h0 | h0
    · exact h0
    · have : Nat.min 1 n = 1 := Nat.min_eq_left h0
      omega
  rw [← hd1] at HR hc1
  generalize (ints (List.replicate n 0)).toArray = M at *
  have HD := Lib.hid hd10
  have hn0 : ((n : Int) < 0) = False := by simp
  have hng : decide ((n : Int) < 0) = false := by simp
  clear hA hrow hA1 hr1 hr1' hg1 hs1 hb1 hd1 hd10 hn0
  go_enter Try.func80, Try.ntmps80
  go_wp2_with fail
  refine (mul_one64 n _ hn).mono ?_
  rintro e w3 ⟨rfl, rfl⟩
  go_wp2
  go_loopw [8] (fun j wr => ∃ d : Nat, d1 ≤ d ∧ d ≤ n ∧ j = .int .i64 (d : Int) ∧ IntRow wr w.heap.size (List.replicate d x ++ List.replicate (n - d) 0) ∧ Below w.heap.size w wr) (fun j _ => n - (intOf j).toNat)
  case atStart => exact ⟨d1, Nat.le_refl _, hd1n, rfl, HR.out, HB1.out⟩
  case round =>
    obtain ⟨d, h1d, hdn, rfl, hr, hb⟩ := hrel
    by_cases h1 : d < n
    · have hlt : (d : Int) < (n : Int) := by omega
      have hne : ¬ n = d := by omega
      have hd0 : 0 < d := by
        rcases Nat.eq_zero_or_pos d with h0 | h0
        · have := HD.out (by omega); omega
        · exact h0
      have hrd : IntRow wr.drew w.heap.size (List.replicate d x ++ List.replicate (n - d) 0) := hr
      have hsub := hrd.sub (B := wr.drew.heap.size) (fun z hz => by
        rcases List.mem_append.1 hz with h | h
        · rw [List.eq_of_mem_replicate h]; exact hx
        · rw [List.eq_of_mem_replicate h]; unfold Fit; omega) hrd.lt 0 d (by simp)
      have e1 : ((List.replicate d x ++ List.replicate (n - d) (0 : Int)).drop 0).take d = List.replicate d x := by
        rw [List.drop_zero, List.take_append_of_le_length (by simp)]; simp
      rw [e1] at hsub
      obtain ⟨m, hm⟩ : ∃ m, m = Nat.min d (n - d) := ⟨_, rfl⟩
      have hm1 : m ≤ n - d := by rw [hm]; exact Nat.min_le_right _ _
      have hm2 : m ≤ d := by rw [hm]; exact Nat.min_le_left _ _
      have hm3 : 0 < m := by rw [hm]; exact Nat.lt_min.2 ⟨hd0, by omega⟩
      obtain ⟨w2, hc2, hr2, hg2, hs2⟩ := copy_ints wr.drew w.heap.size d (n - d) (n - d) _ _ d n _ _ hrd (by simp) hsub
      rw [← hm] at hc2 hr2
      have e2 : List.take m (List.replicate d x) = List.replicate m x := by rw [List.take_replicate, Nat.min_eq_left hm2]
      rw [e2, rep_splice n d x m (by omega)] at hr2
      have HR2 := Lib.hid hr2
      have HB2 : Hid (Below w.heap.size w w2) := (Below.drew hb).grown hg2 hb.size (fun j hj => by cases hj; omega)
      have HM := Lib.hid hm1
      have HM3 := Lib.hid hm3
      have hsum : IntKind.i64.wrap ((d : Int) + (m : Int)) = ((d + m : Nat) : Int) := by
        rw [IntWalk.i64_in _ (by omega)]; push_cast; rfl
      clear hr hb hrd hsub e1 hm hm1 hm2 hm3 hr2 hg2 hs2 e2 hd0
      go_wp2_with fail
      go_region
      all_goals
        go_wp2
        go_roundw
        case rel => exact ⟨d + m, by omega, by have := HM.out; omega, rfl, HR2.out, HB2.out⟩
        case measure => have := HM3.out; have := HM.out; simp only [intOf]; omega
    · have hnlt : ¬ (d : Int) < (n : Int) := by omega
      have e : d = n := by omega
      subst e
      have HRR := Lib.hid hr
      have HBB := Lib.hid hb
      clear hr hb
      go_wp2
      go_ret
      refine ⟨rfl, ?_, HBB.out⟩
      have := HRR.out
      rw [Nat.sub_self] at this
      simpa using this
theorem own_new (w : World) (xs : List Value) (e : TypeId) (n size : Nat) (hn : xs.length = n * size) (hm : n ≤ maxLen) :
    (w.alloc (.cells xs.toArray e)).ownsRow w.heap.size e size (.slice (some ⟨w.heap.size, 0, none⟩) n n) n xs :=
  ⟨hn, Or.inr ⟨_, n, xs.toArray, rfl, Nat.le_refl _, heap_alloc_new w _, Nat.le_refl _, hm, by simp [hn], by simp [← hn]⟩⟩
theorem IntRow.own {w : World} {g base : Nat} {l : List Int} (h : IntRow w g l) (hb : base ≤ g) (hm : l.length ≤ maxLen) : w.ownsRow base 3 1 (.slice (some ⟨g, 0, none⟩) l.length l.length) l.length (Ytpljifeebbeakaa.ints l) :=
  ⟨by simp [ints_len], Or.inr ⟨g, l.length, _, rfl, hb, h, Nat.le_refl _, hm, by simp [ints_len], by simp [← ints_len]⟩⟩
theorem ownI_below {w w' : World} {base C n sz : Nat} {e : TypeId} {v : Value} {xs : List Value} (h : w.ownsRow base e sz v n xs) (hb : Below C w w') (hC : w.heap.size ≤ C) : w'.ownsRow base e sz v n xs := own_below h hb hC
theorem hdW_fit (n : Nat) : ∀ z ∈ hdW n, Fit z := by
  intro z hz
  rcases List.mem_cons.1 hz with h | h
  · rw [h]; decide
  · rw [List.eq_of_mem_replicate h]; decide
set_option maxHeartbeats 1000000 in
theorem hdW_any (n : Nat) (w : World) (hn : n ≤ 40) :
    Calls Try.prog 58 #[.int .i64 n] w fun e w' => ∃ A c, e = .returned (.slice A (n + 1) c) ∧ IntsAt w' w'.heap.size A (n + 1) (hdW n) ∧ Below w.heap.size w w' := by
  have HO : Hid ((w.alloc (.cells #[.int .i64 1] 3)).ownsRow w.heap.size 3 1 (.slice (some ⟨w.heap.size, 0, none⟩) 1 1) 1 (ints [1])) := own_new w (ints [1]) 3 1 1 rfl (by decide)
  have HR : Hid (IntRow ((w.alloc (.cells #[.int .i64 1] 3)).alloc (.cells #[.int .i64 2] 3)) (w.alloc (.cells #[.int .i64 1] 3)).heap.size [2]) := IntRow.new _ [2]
  have HB : Hid (Below w.heap.size w ((w.alloc (.cells #[.int .i64 1] 3)).alloc (.cells #[.int .i64 2] 3))) := ((Below.refl _ _).alloc (Nat.le_refl _) _).alloc (by simp) _
  have HO2 := Lib.hid (HO.out.alloc (.cells #[.int .i64 2] 3))
  have hR := (HR.out.ints (B := ((w.alloc (.cells #[.int .i64 1] 3)).alloc (.cells #[.int .i64 2] 3)).heap.size) (by decide) HR.out.lt)
  have HRP := Lib.hid (repeat_any _ 1 _ 2 n _ hR (Nat.le_refl _) hn)
  have hs : (w.alloc (.cells #[.int .i64 1] 3)).heap.size = w.heap.size + 1 := by simp
  have hs2 : ((w.alloc (.cells #[.int .i64 1] 3)).alloc (.cells #[.int .i64 2] 3)).heap.size = w.heap.size + 1 + 1 := by simp
  have HS2 := Lib.hid hs2
  rw [hs, hs2] at HRP
  clear hR HR HO hs hs2
  go_enter Try.func58, Try.ntmps58
  go_wp2_with fail
  refine HRP.out.mono ?_
  rintro e w1 ⟨rfl, hr, hb⟩
  rw [← HS2.out] at hb
  have HO3 := Lib.hid (own_below HO2.out hb (Nat.le_refl _))
  have HI := hr.ints (B := w1.heap.size) (by intro z hz; rw [List.eq_of_mem_replicate hz]; decide) hr.lt
  rw [List.length_replicate] at HI
  have HI2 := Lib.hid HI
  have HB2 := Lib.hid (HB.out.trans (hb.mono HB.out.size))
  clear hr hb HI HO2 HRP HB
  go_wp2_with (at_builtin; refine joinI_law rfl (.tmp 3) (.tmp 6) rfl w.heap.size _ (.slice (some ⟨w.heap.size, 0, none⟩) 1 1) [1] rfl _ _ n n (List.replicate n 2) rfl HO3.out HI2.out (by simp; omega) HB2.out.size ?_)
  intro v' w2 ho hb
  obtain ⟨A, c, rfl, hc⟩ := own_sliceI ho
  have ho' : w2.ownsRow w.heap.size 3 1 (.slice A (hdW n).length c) (hdW n).length (ints (hdW n)) := by rw [hdW_len]; exact ho
  have HF := IntsAt.of_own ho' rfl (hdW_fit n)
  rw [hdW_len] at HF
  have HF2 := Lib.hid HF
  have HB3 := Lib.hid (HB2.out.trans hb)
  clear HF ho'
  go_wp2
  go_ret
  exact ⟨_, _, rfl, HF2.out, HB3.out⟩
end Go.Proofs.Ytpljifeebbeakaa
