/-
  WALKS: Image of a slab, and texts, which compares two rows of strings. No condition.
-/
import Derived.Test.YtpljifeebbeakaaSRead
namespace Go.Proofs.Ytpljifeebbeakaa.Sl
open Go.RowKit Go.Maps

/-! ### a row that is filled from its first place on -/
def fill {α : Type} (l : List α) (z : α) (k : Nat) : List α := l.take k ++ List.replicate (l.length - k) z
theorem fill_len {α : Type} (l : List α) (z : α) {k : Nat} (hk : k ≤ l.length) : (fill l z k).length = l.length := by simp [fill]; omega
theorem fill_zero {α : Type} (l : List α) (z : α) : fill l z 0 = List.replicate l.length z := by simp [fill]
theorem fill_full {α : Type} (l : List α) (z : α) : fill l z l.length = l := by simp [fill]
theorem fill_set {α : Type} (l : List α) (z : α) {k : Nat} (hk : k < l.length) {v : α} (hv : l[k]? = some v) : (fill l z k).set k v = fill l z (k + 1) := by
  apply List.ext_getElem?
  intro j
  have hlen : (l.take k).length = k := by simp; omega
  rw [List.getElem?_set]
  by_cases e : k = j
  · subst e
    rw [if_pos rfl, if_pos (by rw [fill_len _ _ (by omega)]; exact hk), fill, List.getElem?_append_left (by simp; omega), List.getElem?_take_of_lt (by omega), hv]
  · rw [if_neg e]
    unfold fill
    rcases Nat.lt_or_ge j k with h | h
    · rw [List.getElem?_append_left (by omega), List.getElem?_append_left (by simp; omega), List.getElem?_take_of_lt h, List.getElem?_take_of_lt (by omega)]
    · rw [List.getElem?_append_right (by omega), List.getElem?_append_right (by simp; omega), hlen]
      simp only [List.getElem?_replicate, List.length_take]
      have : min (k + 1) l.length = k + 1 := by omega
      rw [this]
      by_cases h3 : j < l.length
      · rw [if_pos (by omega), if_pos (by omega)]
      · rw [if_neg (by omega), if_neg (by omega)]

/-- block g of w is a row of just these strings. -/
def RowAt (w : World) (g : Nat) (ss : List ByteArray) : Prop := w.heap[g]? = some (.cells (ss.map Value.string).toArray 9 (0, 0))
theorem RowAt.lt {w : World} {g : Nat} {ss : List ByteArray} (h : RowAt w g ss) : g < w.heap.size := (Array.getElem?_eq_some_iff.1 h).1
theorem RowAt.below {w w' : World} {g B : Nat} {ss : List ByteArray} (h : RowAt w g ss) (hb : Below B w w') (hg : g < B) : RowAt w' g ss := (hb.block g hg).trans h
theorem RowAt.turns {w w' : World} {g : Nat} {L : List Nat} {ss : List ByteArray} (h : RowAt w g ss) (hb : Turns L w w') (hg : g ∉ L) : RowAt w' g ss := (hb.block g h.lt hg).trans h
theorem RowAt.cell {w : World} {g : Nat} {ss : List ByteArray} (h : RowAt w g ss) {k : Nat} (hk : k < ss.length) : w.cell? ⟨g, k, none⟩ = some (.string (ss.getD k ⟨#[]⟩)) := by
  unfold RowAt at h
  simp [World.cell?, h, List.getD, hk]
theorem RowAt.fz {w : World} {g : Nat} {ss : List ByteArray} (h : RowAt w g ss) (k : Nat) : w.frozen? ⟨g, k, none⟩ = false := by
  unfold RowAt at h
  simp [World.frozen?, h]
theorem RowAt.set {w : World} {g : Nat} {ss : List ByteArray} (h : RowAt w g ss) (k : Nat) (s : ByteArray) : RowAt (w.setCell ⟨g, k, none⟩ (.string s)) g (ss.set k s) := by
  unfold RowAt at *
  rw [heap_setCell_same _ _ _ _ h]
  congr 2
  simp [List.map_set]

theorem info9 : (Try.prog.info? 9).map (fun i => (i.zero, i.size, i.bytes)) = some (some (.string ⟨#[]⟩), 1, 16) := by kernel_rfl

/-- 'make([]string, n)', for the walk to take. -/
theorem make_strs (n : Nat) (hn : n ≤ 1000) : ∃ M : Array Value, M = ((List.replicate n (⟨#[]⟩ : ByteArray)).map Value.string).toArray ∧
    ∀ W : World, (Instr.makeSlice 32 (.int .i64 (n : Int)) (.int .i64 (n : Int))).run Try.prog W = .ok (.slice (some ⟨W.heap.size, 0, none⟩) n n) (W.alloc (.cells M 9)) := by
  obtain ⟨i0, hi, hz0, hz1, hz2⟩ := info_parts info9
  refine ⟨madeCells (Value.string ⟨#[]⟩).cells (n * i0.size), ?_, fun W => ?_⟩
  · apply Array.ext'
    rw [hz1, Nat.mul_one]
    rw [List.map_replicate]
    exact toList_madeCells_one _ _
  · have h := run_make (P := Try.prog) W 32 9 i0 (.string ⟨#[]⟩) Try.underlying32 hi hz0 .i64 .i64 (n : Int) (n : Int) (by omega) (by omega) (by rw [hz2]; omega) (by omega)
    simpa using h

def St.img (σ : St) : List ByteArray := (List.range σ.dur.length).map σ.at
theorem St.img_len (σ : St) : σ.img.length = σ.dur.length := by simp [St.img]
theorem St.img_at (σ : St) {k : Nat} (hk : k < σ.dur.length) : σ.img[k]? = some (σ.at k) := by simp [St.img, hk]
theorem St.read_at (σ : St) {k : Nat} (hk : k < σ.dur.length) : σ.read (k : Int) = σ.at k := by
  unfold St.read
  rw [if_pos (by unfold St.has; simp [hk])]
  simp

set_option maxHeartbeats 1000000 in
theorem image_any (p pd pm : Nat) (σ : St) (w : World) (h : SlabAt w p pd pm σ) :
    Calls Try.prog 11 #[.pointer (some ⟨p, 0, none⟩)] w fun e w' => e = .returned (.slice (some ⟨w.heap.size, 0, none⟩) σ.dur.length σ.dur.length) ∧ RowAt w' w.heap.size σ.img ∧ Below w.heap.size w w' := by
  obtain ⟨n, hn⟩ : ∃ n, n = σ.dur.length := ⟨_, rfl⟩
  have hl : n ≤ 1000 := by rw [hn]; exact h.len
  obtain ⟨M, hM, hmk⟩ := make_strs n hl
  have HN := Lib.hid hn
  have HM := Lib.hid hM
  have H := Lib.hid h
  have HS : Hid (Calls Try.prog 27 #[.pointer (some ⟨p, 0, none⟩)] w fun e w' => e = .returned (.int .i64 n) ∧ w = w') := by rw [hn]; exact size_any p pd pm σ w h
  rw [← hn]
  clear h hn hM
  go_enter Try.func11, Try.ntmps11
  go_wp2_with (go_at_call 27; refine HS.out.mono ?_; rintro e w1 ⟨rfl, rfl⟩)
  go_loopw [10] (fun i wr => ∃ k : Nat, k ≤ n ∧ i = .int .i64 k ∧ RowAt wr w.heap.size (fill σ.img ⟨#[]⟩ k) ∧ SlabAt wr p pd pm σ ∧ Below w.heap.size w wr) (fun i _ => n - (intOf i).toNat)
  case atStart =>
    refine ⟨0, Nat.zero_le _, rfl, ?_, H.out.keptB (Turns.alloc _ _ _), (Below.refl _ _).alloc (Nat.le_refl _) _⟩
    rw [fill_zero, St.img_len, ← HN.out]
    show _ = _
    rw [HM.out]
    exact heap_alloc_new w _
  case round =>
    obtain ⟨k, hk, rfl, hrow, hs, hb⟩ := hrel
    by_cases hlt : k < n
    · have HR := Lib.hid (read_any p pd pm σ (k : Int) wr hs)
      have HRA : Hid (σ.read (k : Int) = σ.at k) := σ.read_at (by rw [← HN.out]; exact hlt)
      have HIA : Hid (σ.img[k]? = some (σ.at k)) := σ.img_at (by rw [← HN.out]; exact hlt)
      have Hrow := Lib.hid hrow
      have Hs := Lib.hid hs
      clear hrow hs
      go_wp2_with fail
      refine HR.out.mono ?_
      rintro e w2 ⟨rfl, b2⟩
      rw [HRA.out]
      have hrow2 : RowAt w2 w.heap.size (fill σ.img ⟨#[]⟩ k) := Hrow.out.below b2 (by have := hb.size; have := Hrow.out.lt; omega)
      have c2 := hrow2.cell (k := k) (by rw [fill_len _ _ (by rw [St.img_len, ← HN.out]; omega), St.img_len, ← HN.out]; exact hlt)
      have f2 := hrow2.fz k
      have hs2 := Lib.hid (Hs.out.keptB (Turns.of_below _ b2))
      have hrow3 := Lib.hid (hrow2.set k (σ.at k))
      have HB2 := Lib.hid b2
      clear hrow2 b2
      generalize σ.at k = R at *
      go_wp2
      go_roundw
      case rel =>
        have t3 : Turns [w.heap.size] w2 (w2.setCell ⟨w.heap.size, k, none⟩ (.string R)) := Turns.setCell w2 (by simp) _
        have hlp := H.out.lt_p
        have hld := H.out.lt_d
        have hlm := H.out.lt_m
        refine ⟨k + 1, by omega, by go_num, ?_, hs2.out.kept t3 (by simp; omega) (by simp; omega) (by simp; omega), (hb.trans (HB2.out.mono hb.size)).setCell (Nat.le_refl _) _⟩
        rw [← fill_set _ _ (by rw [St.img_len, ← HN.out]; exact hlt) HIA.out]
        exact hrow3.out
      case measure => simp [intOf]; omega
    · have HK : Hid (k = n) := by show k = n; omega
      have Hrow := Lib.hid hrow
      clear hrow hs
      go_wp2
      go_ret
      refine ⟨rfl, ?_, hb⟩
      have := Hrow.out
      rw [HK.out, HN.out, ← St.img_len, fill_full] at this
      exact this

set_option maxHeartbeats 1000000 in
theorem image_nil (w : World) : Calls Try.prog 11 #[.pointer none] w fun e w' => e = .returned (.slice (some ⟨w.heap.size, 0, none⟩) 0 0) ∧ Below w.heap.size w w' := by
  obtain ⟨M, hM, hmk⟩ := make_strs 0 (by omega)
  have HM := Lib.hid hM
  clear hM
  have hmk' : (Instr.makeSlice 32 (.int .i64 0) (.int .i64 0)).run Try.prog w = .ok (.slice (some ⟨w.heap.size, 0, none⟩) 0 0) (w.alloc (.cells M 9)) := hmk w
  clear hmk
  go_enter Try.func11, Try.ntmps11
  go_wp2_with (go_at_call 27; refine (size_nil w).mono ?_; rintro e w1 ⟨rfl, rfl⟩)
  go_loopw [10] (fun i wr => i = .int .i64 0 ∧ Below w.heap.size w wr) (fun i _ => 0)
  case atStart => exact ⟨rfl, (Below.refl _ _).alloc (Nat.le_refl _) _⟩
  case round =>
    obtain ⟨rfl, hb⟩ := hrel
    go_wp2
    go_ret
    exact ⟨rfl, hb⟩
end Go.Proofs.Ytpljifeebbeakaa.Sl
