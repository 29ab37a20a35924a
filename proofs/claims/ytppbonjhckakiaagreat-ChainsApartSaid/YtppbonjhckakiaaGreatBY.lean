/-
  WALK: lives: true. No condition.
  WALKS: bits.Mul, slices.Repeat and layout: eight widths of two bytes. No condition.
  WALKS: Write and Read of a list, the program's and the reference's. Conditions: at most 20000000000000 numbers, strings of at most 1000000000000000 bytes.
-/
import Derived.Test.YtppbonjhckakiaaGreatBX
import Derived.RegionTactic
import Derived.Test.YtppbonjhckakiaaGreatBM
import Derived.Lib.Strings
namespace Go.Proofs.YtppbonjhckakiaaGreat.La
open Go.RowKit Go.Shelf

set_option maxRecDepth 100000 in
theorem eql22_nil (W : World) : (binOp .eql 27 (.slice none 0 0) (.slice none 0 0)).run Tryz.prog W = .ok (.bool true) W := by kernel_rfl
set_option maxRecDepth 100000 in
theorem IntRow.set {w : World} {g : Nat} {l : List Int} (h : IntRow w g l) (i : Nat) (x : Int) : IntRow (w.setCell ⟨g, i, none⟩ (.int .i64 x)) g (l.set i x) := by
  have := heap_set (i := i) h (.int .i64 x)
  show _ = _
  rw [this]
  simp [La.ints, List.map_set]

end Go.Proofs.YtppbonjhckakiaaGreat.La

namespace Go.Proofs.YtppbonjhckakiaaGreat.La
open Go.RowKit Go.Shelf

def w8 : List Int := [2, 2, 2, 2, 2, 2, 2, 2]

set_option maxRecDepth 100000 in
set_option maxHeartbeats 1000000 in
theorem mul64_18 (w : World) : Calls Tryz.prog 180 #[.int .u64 1, .int .u64 8] w fun e w' => e = .returned (.tuple #[.int .u64 0, .int .u64 8]) ∧ w = w' := by
  go_enter Tryz.func180, Tryz.ntmps180
  go_wp2
  go_ret2
  exact ⟨by kernel_rfl, rfl⟩
set_option maxRecDepth 100000 in
set_option maxHeartbeats 1000000 in
theorem mul_18 (w : World) : Calls Tryz.prog 176 #[.int .u64 1, .int .u64 8] w fun e w' => e = .returned (.tuple #[.int .u64 0, .int .u64 8]) ∧ w = w' := by
  go_enter Tryz.func176, Tryz.ntmps176
  go_wp2_with (go_at_call 180; refine (mul64_18 _).mono ?_; rintro e w' ⟨rfl, rfl⟩)
  go_ret2
  exact ⟨rfl, rfl⟩
def rep (k : Nat) : List Int := List.replicate k 2 ++ List.replicate (8 - k) 0
set_option maxRecDepth 100000 in
/-- one round: k twos become twice as many. -/
theorem rep_copy (W : World) (g k : Nat) (hk : k = 1 ∨ k = 2 ∨ k = 4) (h : IntRow W g (rep k)) :
    ∃ W', (Builtin.copy_ #[27, 27] 3 #[.slice (some ⟨g, k, none⟩) (8 - k) (8 - k), .slice (some ⟨g, 0, none⟩) k 8]).run Tryz.prog W = .ok (.int .i64 (k : Int)) W' ∧ IntRow W' g (rep (k + k)) ∧ W.grownBy W' (some g) := by
  have hf : ∀ z ∈ rep k, Fit z := by
    intro z hz
    unfold rep at hz
    rcases List.mem_append.1 hz with h1 | h1
    · rw [List.eq_of_mem_replicate h1]; unfold Fit; omega
    · rw [List.eq_of_mem_replicate h1]; unfold Fit; omega
  have hl : (rep k).length = 8 := by simp [rep]; omega
  have hs := h.sub hf h.lt 0 k (by omega)
  obtain ⟨W', h1, h2, h3, _⟩ := copy_ints W g k (8 - k) (8 - k) W.heap.size (some ⟨g, 0, none⟩) k 8 (rep k) _ h (by omega) hs
  refine ⟨W', ?_, ?_, h3⟩
  · rw [h1]
    rcases hk with rfl | rfl | rfl <;> rfl
  · rcases hk with rfl | rfl | rfl <;> exact h2

set_option maxRecDepth 100000 in
set_option maxHeartbeats 2000000 in
theorem repeat_any (b : Nat) (w : World) (hb : IntRow w b [2]) :
    Calls Tryz.prog 165 #[.slice (some ⟨b, 0, none⟩) 1 1, .int .i64 8] w (RetRow w w8) := by
  have hmk : (Instr.makeSlice 27 (.int .i64 8) (.int .i64 8)).run Tryz.prog w = .ok (.slice (some ⟨w.heap.size, 0, none⟩) 8 8) (w.alloc (.cells (ints (List.replicate 8 0)).toArray 3)) := make_ints 8 (by omega) w
  have hr0 := IntRow.new w (List.replicate 8 0)
  have hi : IntsAt w w.heap.size (some ⟨b, 0, none⟩) 1 [2] := hb.ints (by unfold Fit; simp) hb.lt
  obtain ⟨W1, hcp, hr1, hg1, hz0⟩ := copy_ints (w.alloc (.cells (ints (List.replicate 8 0)).toArray 3)) w.heap.size 0 8 8 w.heap.size (some ⟨b, 0, none⟩) 1 1 (List.replicate 8 0) [2] hr0 (by simp) (hi.below ((Below.refl _ w).alloc (Nat.le_refl _) _) (Nat.le_refl _))
  have HR1 : Hid (IntRow W1 w.heap.size (rep 1)) := hr1
  have HB1 : Hid (Below w.heap.size w W1) := ((Below.refl _ w).alloc (Nat.le_refl _) _).grown hg1 (by simp) (fun k e => by cases e; exact Nat.le_refl _)
  have hcp' : (Builtin.copy_ #[27, 27] 3 #[.slice (some ⟨w.heap.size, 0, none⟩) 8 8, .slice (some ⟨b, 0, none⟩) 1 1]).run Tryz.prog (w.alloc (.cells (ints (List.replicate 8 0)).toArray 3)) = .ok (.int .i64 1) W1 := hcp
  clear hr1 hg1 hz0 hr0 hi hcp hb
  generalize ints (List.replicate 8 0) = Z at *
  go_enter Tryz.func165, Tryz.ntmps165
  go_wp2_with (go_at_call 176; refine (mul_18 _).mono ?_; rintro e w' ⟨rfl, rfl⟩)
  go_loopw [8] (fun j wr => ∃ k : Nat, (k = 1 ∨ k = 2 ∨ k = 4 ∨ k = 8) ∧ j = .int .i64 (k : Int) ∧ IntRow wr w.heap.size (rep k) ∧ Below w.heap.size w wr) (fun j _ => 8 - (intOf j).toNat)
  case atStart => exact ⟨1, by omega, rfl, HR1.out, HB1.out⟩
  case round =>
    obtain ⟨k, hk, rfl, hrow, hb⟩ := hrel
    have HROW := Lib.hid hrow
    have HB := Lib.hid hb
    clear hrow hb hcp' hmk
    by_cases h8 : k = 8
    · subst h8
      rw [show ((8 : Nat) : Int) = 8 from rfl]
      go_wp2
      go_ret
      exact ⟨w.heap.size, Nat.le_refl _, rfl, HROW.out, HB.out⟩
    · have hk3 : k = 1 ∨ k = 2 ∨ k = 4 := by omega
      obtain ⟨W', hc, hr2, hg2⟩ := rep_copy wr.drew w.heap.size k hk3 HROW.out
      have HR2 := Lib.hid hr2
      have HB2 : Hid (Below w.heap.size w W') := (Below.drews HB.out ⟨1, rfl⟩).grown hg2 (by have := HB.out.size; exact this) (fun q e => by cases e; exact Nat.le_refl _)
      clear hr2 hg2
      rcases hk3 with rfl | rfl | rfl
      · rw [show ((1 : Nat) : Int) = 1 from rfl] at hc ⊢
        simp only [Nat.reduceSub] at hc
        go_wp2
        go_region
        all_goals
          go_wp2
          go_roundw
          case rel => exact ⟨2, by omega, rfl, HR2.out, HB2.out⟩
          case measure => simp [intOf]
      · rw [show ((2 : Nat) : Int) = 2 from rfl] at hc ⊢
        simp only [Nat.reduceSub] at hc
        go_wp2
        go_region
        all_goals
          go_wp2
          go_roundw
          case rel => exact ⟨4, by omega, rfl, HR2.out, HB2.out⟩
          case measure => simp [intOf]
      · rw [show ((4 : Nat) : Int) = 4 from rfl] at hc ⊢
        simp only [Nat.reduceSub] at hc
        go_wp2
        go_region
        all_goals
          go_wp2
          go_roundw
          case rel => exact ⟨8, by omega, rfl, HR2.out, HB2.out⟩
          case measure => simp [intOf]

set_option maxRecDepth 100000 in
set_option maxHeartbeats 1000000 in
theorem layout_any (w : World) : Calls Tryz.prog 156 #[] w (RetRow w w8) := by
  have hr := Lib.hid (IntRow.new w [2])
  go_enter Tryz.func156, Tryz.ntmps156
  go_wp2_with fail
  refine (repeat_any w.heap.size _ hr.out).mono ?_
  rintro e w2 ⟨g, hg, rfl, hrow, b2⟩
  have HROW := Lib.hid hrow
  have HB := Lib.hid (((Below.refl _ w).alloc (Nat.le_refl _) (.cells #[.int .i64 2] 3)).trans (b2.mono (by simp)))
  have hg2 : w.heap.size ≤ g := by simp at hg; omega
  clear hrow b2 hg
  go_wp2
  go_ret
  exact ⟨g, hg2, rfl, HROW.out, HB.out⟩
set_option maxRecDepth 100000 in
theorem w8_fit : ∀ z ∈ w8, Fit z := by unfold Fit; decide
end Go.Proofs.YtppbonjhckakiaaGreat.La

namespace Go.Proofs.YtppbonjhckakiaaGreat.La
open Go.RowKit Go.Shelf

set_option maxRecDepth 100000 in
theorem bytes_of_nums : ∀ (bs : List Int), (∀ b ∈ bs, 0 ≤ b ∧ b ≤ 255) → bytesOf (strOfNums bs) = bs := by
  intro bs h
  unfold bytesOf
  rw [strOfNums_data, List.map_map]
  conv => rhs; rw [← List.map_id bs]
  refine List.map_congr_left fun b hb => ?_
  have := h b hb
  simp only [Function.comp, id]
  rw [UInt8.toNat_ofNat']
  omega

def writeL (l : List Int) : ByteArray × Int := if (writeR w8 l).2 = 0 then (padS (strOfNums (writeR w8 l).1) 128, 0) else (⟨#[]⟩, (writeR w8 l).2)
def readL (s : ByteArray) : List Int × Int := if (readR w8 (bytesOf s)).2 = 0 ∧ (writeL (readR w8 (bytesOf s)).1).2 = 0 ∧ (writeL (readR w8 (bytesOf s)).1).1 = s then ((readR w8 (bytesOf s)).1, 0) else ([], 15)
set_option maxRecDepth 100000 in
theorem w8_ok : okTo w8 w8.length = true := by decide
set_option maxRecDepth 100000 in
theorem writeR_which (l : List Int) : (writeR w8 l).2 = 0 ∨ ((writeR w8 l).2 = 1 ∧ l.length ≠ 8) ∨ ((writeR w8 l).2 = 3 ∧ l.length = 8) := by
  by_cases hl : l.length = 8
  · by_cases hf : fitTo w8 l 8 = true
    · left
      rw [writeR_ok w8_ok (by rw [hl]; rfl) hf]
    · right; right
      have : (writeR w8 l).2 = 3 := by
        unfold writeR
        rw [if_pos ⟨w8_ok, by rw [hl]; rfl⟩]
        have e : fitTo w8 l w8.length = false := by
          have : w8.length = 8 := rfl
          rw [this]
          simpa using hf
        simp [e]
      exact ⟨this, hl⟩
  · right; left
    rw [writeR_arg (fun h => hl (by rw [← h.2]; rfl))]
    exact ⟨rfl, hl⟩
set_option maxRecDepth 100000 in
theorem writeR_8 (l : List Int) (h : (writeR w8 l).2 = 0) : (strOfNums (writeR w8 l).1).size = 16 ∧ l.length = 8 := by
  have h1 := (readR_written w8 l [] h).2
  have h2 : sizeS w8 = 16 := by decide
  rw [strOfNums_size]
  refine ⟨by omega, ?_⟩
  rcases writeR_which l with h' | h' | h'
  · apply Classical.byContradiction
    intro hl
    rw [writeR_arg (fun h => hl (by rw [← h.2]; rfl))] at h
    cases h
  · omega
  · exact h'.2
set_option maxRecDepth 100000 in
theorem bytes_pad (s : ByteArray) (n : Nat) : bytesOf (padS s n) = bytesOf s ++ List.replicate (n - s.size) 0 := by
  simp [bytesOf, padS]
set_option maxRecDepth 100000 in
theorem read_back (l : List Int) (h : (writeL l).2 = 0) : readL (writeL l).1 = (l, 0) := by
  have hw : (writeR w8 l).2 = 0 := by
    unfold writeL at h
    split at h
    · assumption
    · exact h
  have e1 : writeL l = (padS (strOfNums (writeR w8 l).1) 128, 0) := by unfold writeL; rw [if_pos hw]
  have hr : readR w8 (bytesOf (writeL l).1) = (l, 0) := by
    rw [e1, bytes_pad, bytes_of_nums _ (writeR_bytes w8 l)]
    exact (readR_written w8 l _ hw).1
  unfold readL
  rw [hr]
  simp only
  rw [if_pos ⟨trivial, h, trivial⟩]
set_option maxRecDepth 100000 in
theorem write_back (s : ByteArray) (h : (readL s).2 = 0) : writeL (readL s).1 = (s, 0) := by
  unfold readL at h ⊢
  split at h
  · rename_i hh
    rw [if_pos hh]
    exact Prod.ext hh.2.2 hh.2.1
  · cases h
set_option maxRecDepth 100000 in
theorem readL_len (s : ByteArray) : (readL s).1.length ≤ 8 := by
  unfold readL
  split
  · show (readR w8 (bytesOf s)).1.length ≤ 8
    unfold readR
    split
    · split
      · simp
      · show (readTo w8 (bytesOf s) w8.length).length ≤ 8
        rw [readTo_len]
        decide
    · simp
  · simp
set_option maxRecDepth 100000 in
theorem readR_len8 (bs : List Int) : (readR w8 bs).1.length ≤ 8 := by
  unfold readR
  split
  · split
    · simp
    · show (readTo w8 bs w8.length).length ≤ 8
      rw [readTo_len]
      decide
  · simp
set_option maxRecDepth 100000 in
theorem writeL_size (l : List Int) : (writeL l).1.size ≤ 128 := by
  unfold writeL
  split
  · rename_i h
    have h16 := (writeR_8 l h).1
    show (padS (strOfNums (writeR w8 l).1) 128).size ≤ 128
    generalize strOfNums (writeR w8 l).1 = st at *
    have e : (padS st 128).size = st.data.toList.length + (128 - st.size) := by show ((st.data.toList ++ List.replicate (128 - st.size) 0).toArray).size = _; simp
    have e2 : st.data.toList.length = st.size := by rw [Array.length_toList]; rfl
    omega
  · show (⟨#[]⟩ : ByteArray).size ≤ 128
    exact Nat.zero_le _

set_option maxRecDepth 100000 in
set_option maxHeartbeats 2000000 in
theorem lwrite_any (A : Option Addr) (n c B : Nat) (l : List Int) (w : World) (hr : IntsAt w B A n l) (hB : B ≤ w.heap.size) (hn : n ≤ 20000000000000) :
    Calls Tryz.prog 116 #[.slice A n c] w fun e w' => e = .returned (.tuple #[.string (writeL l).1, .int .i64 (writeL l).2]) ∧ Below w.heap.size w w' := by
  have HA := Lib.hid hr
  clear hr
  have hwh := writeR_which l
  by_cases h0 : (writeR w8 l).2 = 0
  · have e1 : writeL l = (padS (strOfNums (writeR w8 l).1) 128, 0) := by unfold writeL; rw [if_pos h0]
    have hsz := (writeR_8 l h0).1
    obtain ⟨st, hst⟩ : ∃ st, strOfNums (writeR w8 l).1 = st := ⟨_, rfl⟩
    rw [hst] at e1 hsz
    obtain ⟨ps, hps⟩ : ∃ ps, padS st 128 = ps := ⟨_, rfl⟩
    rw [hps] at e1
    have HST := Lib.hid hst
    have HPS := Lib.hid hps
    have H0 := Lib.hid h0
    rw [e1]
    simp only
    clear hst hps h0 e1 hwh
    go_enter Tryz.func116, Tryz.ntmps116
    go_wp2_with fail
    refine (layout_any w).mono ?_
    rintro e w1 ⟨g, hg, rfl, hrow, b1⟩
    have hA1 := HA.out.below b1 hB
    have hz1 := b1.size
    rw [show w8.length = 8 from rfl]
    go_wp2_with fail
    refine (write_any (some ⟨g, 0, none⟩) A 8 8 n c w1.heap.size w8 l w1 (hrow.ints w8_fit hrow.lt) (hA1.more (by omega)) (Nat.le_refl _) (by omega) hn).mono ?_
    rintro e w2 ⟨rfl, b2⟩
    rw [H0.out, HST.out]
    have HB2 := Lib.hid (b1.trans (b2.mono hz1))
    clear b1 b2 hA1 hrow
    go_wp2_with fail
    refine (pad_any st 128 w2 (by omega) (by omega)).mono ?_
    rintro e w3 ⟨rfl, b3⟩
    rw [padR_ok (by omega) (by omega)]
    have HB3 := Lib.hid (HB2.out.trans (b3.mono HB2.out.size))
    clear b3
    rw [show (128 : Int).toNat = 128 from rfl, HPS.out]
    go_wp2
    go_ret2
    exact ⟨rfl, HB3.out⟩
  · have e1 : writeL l = (⟨#[]⟩, (writeR w8 l).2) := by unfold writeL; rw [if_neg h0]
    obtain ⟨er, her⟩ : ∃ er, (writeR w8 l).2 = er := ⟨_, rfl⟩
    rw [her] at e1 h0
    have hne : (er != 0) = true := bne_iff_ne.2 h0
    have HER := Lib.hid her
    rw [e1]
    simp only
    clear her e1 h0 hwh
    go_enter Tryz.func116, Tryz.ntmps116
    go_wp2_with fail
    refine (layout_any w).mono ?_
    rintro e w1 ⟨g, hg, rfl, hrow, b1⟩
    have hA1 := HA.out.below b1 hB
    have hz1 := b1.size
    rw [show w8.length = 8 from rfl]
    go_wp2_with fail
    refine (write_any (some ⟨g, 0, none⟩) A 8 8 n c w1.heap.size w8 l w1 (hrow.ints w8_fit hrow.lt) (hA1.more (by omega)) (Nat.le_refl _) (by omega) hn).mono ?_
    rintro e w2 ⟨rfl, b2⟩
    rw [HER.out]
    have HB2 := Lib.hid (b1.trans (b2.mono hz1))
    clear b1 b2 hA1 hrow
    generalize strOfNums (writeR w8 l).1 = st at *
    go_wp2
    go_ret2
    exact ⟨rfl, HB2.out⟩

set_option maxRecDepth 100000 in
theorem pad_append (s : ByteArray) : s ++ (⟨(List.replicate (128 - s.size) (0 : UInt8)).toArray⟩ : ByteArray) = padS s 128 := by
  apply ByteArray.ext
  apply Array.ext'
  simp [padS]

set_option maxRecDepth 100000 in
set_option maxHeartbeats 2000000 in
theorem whole_any (s : ByteArray) (w : World) (hs : s.size = 16) :
    Calls Tryz.prog 60 #[.string s] w fun e w' => e = .returned (.string (padS s 128)) ∧ Below w.heap.size w w' := by
  have HP := Lib.hid (pad_append s)
  have HZ := Lib.hid (zeros_any 112 w (by omega))
  rw [show ((112 : Nat) : Int) = 112 from rfl] at HZ
  have hs' : (s.size : Int) = 16 := by omega
  rw [hs, show 128 - 16 = 112 from rfl] at HP
  obtain ⟨zz, hzz⟩ : ∃ zz, (⟨(List.replicate 112 (0 : UInt8)).toArray⟩ : ByteArray) = zz := ⟨_, rfl⟩
  have hz2 : zz.size = 112 := by rw [← hzz]; show ((List.replicate 112 (0 : UInt8)).toArray).size = 112; simp
  rw [hzz] at HP HZ
  rw [← HP.out]
  clear hzz
  have HX : Hid (s.extract 0 16 = s) := by
    show _ = _
    rw [← hs]
    exact ByteArray.extract_zero_size
  go_enter Tryz.func60, Tryz.ntmps60
  go_wp2_with fail
  simp only [show (min (16 : Int) 128).toNat = 16 from rfl, show min 16 16 = 16 from rfl, HX.out, show (128 - ((16 : Nat) : Int) : Int) = 112 from rfl]
  refine HZ.out.mono ?_
  rintro e w1 ⟨rfl, b1⟩
  have HB := Lib.hid b1
  clear b1
  go_wp2
  go_ret
  exact ⟨rfl, HB.out⟩

set_option maxRecDepth 100000 in
theorem readL_ok {s : ByteArray} (h1 : (readR w8 (bytesOf s)).2 = 0) (h2 : (writeL (readR w8 (bytesOf s)).1).2 = 0) (h3 : (writeL (readR w8 (bytesOf s)).1).1 = s) : readL s = ((readR w8 (bytesOf s)).1, 0) := by unfold readL; rw [if_pos ⟨h1, h2, h3⟩]
set_option maxRecDepth 100000 in
theorem readL_bad {s : ByteArray} (h : ¬ ((readR w8 (bytesOf s)).2 = 0 ∧ (writeL (readR w8 (bytesOf s)).1).2 = 0 ∧ (writeL (readR w8 (bytesOf s)).1).1 = s)) : readL s = ([], 15) := by unfold readL; rw [if_neg h]

set_option maxRecDepth 100000 in
theorem str_ne {a b : ByteArray} (h : a ≠ b) : (a.toList == b.toList) = false := by
  refine beq_false_of_ne (fun e => h ?_)
  rw [ByteArray.toList_eq, ByteArray.toList_eq] at e
  apply ByteArray.ext
  exact Array.toList_inj.1 e
/-- the answer of Read. -/
def RetRead (w : World) (s : ByteArray) (e : Ending) (w' : World) : Prop := ∃ A n c, e = .returned (.tuple #[.slice A n c, .int .i64 (readL s).2]) ∧ IntsAt w' w'.heap.size A n (readL s).1 ∧ Below w.heap.size w w'

set_option maxRecDepth 100000 in
set_option maxHeartbeats 4000000 in
theorem lread_any (s : ByteArray) (w : World) (hs : s.size ≤ 140737488355328) : Calls Tryz.prog 162 #[.string s] w (RetRead w s) := by
  have HOK := Lib.hid (@readL_ok s)
  have HBAD := Lib.hid (@readL_bad s)
  have HL8 := Lib.hid (readR_len8 (bytesOf s))
  go_enter Tryz.func162, Tryz.ntmps162
  go_wp2_with fail
  refine (layout_any w).mono ?_
  rintro e w1 ⟨g, hg, rfl, hrow, b1⟩
  have hz1 := b1.size
  rw [show w8.length = 8 from rfl]
  go_wp2_with fail
  refine (read_any (some ⟨g, 0, none⟩) 8 8 w1.heap.size w8 s w1 (hrow.ints w8_fit hrow.lt) (Nat.le_refl _) (by omega) (by omega)).mono ?_
  rintro e w2 ⟨A, n, c, rfl, -, hi, b2⟩
  have HB2 := Lib.hid (b1.trans (b2.mono hz1))
  have HI := Lib.hid hi
  have hn : n ≤ 8 := by rw [← hi.len]; exact HL8.out
  clear b1 b2 hi hrow
  by_cases h0 : (readR w8 (bytesOf s)).2 = 0
  · rw [h0]
    generalize hrr : (readR w8 (bytesOf s)).1 = rr at *
    go_wp2_with fail
    refine (lwrite_any A n c w2.heap.size rr w2 HI.out (Nat.le_refl _) (by omega)).mono ?_
    rintro e w3 ⟨rfl, b3⟩
    have HI3 := Lib.hid ((HI.out.below b3 (Nat.le_refl _)).more b3.size)
    have HB3 := Lib.hid (HB2.out.trans (b3.mono HB2.out.size))
    clear b3
    by_cases h1 : (writeL rr).2 = 0
    · by_cases h2 : (writeL rr).1 = s
      · have HR : Hid (readL s = (rr, 0)) := HOK.out h0 h1 h2
        have HFIN : Hid (RetRead w s (.returned (.tuple #[.slice A n c, .int .i64 0])) w3) := by
          unfold RetRead
          show ∃ _, _
          rw [HR.out]
          exact ⟨A, n, c, rfl, HI3.out, HB3.out⟩
        rw [h1, h2]
        clear h0 h1 h2 HOK HBAD hrr
        go_wp2
        go_ret2
        exact HFIN.out
      · have HR : Hid (readL s = ([], 15)) := HBAD.out (fun h => h2 h.2.2)
        have HFIN : Hid (RetRead w s (.returned (.tuple #[.slice none 0 0, .int .i64 15])) w3) := by
          unfold RetRead
          show ∃ _, _
          rw [HR.out]
          exact ⟨none, 0, 0, rfl, IntsAt.nil _ _ _, HB3.out⟩
        have h2' : ((writeL rr).1.toList == s.toList) = false := str_ne h2
        rw [h1]
        clear h0 h1 HOK HBAD hrr
        generalize (writeL rr).1 = tt at *
        go_wp2
        go_ret2
        exact HFIN.out
    · have HR : Hid (readL s = ([], 15)) := HBAD.out (fun h => h1 h.2.1)
      have HFIN : Hid (RetRead w s (.returned (.tuple #[.slice none 0 0, .int .i64 15])) w3) := by
        unfold RetRead
        show ∃ _, _
        rw [HR.out]
        exact ⟨none, 0, 0, rfl, IntsAt.nil _ _ _, HB3.out⟩
      have h1' : ((writeL rr).2 != 0) = true := bne_iff_ne.2 h1
      clear h0 HOK HBAD hrr
      generalize (writeL rr).1 = tt at *
      generalize (writeL rr).2 = er at *
      go_wp2
      go_ret2
      exact HFIN.out
  · have HR : Hid (readL s = ([], 15)) := HBAD.out (fun h => h0 h.1)
    have HFIN : Hid (RetRead w s (.returned (.tuple #[.slice none 0 0, .int .i64 15])) w2) := by
      unfold RetRead
      show ∃ _, _
      rw [HR.out]
      exact ⟨none, 0, 0, rfl, IntsAt.nil _ _ _, HB2.out⟩
    have h0' : ((readR w8 (bytesOf s)).2 != 0) = true := bne_iff_ne.2 h0
    clear HOK HBAD
    generalize (readR w8 (bytesOf s)).2 = er at *
    go_wp2
    go_ret2
    exact HFIN.out

end Go.Proofs.YtppbonjhckakiaaGreat.La
