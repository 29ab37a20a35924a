/-
  WALK: the reference Whole. Condition: a string of at most 9223372036854775807 bytes.
  WALKS: within, isNode, Right and the reference's Right tell whether a crown is valid. Conditions: integers of an int64.
  WALKS: widths, Write and the reference's Write return a crown's block, or that it may not be. Conditions: integers of an int64.
  WALK: the reference's Write returns a crown's block, or that it may not be. Conditions: integers of an int64.
  WALKS: strings.CutPrefix and what it calls, where the word of a crown is cut. Condition: a string of at most 140737488355328 bytes.
  PLAIN MATHEMATICS of a crown's block: the crown of any bytes, and back. No condition.
  WALK: Read returns the crown whose block a text is, or that it is none's. Condition: a string of at most 140737488355328 bytes.
  WALK: the reference's Read returns the crown whose block a text is, or that it is none's. Condition: a string of at most 140737488355328 bytes.
  WALKS: Card, Format and the reference's Format, Owned. Conditions: integers of an int64.
-/
import Derived.Test.YtgdlfiejjnjcpaaGreatBM
import Derived.Deep.RegionHeld3
import Derived.Deep.CutRange
import Derived.BigRegion
import Derived.BigQuiet
import Derived.Deep.DeepMust
import Derived.Deep.DeepFit
namespace Go.Proofs.YtgdlfiejjnjcpaaGreat.Kr
open Go.RowKit

/-- a block: the first 128 bytes, and bytes 0 behind them. -/
def wholeS (s : ByteArray) : ByteArray := padS (s.extract 0 (min s.size 128)) 128

set_option maxHeartbeats 1000000 in
theorem whole_any (s : ByteArray) (w : World) (hs : s.size ≤ 9223372036854775807) :
    Calls Tryz.prog 59 #[.string s] w fun e w' => e = .returned (.string (wholeS s)) ∧ Below w.heap.size w w' := by
  obtain ⟨m, hm⟩ : ∃ m : Nat, m = min s.size 128 := ⟨_, rfl⟩
  have hsz : (s.extract 0 m).size = m := by rw [ByteArray.size_extract]; omega
  have HW : Hid (wholeS s = s.extract 0 m ++ (⟨(List.replicate (128 - m) (0 : UInt8)).toArray⟩ : ByteArray)) := by
    show _ = _
    unfold wholeS
    rw [← hm, ← pad_add, hsz]
  have HR : Hid ((⟨(List.replicate (128 - m) (0 : UInt8)).toArray⟩ : ByteArray).size ≤ 1000) := by
    show (List.replicate (128 - m) (0 : UInt8)).toArray.size ≤ 1000
    simp; omega
  have hm1 : m ≤ 128 := by omega
  have hm2 : m ≤ s.size := by omega
  have hmt : (min (s.size : Int) 128).toNat = m := by omega
  have hmm : (128 - ((min m s.size : Nat) : Int)) = ((128 - m : Nat) : Int) := by omega
  have HM := Lib.hid hmt
  have HMM := Lib.hid hmm
  have HS2 := Lib.hid hsz
  clear hm hmt hmm hsz
  go_enter Tryz.func59, Tryz.ntmps59
  go_wp2_with fail
  simp only [HM.out, HMM.out]
  refine (zeros_any (128 - m) w (by omega)).mono ?_
  rintro e w1 ⟨rfl, hb1⟩
  generalize (⟨(List.replicate (128 - m) (0 : UInt8)).toArray⟩ : ByteArray) = Z at *
  have hZ := HR.out
  have hS2 : (s.extract 0 m).size ≤ 128 := by rw [HS2.out]; omega
  generalize s.extract 0 m = S at *
  go_wp2
  go_ret
  exact ⟨by rw [HW.out]; rfl, hb1⟩
end Go.Proofs.YtgdlfiejjnjcpaaGreat.Kr

namespace Go.Proofs.YtgdlfiejjnjcpaaGreat.Kr
open Go.RowKit

/-- An integer of an int64. -/
def I64 (n : Int) : Prop := -9223372036854775808 ≤ n ∧ n ≤ 9223372036854775807
/-- A crown's value, and the cells of its box. -/
def crv (f b c : Int) : Value := .agg #[.int .i64 f, .int .i64 b, .int .i64 c]
def cells3 (f b c : Int) : Array Value := #[.int .i64 f, .int .i64 b, .int .i64 c]
def inB (n a b : Int) : Bool := decide (a ≤ n) && decide (n ≤ b)
def rightK (f b c : Int) : Bool :=
  inB b 64 400 && (if f = 1 ∨ f = 2 then decide (c = 0) else if f = 3 ∨ f = 4 then inB c 0 32 else false)

theorem inB_t {n a b : Int} (h : inB n a b = true) : a ≤ n ∧ n ≤ b := by simpa [inB] using h
theorem inB_f {n a b : Int} (h : inB n a b = false) : n < a ∨ b < n := by
  simp only [inB, Bool.and_eq_false_iff, decide_eq_false_iff_not] at h
  omega
theorem rightK_b {f b c : Int} (h : inB b 64 400 = false) : rightK f b c = false := by simp [rightK, h]
theorem rightK_12 {f b c : Int} (h : inB b 64 400 = true) (hf : f = 1 ∨ f = 2) : rightK f b c = decide (c = 0) := by simp [rightK, h, hf]
theorem rightK_34 {f b c : Int} (h : inB b 64 400 = true) (hf : f = 3 ∨ f = 4) : rightK f b c = inB c 0 32 := by
  unfold rightK
  rw [h, if_neg (by omega), if_pos hf]; rfl
theorem rightK_no {f b c : Int} (hf : ¬ (f = 1 ∨ f = 2)) (hf' : ¬ (f = 3 ∨ f = 4)) : rightK f b c = false := by
  unfold rightK
  rw [if_neg hf, if_neg hf', Bool.and_false]
theorem rightK_t {f b c : Int} (h : rightK f b c = true) : 64 ≤ b ∧ b ≤ 400 ∧ ((f = 1 ∨ f = 2) ∧ c = 0 ∨ (f = 3 ∨ f = 4) ∧ 0 ≤ c ∧ c ≤ 32) := by
  unfold rightK at h
  rw [Bool.and_eq_true] at h
  have hb := inB_t h.1
  refine ⟨hb.1, hb.2, ?_⟩
  have h2 := h.2
  split at h2
  · rename_i h3; left; exact ⟨h3, by simpa using h2⟩
  · split at h2
    · rename_i h4; right; exact ⟨h4, inB_t h2⟩
    · cases h2

theorem within_is (R : Bool) (n a b : Int) (w : World) (h : inB n a b = R) :
    Calls Tryz.prog 81 #[.int .i64 n, .int .i64 a, .int .i64 b] w fun e w' => e = .returned (.bool R) ∧ w = w' := by
  cases R with
  | true =>
    have := inB_t h
    go_enter Tryz.func81, Tryz.ntmps81
    go_wp2
    go_ret
    exact ⟨ret_bool (by first | (simp; omega) | simp), rfl⟩
  | false =>
    have := inB_f h
    by_cases h1 : a ≤ n
    · go_enter Tryz.func81, Tryz.ntmps81
      go_wp2
      go_ret
      exact ⟨ret_bool (by simp; omega), rfl⟩
    · go_enter Tryz.func81, Tryz.ntmps81
      go_wp2
      go_ret
      exact ⟨rfl, rfl⟩

set_option maxHeartbeats 1000000 in
theorem right_any (f b c : Int) (R : Bool) (w : World) (hR : rightK f b c = R) :
    Calls Tryz.prog 80 #[crv f b c] w fun e w' => e = .returned (.bool R) ∧ w' = w.alloc (.cells (cells3 f b c) 62) := by
  unfold crv cells3
  cases hb : inB b 64 400 with
  | false =>
    have HW := Lib.hid (fun w => within_is _ b 64 400 w hb)
    have HR := Lib.hid (hR.symm.trans (rightK_b hb))
    clear hb hR
    go_enter Tryz.func80, Tryz.ntmps80
    go_wp2_with fail
    refine (HW.out _).mono ?_
    rintro e w' ⟨rfl, rfl⟩
    go_wp2
    go_ret
    exact ⟨ret_bool HR.out.symm, rfl⟩
  | true =>
    have HW := Lib.hid (fun w => within_is _ b 64 400 w hb)
    by_cases h12 : f = 1 ∨ f = 2
    · have HR := Lib.hid (hR.symm.trans (rightK_12 hb h12))
      clear hb hR
      rcases h12 with rfl | rfl
      all_goals
        go_enter Tryz.func80, Tryz.ntmps80
        go_wp2_with fail
        refine (HW.out _).mono ?_
        rintro e w' ⟨rfl, rfl⟩
        go_wp2
        go_ret
        exact ⟨ret_bool (by rw [HR.out]; rfl), rfl⟩
    · by_cases h34 : f = 3 ∨ f = 4
      · have HR := Lib.hid (hR.symm.trans (rightK_34 hb h34))
        have HC := Lib.hid (fun w => within_is _ c 0 32 w HR.out.symm)
        clear hb hR h12
        rcases h34 with rfl | rfl
        all_goals
          go_enter Tryz.func80, Tryz.ntmps80
          go_wp2_with fail
          refine (HW.out _).mono ?_
          rintro e w' ⟨rfl, rfl⟩
          go_wp2_with fail
          refine (HC.out _).mono ?_
          rintro e w' ⟨rfl, rfl⟩
          go_wp2
          go_ret
          exact ⟨rfl, rfl⟩
      · have HR := Lib.hid (hR.symm.trans (rightK_no h12 h34))
        have d1 : (f == 1) = false := by simp; omega
        have d2 : (f == 2) = false := by simp; omega
        have d3 : (f == 3) = false := by simp; omega
        have d4 : (f == 4) = false := by simp; omega
        clear hb hR h12 h34
        go_enter Tryz.func80, Tryz.ntmps80
        go_wp2_with fail
        refine (HW.out _).mono ?_
        rintro e w' ⟨rfl, rfl⟩
        go_wp2
        go_ret
        exact ⟨ret_bool HR.out.symm, rfl⟩

end Go.Proofs.YtgdlfiejjnjcpaaGreat.Kr

namespace Go.Proofs.YtgdlfiejjnjcpaaGreat.Kr
open Go.RowKit

def wordB : ByteArray := { data := #[119, 97, 105, 110, 119, 114, 105, 103, 104, 116] }
/-- The bytes of a crown's numbers, and its block. -/
def bytesK (f b c : Int) : ByteArray := strOfNums (writeR [1, 2, 1] [f, b, c]).1
def blockK (f b c : Int) : ByteArray := padS (wordB ++ bytesK f b c) 128
def writeK (f b c : Int) : ByteArray × Int := if rightK f b c = true then (blockK f b c, 0) else (⟨#[]⟩, 1)
theorem writeK_ok {f b c : Int} (h : rightK f b c = true) : writeK f b c = (blockK f b c, 0) := by unfold writeK; rw [if_pos h]
theorem writeK_no {f b c : Int} (h : rightK f b c = false) : writeK f b c = (⟨#[]⟩, 1) := by unfold writeK; rw [if_neg (by rw [h]; decide)]

theorem ok121 : okTo [1, 2, 1] 3 = true := by decide
theorem fit121 {f b c : Int} (h : rightK f b c = true) : fitTo [1, 2, 1] [f, b, c] 3 = true := by
  obtain ⟨h1, h2, h3⟩ := rightK_t h
  have e1 : fitB f 1 = true := by unfold fitB; rw [decide_eq_true_eq]; unfold mostOf; simp; omega
  have e2 : fitB b 2 = true := by unfold fitB; rw [decide_eq_true_eq]; unfold mostOf; simp; omega
  have e3 : fitB c 1 = true := by unfold fitB; rw [decide_eq_true_eq]; unfold mostOf; simp; omega
  simp [fitTo, List.getD, e1, e2, e3]
theorem writeR_k {f b c : Int} (h : rightK f b c = true) : writeR [1, 2, 1] [f, b, c] = (encTo [1, 2, 1] [f, b, c] 3, 0) :=
  writeR_ok ok121 rfl (fit121 h)
theorem encTo_k (f b c : Int) : encTo [1, 2, 1] [f, b, c] 3 = [f % 256, b % 256, b / 256 % 256, c % 256] := by
  simp [encTo, encF, List.getD]
theorem strOf_len (l : List Int) : (strOfNums l).size = l.length := by
  simp [strOfNums, ByteArray.size]
theorem bytesK_size {f b c : Int} (h : rightK f b c = true) : (bytesK f b c).size = 4 := by
  unfold bytesK; rw [writeR_k h, encTo_k, strOf_len]; rfl
theorem word_size : wordB.size = 10 := rfl
theorem head_size {f b c : Int} (h : rightK f b c = true) : (wordB ++ bytesK f b c).size = 14 := by
  rw [ByteArray.size_append, bytesK_size h]; rfl
theorem size_padS (s : ByteArray) (n : Nat) (h : s.size ≤ n) : (padS s n).size = n := by
  show (s.data.toList ++ List.replicate (n - s.size) 0).toArray.size = n
  have : s.data.toList.length = s.size := by simp
  rw [List.size_toArray, List.length_append, List.length_replicate, this]; omega
theorem blockK_size {f b c : Int} (h : rightK f b c = true) : (blockK f b c).size = 128 := size_padS _ _ (by rw [head_size h]; omega)
theorem padR_k {f b c : Int} (h : rightK f b c = true) : padR (wordB ++ bytesK f b c) 128 = (blockK f b c, 0) := by
  rw [padR_ok (by omega) (by rw [head_size h]; omega)]; rfl
theorem whole_k {f b c : Int} (h : rightK f b c = true) : wholeS (wordB ++ bytesK f b c) = blockK f b c := by
  unfold wholeS blockK
  have hs := head_size h
  generalize wordB ++ bytesK f b c = s at *
  have e : s.extract 0 (min s.size 128) = s := by
    rw [hs]
    apply ByteArray.ext
    rw [ByteArray.data_extract]
    have : s.data.size = 14 := hs
    rw [show min 14 128 = s.data.size by omega]
    simp
  rw [e]

theorem cell_new (w : World) (cs : Array Value) (t : TypeId) (k : Nat) {v : Value} (h : cs[k]? = some v) : (w.alloc (.cells cs t)).cell? ⟨w.heap.size, k, none⟩ = some v := by
  unfold World.cell?
  rw [heap_alloc_new]
  simpa using h
theorem cells_new {w : World} (f b c : Int) : (w.alloc (.cells (cells3 f b c) 62)).heap[w.heap.size]? = some (.cells (cells3 f b c) 62 (0, 0)) := heap_alloc_new w _
/-- A crown's box, in block g. -/
def KRow (W : World) (g : Nat) (f b c : Int) : Prop := W.cell? ⟨g, 0, none⟩ = some (.int .i64 f) ∧ W.cell? ⟨g, 1, none⟩ = some (.int .i64 b) ∧ W.cell? ⟨g, 2, none⟩ = some (.int .i64 c)
theorem KRow.new (w : World) (f b c : Int) : KRow (w.alloc (.cells (cells3 f b c) 62)) w.heap.size f b c := by
  refine ⟨?_, ?_, ?_⟩ <;> exact cell_new w _ 62 _ rfl
theorem KRow.below {w w' : World} {g C : Nat} {f b c : Int} (h : KRow w g f b c) (hb : Below C w w') (hg : g < C) : KRow w' g f b c :=
  ⟨(hb.cell (p := ⟨g, 0, none⟩) hg).trans h.1, (hb.cell (p := ⟨g, 1, none⟩) hg).trans h.2.1, (hb.cell (p := ⟨g, 2, none⟩) hg).trans h.2.2⟩

theorem ints_new {w : World} (zs : List Int) (hz : ∀ z ∈ zs, I64 z) : IntsAt (w.alloc (.cells (zs.map (Value.int .i64)).toArray 3)) (w.heap.size + 1) (some ⟨w.heap.size, 0, none⟩) zs.length zs := by
  refine ⟨rfl, hz, fun k hk => ⟨_, _, rfl, by omega, ?_⟩⟩
  rw [Nat.zero_add]
  refine cell_new w _ 3 k ?_
  simp [List.getD, hk]

/-- an answer that is the slice of the widths. -/
def RetWd (w : World) (e : Ending) (w' : World) : Prop := ∃ A c, e = .returned (.slice A 3 c) ∧ IntsAt w' w'.heap.size A 3 [1, 2, 1] ∧ Below w.heap.size w w'
theorem widths_any (w : World) : Calls Tryz.prog 91 #[] w fun e w' => RetWd w e w' := by
  have HI := Lib.hid (ints_new (w := w) [1, 2, 1] (by intro z hz; simp at hz; unfold I64; omega))
  go_enter Tryz.func91, Tryz.ntmps91
  go_wp2
  go_ret
  exact ⟨_, _, rfl, HI.out.more (by simp), (Below.refl _ _).alloc (Nat.le_refl _) _⟩

theorem size_al (w : World) (o : Obj) : (w.alloc o).heap.size = w.heap.size + 1 := by simp
theorem al_size (w : World) (o : Obj) : w.heap.size ≤ (w.alloc o).heap.size := by simp
theorem KRow.al {w : World} {g : Nat} {f b c : Int} (h : KRow w g f b c) (hg : g < w.heap.size) (o : Obj) : KRow (w.alloc o) g f b c := h.below ((Below.refl _ w).alloc (Nat.le_refl _) o) hg
theorem Below.dr {B : Nat} {a b : World} (h : Below B a b) : Below B a b.drew := ⟨h.os, h.tape, h.output, h.size, h.block⟩
theorem Below.und {B : Nat} {a b : World} (h : Below B a.drew b) : Below B a b := ⟨h.os, h.tape, h.output, h.size, h.block⟩
theorem KRow.dr {W : World} {g : Nat} {f b c : Int} (h : KRow W g f b c) : KRow W.drew g f b c := h
theorem IntsAt.dr {w : World} {B n : Nat} {A : Option Addr} {l : List Int} (h : IntsAt w B A n l) : IntsAt w.drew B A n l := h.keep fun _ _ => rfl
theorem right_i64 {f b c : Int} (h : rightK f b c = true) : ∀ z ∈ [f, b, c], I64 z := by
  have := rightK_t h
  intro z hz
  simp at hz
  unfold I64
  omega

set_option maxHeartbeats 2000000 in
theorem write10_any (f b c : Int) (w : World) :
    Calls Tryz.prog 57 #[crv f b c] w fun e w' => e = .returned (.tuple #[.string (writeK f b c).1, .int .i64 (writeK f b c).2]) ∧ Below w.heap.size w w' := by
  have HRT := Lib.hid (fun v => right_any f b c _ v rfl)
  have HB1 : Hid (Below w.heap.size w (w.alloc (.cells (cells3 f b c) 62))) := (Below.refl _ _).alloc (Nat.le_refl _) _
  have HB2 : Hid (Below w.heap.size w ((w.alloc (.cells (cells3 f b c) 62)).alloc (.cells (cells3 f b c) 62))) := HB1.out.alloc (by simp) _
  have HROW : Hid (KRow ((w.alloc (.cells (cells3 f b c) 62)).alloc (.cells (cells3 f b c) 62)) w.heap.size f b c) := (KRow.new w f b c).below ((Below.refl _ _).alloc (Nat.le_refl _) _) (by simp)
  cases hr : rightK f b c with
  | false =>
    have HW := Lib.hid (writeK_no hr)
    rw [hr] at HRT
    generalize writeK f b c = wc at *
    unfold crv cells3 at *
    clear hr HROW
    go_enter Tryz.func57, Tryz.ntmps57
    go_wp2_with fail
    refine (HRT.out _).mono ?_
    rintro e w2 ⟨rfl, rfl⟩
    go_wp2
    go_ret2
    rw [HW.out]
    exact ⟨rfl, HB2.out⟩
  | true =>
    have HW := Lib.hid (writeK_ok hr)
    have HWR : Hid (writeR [1, 2, 1] [f, b, c] = ((writeR [1, 2, 1] [f, b, c]).1, 0)) := by show _ = _; rw [writeR_k hr]
    have HBC : Hid (strOfNums (writeR [1, 2, 1] [f, b, c]).1 = bytesK f b c) := by show _ = _; rfl
    have HPAD := Lib.hid (padR_k hr)
    have HHS := Lib.hid (head_size hr)
    have HI : Hid (∀ v : World, IntsAt (v.alloc (.cells #[.int .i64 f, .int .i64 b, .int .i64 c] 3)) (v.heap.size + 1) (some ⟨v.heap.size, 0, none⟩) 3 [f, b, c]) := fun v => ints_new [f, b, c] (right_i64 hr)
    have hbs := bytesK_size hr
    have hws := word_size
    rw [hr] at HRT
    generalize writeK f b c = wc at *
    unfold crv cells3 at *
    clear hr
    go_enter Tryz.func57, Tryz.ntmps57
    go_wp2_with fail
    refine (HRT.out _).mono ?_
    rintro e w2 ⟨rfl, h2⟩
    rw [← h2] at HB2 HROW
    have hg2 : w.heap.size < w2.heap.size := by rw [h2]; simp; omega
    clear h2 HB1 HRT
    have HB2d := Lib.hid (Below.dr HB2.out)
    have hws2 := HB2.out.size
    have S2 := Lib.hid HROW.out
    have HB2b := Lib.hid (HB2.out.alloc hws2 (.cells #[.int .i64 f, .int .i64 b, .int .i64 c] 3))
    have hws2b := HB2b.out.size
    have hg2b : w.heap.size < (w2.alloc (.cells #[.int .i64 f, .int .i64 b, .int .i64 c] 3)).heap.size := Nat.lt_of_lt_of_le hg2 (al_size w2 (.cells #[.int .i64 f, .int .i64 b, .int .i64 c] 3))
    have S2b := Lib.hid (KRow.al S2.out hg2 (.cells #[.int .i64 f, .int .i64 b, .int .i64 c] 3))
    go_upto_region 3 with fail
    go_region_held3 (fun v' => v'.cell? ⟨w.heap.size, 0, none⟩ = some (.int .i64 f) ∧ v'.cell? ⟨w.heap.size, 1, none⟩ = some (.int .i64 b) ∧ v'.cell? ⟨w.heap.size, 2, none⟩ = some (.int .i64 c))
      (first | exact S2.out | exact S2b.out | exact S5.out | exact S3a.out | exact S3.out)
      (first
        | (go_at_call 90; go_must (go_fit (write_any A3 _ 3 c3 3 3 _ [1, 2, 1] [f, b, c] _ i3a.out v3a.out (Nat.le_refl _) (by omega) (by omega)))
           rintro e w5 ⟨rfl, b5⟩
           have HB5 := Lib.hid (HB3a.out.trans (b5.mono HB3a.out.size))
           have S5 := Lib.hid (KRow.below S3a.out b5 hg3a)
           clear b5)
        | (go_at_call 91; go_must (go_fit (widths_any _))
           rintro e w3 ⟨A3, c3, rfl, i3, b3⟩
           first
             | (have HB3 := Lib.hid (HB2.out.trans (Below.und (b3.mono hws2)))
                have S3 := Lib.hid (KRow.below (w' := w3) S2.out.dr b3 hg2)
                have hg3 := Nat.lt_of_lt_of_le hg2 b3.size
                have hg3a := Nat.lt_of_lt_of_le hg3 (al_size w3 (.cells #[.int .i64 f, .int .i64 b, .int .i64 c] 3))
                have HB3a := Lib.hid (HB3.out.alloc (Nat.le_trans hws2 b3.size) (.cells #[.int .i64 f, .int .i64 b, .int .i64 c] 3))
                have S3a := Lib.hid (KRow.al S3.out hg3 (.cells #[.int .i64 f, .int .i64 b, .int .i64 c] 3))
                have i3a := Lib.hid ((i3.alloc (Nat.le_refl _) (.cells #[.int .i64 f, .int .i64 b, .int .i64 c] 3)).more (al_size w3 (.cells #[.int .i64 f, .int .i64 b, .int .i64 c] 3)))
                have v3a := Lib.hid ((HI.out w3).more (Nat.le_of_eq (size_al w3 (.cells #[.int .i64 f, .int .i64 b, .int .i64 c] 3)).symm))
                clear b3 i3)
             | (have HB3a := Lib.hid (HB2b.out.trans (Below.und (b3.mono hws2b)))
                have S3a := Lib.hid (KRow.below (w' := w3) S2b.out.dr b3 hg2b)
                have hg3a := Nat.lt_of_lt_of_le hg2b b3.size
                have i3a := Lib.hid i3
                have v3a := Lib.hid (((IntsAt.dr (HI.out w2)).below b3 (Nat.le_of_eq (size_al w2 (.cells #[.int .i64 f, .int .i64 b, .int .i64 c] 3)).symm)).more (Nat.le_trans (Nat.le_of_eq (size_al w2 (.cells #[.int .i64 f, .int .i64 b, .int .i64 c] 3)).symm) b3.size))
                clear b3 i3)))
    all_goals
      clear S2 S2b S5 S3a HB2 HB2b HB2d HI HROW
      rw [HBC.out]
      have HP := Lib.hid (fun v => pad_any (wordB ++ bytesK f b c) 128 v (by rw [HHS.out]; omega) (by omega))
      rw [HPAD.out] at HP
      generalize bytesK f b c = bc at *
      generalize blockK f b c = bk at *
      go_wp2_with fail
      refine (HP.out _).mono ?_
      rintro e w6 ⟨rfl, b6⟩
      have HB6 := Lib.hid (HB5.out.trans (b6.mono HB5.out.size))
      clear b6
      go_wp2
      go_ret2
      rw [HW.out]
      exact ⟨rfl, HB6.out⟩
end Go.Proofs.YtgdlfiejjnjcpaaGreat.Kr

namespace Go.Proofs.YtgdlfiejjnjcpaaGreat.Kr
open Go.RowKit

end Go.Proofs.YtgdlfiejjnjcpaaGreat.Kr

namespace Go.Proofs.YtgdlfiejjnjcpaaGreat.Kr
open Go.RowKit

/-- Does s begin with the word? -/
def wdB (s : ByteArray) : Bool := decide (10 ≤ s.size) && decide (s.extract 0 10 = wordB)
theorem wdB_t {s : ByteArray} (h : wdB s = true) : 10 ≤ s.size ∧ s.extract 0 10 = wordB := by simpa [wdB] using h
theorem lists_eq (a b : ByteArray) : (a.toList == b.toList) = decide (a = b) := by
  rw [Bool.eq_iff_iff, ByteArray.toList_eq, ByteArray.toList_eq]
  simp only [beq_iff_eq, decide_eq_true_eq]
  exact ⟨fun h => ByteArray.ext (Array.ext' h), fun h => by rw [h]⟩

theorem hasPrefix_any (s : ByteArray) (R : Bool) (w : World) (_hs : s.size ≤ 140737488355328) (hR : wdB s = R) :
    Calls Tryz.prog 145 #[.string s, .string wordB] w fun e w' => e = .returned (.bool R) ∧ w = w' := by
  subst hR
  have hw : wordB.size = 10 := rfl
  by_cases h : 10 ≤ s.size
  · have HR : Hid (wdB s = ((s.extract 0 wordB.size).toList == wordB.toList)) := by show _ = _; rw [lists_eq]; simp [wdB, h, hw]
    generalize wdB s = R at *
    go_enter Tryz.func145, Tryz.ntmps145
    go_wp2
    go_ret
    exact ⟨ret_bool (by rw [HR.out]; rfl), rfl⟩
  · have HR : Hid (wdB s = false) := by show _ = _; simp [wdB, h]
    have d1 : decide (10 ≤ s.size) = false := by simpa using h
    generalize wdB s = R at *
    go_enter Tryz.func145, Tryz.ntmps145
    go_wp2
    go_ret
    exact ⟨ret_bool HR.out.symm, rfl⟩

/-- What CutPrefix leaves. -/
def cutK (s : ByteArray) : ByteArray := if wdB s = true then s.extract 10 s.size else s
theorem scut_any (s : ByteArray) (w : World) (hs : s.size ≤ 140737488355328) :
    Calls Tryz.prog 129 #[.string s, .string wordB] w fun e w' => e = .returned (.tuple #[.string (cutK s), .bool (wdB s)]) ∧ w = w' := by
  have hw : wordB.size = 10 := rfl
  have HP := Lib.hid (fun w => hasPrefix_any s _ w hs rfl)
  cases h : wdB s with
  | false =>
    have HC : Hid (cutK s = s) := by show _ = _; simp [cutK, h]
    rw [h] at HP
    clear h
    generalize cutK s = ck at *
    go_enter Tryz.func129, Tryz.ntmps129
    go_wp2_with fail
    refine (HP.out _).mono ?_
    rintro e w' ⟨rfl, rfl⟩
    go_wp2
    go_ret2
    rw [HC.out]
    exact ⟨rfl, rfl⟩
  | true =>
    have HC : Hid (cutK s = s.extract wordB.size s.size) := by show _ = _; simp [cutK, h, hw]
    have h10 := (wdB_t h).1
    rw [h] at HP
    clear h
    generalize cutK s = ck at *
    go_enter Tryz.func129, Tryz.ntmps129
    go_wp2_with fail
    refine (HP.out _).mono ?_
    rintro e w' ⟨rfl, rfl⟩
    go_wp2
    go_ret2
    rw [HC.out]
    exact ⟨rfl, rfl⟩
theorem cut_any (s : ByteArray) (w : World) (hs : s.size ≤ 140737488355328) :
    Calls Tryz.prog 96 #[.string s, .string wordB] w fun e w' => e = .returned (.tuple #[.string (cutK s), .bool (wdB s)]) ∧ w = w' := by
  have HP := Lib.hid (fun w => scut_any s w hs)
  go_enter Tryz.func96, Tryz.ntmps96
  go_wp2_with fail
  refine (HP.out _).mono ?_
  rintro e w' ⟨rfl, rfl⟩
  go_wp2
  go_ret2
  exact ⟨rfl, rfl⟩
end Go.Proofs.YtgdlfiejjnjcpaaGreat.Kr

namespace Go.Proofs.YtgdlfiejjnjcpaaGreat.Kr
open Go.RowKit

/-- The numbers that stand in a block. -/
def kf (s : ByteArray) : Int := decF (bytesOf s) 10 1
def kb (s : ByteArray) : Int := decF (bytesOf s) 11 2
def kc (s : ByteArray) : Int := decF (bytesOf s) 13 1
/-- Is s the block of a crown? -/
def okK (s : ByteArray) : Bool := rightK (kf s) (kb s) (kc s) && decide (blockK (kf s) (kb s) (kc s) = s)
def fK (s : ByteArray) : Int := if okK s = true then kf s else 0
def bK (s : ByteArray) : Int := if okK s = true then kb s else 0
def cK (s : ByteArray) : Int := if okK s = true then kc s else 0
def eK (s : ByteArray) : Int := if okK s = true then 0 else 15
theorem okK_t {s : ByteArray} (h : okK s = true) : rightK (kf s) (kb s) (kc s) = true ∧ blockK (kf s) (kb s) (kc s) = s := by simpa [okK] using h
theorem okK_size {s : ByteArray} (h : s.size ≠ 128) : okK s = false := by
  cases hk : okK s with
  | false => rfl
  | true =>
    obtain ⟨h1, h2⟩ := okK_t hk
    have := blockK_size h1
    rw [h2] at this
    exact absurd this h
theorem block_word {f b c : Int} : (blockK f b c).extract 0 10 = wordB := by
  have h : ((blockK f b c).extract 0 10).data.toList = wordB.data.toList := by
    simp only [ByteArray.data_extract, Array.toList_extract]
    rw [List.extract_eq_take_drop]
    show (((wordB.data.toList ++ _) ++ _).drop 0).take 10 = _
    rw [List.drop_zero, List.append_assoc, List.take_append_of_le_length (by decide)]
    rfl
  exact ByteArray.ext (Array.ext' h)
theorem okK_word {s : ByteArray} (h : wdB s = false) : okK s = false := by
  cases hk : okK s with
  | false => rfl
  | true =>
    obtain ⟨h1, h2⟩ := okK_t hk
    have e1 := blockK_size h1
    have e2 := block_word (f := kf s) (b := kb s) (c := kc s)
    rw [h2] at e1 e2
    have : wdB s = true := by simp [wdB, e1, e2]
    rw [this] at h; cases h

/-- The numbers behind the first ten bytes. -/
theorem dec_rest (s : ByteArray) (h : 10 ≤ s.size) (k n : Nat) (hk : 10 + k + n ≤ s.size) : decF (bytesOf (s.extract 10 s.size)) k n = decF (bytesOf s) (10 + k) n := by
  refine decF_congr _ _ k (10 + k) n fun i hi => ?_
  have hsz : (s.extract 10 s.size).size = s.size - 10 := by rw [ByteArray.size_extract]; omega
  rw [bytesOf_at _ (k + i) (by omega), bytesOf_at s (10 + k + i) (by omega)]
  congr 2
  rw [ByteArray.getElem_extract]
  congr 1; omega
theorem readTo_k (l : List Int) : readTo [1, 2, 1] l 3 = [decF l 0 1, decF l 1 2, decF l 3 1] := by
  simp [readTo, sumTo, List.getD]
theorem read_rest {s : ByteArray} (h : 14 ≤ s.size) : readR [1, 2, 1] (bytesOf (s.extract 10 s.size)) = ([kf s, kb s, kc s], 0) := by
  have hsz : (s.extract 10 s.size).size = s.size - 10 := by rw [ByteArray.size_extract]; omega
  rw [readR_ok (by decide) (by rw [bytesOf_len, hsz]; simp [sumTo, List.getD]; omega)]
  show (readTo [1, 2, 1] _ 3, (0 : Int)) = _
  rw [readTo_k, dec_rest s (by omega) 0 1 (by omega), dec_rest s (by omega) 1 2 (by omega), dec_rest s (by omega) 3 1 (by omega)]
  rfl
theorem read_short {s : ByteArray} (h : s.size < 14) : ∃ z, readR [1, 2, 1] (bytesOf (s.extract 10 s.size)) = ([], z) ∧ (z == 0) = false := by
  have hsz : (s.extract 10 s.size).size = s.size - 10 := by rw [ByteArray.size_extract]; omega
  exact ⟨_, readR_short (by decide) (by rw [bytesOf_len, hsz]; simp [sumTo, List.getD]; omega), rfl⟩
theorem nums_bd (s : ByteArray) : 0 ≤ kf s ∧ kf s ≤ 255 ∧ 0 ≤ kb s ∧ kb s ≤ 65535 ∧ 0 ≤ kc s ∧ kc s ≤ 255 := by
  have h1 := decF_bd (bytesOf s) (bytesOf_bd s) 1 10
  have h2 := decF_bd (bytesOf s) (bytesOf_bd s) 2 11
  have h3 := decF_bd (bytesOf s) (bytesOf_bd s) 1 13
  unfold kf kb kc
  simp at h1 h2 h3
  omega

/-- Back: the block of a crown says the crown. -/
theorem bytesOf_nums (l : List Int) (h : ∀ b ∈ l, 0 ≤ b ∧ b ≤ 255) : bytesOf (strOfNums l) = l := by
  simp only [bytesOf, strOfNums]
  rw [List.map_map]
  refine (List.map_congr_left fun b hb => ?_).trans (List.map_id _)
  have := h b hb
  show ((UInt8.ofNat b.toNat).toNat : Int) = b
  rw [UInt8.toNat_ofNat']
  omega
theorem bytesOf_pad (s : ByteArray) (n : Nat) : bytesOf (padS s n) = bytesOf s ++ List.replicate (n - s.size) 0 := by
  simp [bytesOf, padS]
theorem bytesOf_append (a b : ByteArray) : bytesOf (a ++ b) = bytesOf a ++ bytesOf b := by
  simp [bytesOf]
theorem bytes_block {f b c : Int} (h : rightK f b c = true) (i : Nat) (hi : i < 4) : (bytesOf (blockK f b c)).getD (10 + i) 0 = [f % 256, b % 256, b / 256 % 256, c % 256].getD i 0 := by
  unfold blockK bytesK
  rw [bytesOf_pad, bytesOf_append, writeR_k h, encTo_k, bytesOf_nums _ (by intro z hz; simp at hz; omega)]
  have hw : (bytesOf wordB).length = 10 := by rw [bytesOf_len]; rfl
  rw [List.append_assoc, List.getD, List.getD, List.getElem?_append_right (by omega), hw, Nat.add_sub_cancel_left, List.getElem?_append_left (by simpa using hi)]
theorem back_k {f b c : Int} (h : rightK f b c = true) : kf (blockK f b c) = f ∧ kb (blockK f b c) = b ∧ kc (blockK f b c) = c := by
  obtain ⟨h1, h2, h3⟩ := rightK_t h
  have b0 := bytes_block h 0 (by omega)
  have b1 := bytes_block h 1 (by omega)
  have b2 := bytes_block h 2 (by omega)
  have b3 := bytes_block h 3 (by omega)
  simp only [List.getD_cons_zero, List.getD_cons_succ] at b0 b1 b2 b3
  unfold kf kb kc
  simp only [decF, b0, b1, b2, b3, Nat.reduceAdd] at *
  omega
theorem ok_block {f b c : Int} (h : rightK f b c = true) : okK (blockK f b c) = true := by
  obtain ⟨h1, h2, h3⟩ := back_k h
  simp [okK, h1, h2, h3, h]
end Go.Proofs.YtgdlfiejjnjcpaaGreat.Kr

namespace Go.Proofs.YtgdlfiejjnjcpaaGreat.Kr
open Go.RowKit

/-- A crown's box known whole. -/
def KBox (W : World) (g : Nat) (f b c : Int) : Prop := W.heap[g]? = some (.cells (cells3 f b c) 62 (0, 0))
theorem KBox.lt {W : World} {g : Nat} {f b c : Int} (h : KBox W g f b c) : g < W.heap.size := (Array.getElem?_eq_some_iff.1 h).1
theorem KBox.row {W : World} {g : Nat} {f b c : Int} (h : KBox W g f b c) : KRow W g f b c := by
  refine ⟨?_, ?_, ?_⟩ <;> (rw [cell_of_row W _ _ _ 62 _ h]; rfl)
theorem KBox.fz {W : World} {g : Nat} {f b c : Int} (h : KBox W g f b c) (k : Nat) : W.frozen? ⟨g, k, none⟩ = false := by unfold World.frozen?; rw [h]; simp
theorem KBox.below {W w' : World} {g C : Nat} {f b c : Int} (h : KBox W g f b c) (hb : Below C W w') (hg : g < C) : KBox w' g f b c := (hb.block g hg).trans h
theorem KBox.new (w : World) (f b c : Int) : KBox (w.alloc (.cells (cells3 f b c) 62)) w.heap.size f b c := heap_alloc_new w _
/-- Three stores into a box. -/
def put3 (w : World) (r : Nat) (f b c : Int) : World := ((w.setCell ⟨r, 0, none⟩ (.int .i64 f)).setCell ⟨r, 1, none⟩ (.int .i64 b)).setCell ⟨r, 2, none⟩ (.int .i64 c)
theorem row_set {w : World} {g j : Nat} {cs cs' : Array Value} {t : TypeId} {v : Value} (h : w.heap[g]? = some (.cells cs t (0, 0))) (e : cs.setIfInBounds j v = cs') : (w.setCell ⟨g, j, none⟩ v).heap[g]? = some (.cells cs' t (0, 0)) := by
  rw [setCell_eq_setRow w g j cs t (0, 0) v h, e]
  exact setRow_heap w g cs cs' t (0, 0) h
theorem put3_box {w : World} {r : Nat} {f0 b0 c0 f b c : Int} (h : KBox w r f0 b0 c0) : KBox (put3 w r f b c) r f b c := by
  unfold KBox cells3 at h
  unfold put3 KBox cells3
  have h : (w.setCell ⟨r, 0, none⟩ (.int .i64 f)).heap[r]? = some (.cells #[.int .i64 f, .int .i64 b0, .int .i64 c0] 62 (0, 0)) := row_set h rfl
  generalize (w.setCell ⟨r, 0, none⟩ (.int .i64 f)) = w at *
  have h : (w.setCell ⟨r, 1, none⟩ (.int .i64 b)).heap[r]? = some (.cells #[.int .i64 f, .int .i64 b, .int .i64 c0] 62 (0, 0)) := row_set h rfl
  generalize (w.setCell ⟨r, 1, none⟩ (.int .i64 b)) = w at *
  exact row_set h rfl
theorem put3_below {B : Nat} {w0 w : World} {r : Nat} {f b c : Int} (h : Below B w0 w) (hr : B ≤ r) : Below B w0 (put3 w r f b c) :=
  ((h.setCell (p := ⟨r, 0, none⟩) hr _).setCell (p := ⟨r, 1, none⟩) hr _).setCell (p := ⟨r, 2, none⟩) hr _

/-- The answer of Read. -/
def RetK (w : World) (s : ByteArray) (e : Ending) (w' : World) : Prop := e = .returned (.tuple #[crv (fK s) (bK s) (cK s), .int .i64 (eK s)]) ∧ Below w.heap.size w w'

theorem three {w : World} {B : Nat} {A : Option Addr} {x y z : Int} (h : IntsAt w B A 3 [x, y, z]) : ∃ g o, A = some ⟨g, o, none⟩ ∧ g < B ∧ w.cell? ⟨g, o, none⟩ = some (.int .i64 x) ∧ w.cell? ⟨g, o + 1, none⟩ = some (.int .i64 y) ∧ w.cell? ⟨g, o + 2, none⟩ = some (.int .i64 z) := by
  obtain ⟨g, o, e, hb, h0⟩ := h.at_ (k := 0) (by omega)
  obtain ⟨g1, o1, e1, _, h1⟩ := h.at_ (k := 1) (by omega)
  obtain ⟨g2, o2, e2, _, h2⟩ := h.at_ (k := 2) (by omega)
  rw [e] at e1 e2
  injection e1 with e1; injection e1 with a1 a2; injection e2 with e2; injection e2 with a3 a4
  subst a1 a2 a3 a4
  exact ⟨g, o, e, hb, h0, h1, h2⟩

set_option maxHeartbeats 4000000 in
theorem read10_any (s : ByteArray) (w : World) (hsz : s.size ≤ 140737488355328) : Calls Tryz.prog 65 #[.string s] w (RetK w s) := by
  have HCT := Lib.hid (fun v => cut_any s v hsz)
  have HX0 : Hid (KBox (w.alloc (.cells (cells3 0 0 0) 62)) w.heap.size 0 0 0) := KBox.new _ _ _ _
  have HB0 : Hid (Below w.heap.size w (w.alloc (.cells (cells3 0 0 0) 62))) := (Below.refl _ _).alloc (Nat.le_refl _) _
  have HRF : Hid (okK s = false → ∀ w', Below w.heap.size w w' → RetK w s (.returned (.tuple #[crv 0 0 0, .int .i64 15])) w') := fun h w' hb => by
    unfold RetK fK bK cK eK; rw [h]; exact ⟨rfl, hb⟩
  have HRT : Hid (okK s = true → ∀ w', Below w.heap.size w w' → RetK w s (.returned (.tuple #[crv (kf s) (kb s) (kc s), .int .i64 0])) w') := fun h w' hb => by
    unfold RetK fK bK cK eK; rw [h]; exact ⟨rfl, hb⟩
  cases hw : wdB s with
  | false =>
    have HF := Lib.hid (HRF.out (okK_word hw))
    rw [hw] at HCT
    clear hw HRF HRT
    generalize cutK s = ck at *
    go_enter Tryz.func65, Tryz.ntmps65
    go_wp2_with fail
    refine (HCT.out _).mono ?_
    rintro e w2 ⟨rfl, h2⟩
    unfold cells3 at HX0 HB0
    rw [h2] at HX0 HB0
    clear h2
    obtain ⟨c0, c1, c2⟩ := HX0.out.row
    have zr := HX0.out.fz
    go_wp2
    clear c0 c1 c2 zr
    have HX9 : Hid (KBox (put3 w2 w.heap.size 0 0 0) w.heap.size 0 0 0) := put3_box HX0.out
    have HB9 : Hid (Below w.heap.size w (put3 w2 w.heap.size 0 0 0)) := put3_below HB0.out (Nat.le_refl _)
    unfold put3 at HX9 HB9
    generalize World.setCell _ ⟨w.heap.size, 2, none⟩ _ = w9 at *
    obtain ⟨r0, r1, r2⟩ := HX9.out.row
    refine bodyPost_ret (v := .tuple #[crv 0 0 0, .int .i64 15]) (by simp [results, go_sem, r0, r1, r2, crv]) rfl ?_
    exact HF.out _ HB9.out
  | true =>
    have h10 := (wdB_t hw).1
    have HCK : Hid (cutK s = s.extract 10 s.size) := by show _ = _; unfold cutK; rw [if_pos hw]
    have hck : (cutK s).size ≤ 1000000000000000 := by rw [HCK.out, ByteArray.size_extract]; omega
    have HCS := Lib.hid hck
    rw [hw] at HCT
    clear hw hck
    by_cases h14 : s.size < 14
    · have HF := Lib.hid (HRF.out (okK_size (by omega)))
      obtain ⟨z, hz, hz0⟩ := read_short h14
      rw [← HCK.out] at hz
      have HRR := Lib.hid hz
      have hz1 : (z != 0) = true := by simpa using hz0
      clear hz HCK HRF HRT h14 h10
      generalize cutK s = ck at *
      go_enter Tryz.func65, Tryz.ntmps65
      go_wp2_with fail
      refine (HCT.out _).mono ?_
      rintro e w2 ⟨rfl, h2⟩
      unfold cells3 at HX0 HB0
      rw [h2] at HX0 HB0
      clear h2
      go_wp2_with fail
      refine (widths_any _).mono ?_
      rintro e w3 ⟨A3, c3, rfl, i3, b3⟩
      have HB3 := Lib.hid (HB0.out.trans (b3.mono HB0.out.size))
      have HX3 := Lib.hid (HX0.out.below b3 HX0.out.lt)
      have I3 := Lib.hid i3
      clear b3 i3 HX0 HB0
      go_wp2_with fail
      refine (read_any A3 3 c3 _ [1, 2, 1] ck w3 I3.out (Nat.le_refl _) (by omega) HCS.out).mono ?_
      rintro e w4 ⟨A4, n4, c4, rfl, _, _, b4⟩
      rw [HRR.out]
      have HB4 := Lib.hid (HB3.out.trans (b4.mono HB3.out.size))
      have HX4 := Lib.hid (HX3.out.below b4 HX3.out.lt)
      clear b4 I3 HB3 HX3
      obtain ⟨c0, c1, c2⟩ := HX4.out.row
      have zr := HX4.out.fz
      go_wp2
      clear c0 c1 c2 zr
      have HX9 : Hid (KBox (put3 w4 w.heap.size 0 0 0) w.heap.size 0 0 0) := put3_box HX4.out
      have HB9 : Hid (Below w.heap.size w (put3 w4 w.heap.size 0 0 0)) := put3_below HB4.out (Nat.le_refl _)
      unfold put3 at HX9 HB9
      generalize World.setCell _ ⟨w.heap.size, 2, none⟩ _ = w9 at *
      obtain ⟨r0, r1, r2⟩ := HX9.out.row
      refine bodyPost_ret (v := .tuple #[crv 0 0 0, .int .i64 15]) (by simp [results, go_sem, r0, r1, r2, crv]) rfl ?_
      exact HF.out _ HB9.out
    · have hz := read_rest (s := s) (by omega)
      rw [← HCK.out] at hz
      have HRR := Lib.hid hz
      have HOK : Hid (okK s = (rightK (kf s) (kb s) (kc s) && decide (blockK (kf s) (kb s) (kc s) = s))) := by show _ = _; rfl
      have HWT : Hid (∀ v, Calls Tryz.prog 57 #[crv (kf s) (kb s) (kc s)] v fun e w' => e = .returned (.tuple #[.string (writeK (kf s) (kb s) (kc s)).1, .int .i64 (writeK (kf s) (kb s) (kc s)).2]) ∧ Below v.heap.size v w') := fun v => write10_any _ _ _ v
      clear hz HCK h10
      generalize cutK s = ck at *
      generalize kf s = f at *
      generalize kb s = b at *
      generalize kc s = c at *
      go_enter Tryz.func65, Tryz.ntmps65
      go_wp2_with fail
      refine (HCT.out _).mono ?_
      rintro e w2 ⟨rfl, h2⟩
      unfold cells3 at HX0 HB0
      rw [h2] at HX0 HB0
      clear h2
      go_wp2_with fail
      refine (widths_any _).mono ?_
      rintro e w3 ⟨A3, c3, rfl, i3, b3⟩
      have HB3 := Lib.hid (HB0.out.trans (b3.mono HB0.out.size))
      have HX3 := Lib.hid (HX0.out.below b3 HX0.out.lt)
      have I3 := Lib.hid i3
      clear b3 i3 HX0 HB0
      go_wp2_with fail
      refine (read_any A3 3 c3 _ [1, 2, 1] ck w3 I3.out (Nat.le_refl _) (by omega) HCS.out).mono ?_
      rintro e w4 ⟨A4, n4, c4, rfl, hn4, i4, b4⟩
      rw [HRR.out] at i4 ⊢
      have hn : n4 = 3 := i4.len.symm
      subst hn
      have HB4 := Lib.hid (HB3.out.trans (b4.mono HB3.out.size))
      have HX4 := Lib.hid (HX3.out.below b4 HX3.out.lt)
      obtain ⟨g, o, rfl, hg, q0, q1, q2⟩ := three i4
      clear b4 I3 HB3 HX3 i4
      go_upto_region 7 with fail
      go_region
      clear q0 q1 q2
      have HG5 : Hid (KBox (w4.alloc (.cells #[.int .i64 f, .int .i64 b, .int .i64 c] 62)).drew w4.heap.size f b c) := KBox.new w4 f b c
      have b5 : Below w4.heap.size w4 (w4.alloc (.cells #[.int .i64 f, .int .i64 b, .int .i64 c] 62)).drew := Below.dr ((Below.refl _ _).alloc (Nat.le_refl _) _)
      have HX5 := Lib.hid (HX4.out.below b5 HX4.out.lt)
      have HB5 := Lib.hid (HB4.out.trans (b5.mono HB4.out.size))
      clear b5 HB4 HX4
      generalize (w4.alloc (.cells #[.int .i64 f, .int .i64 b, .int .i64 c] 62)).drew = w5 at *
      obtain ⟨e0, e1, e2⟩ := HG5.out.row
      go_wp2_with fail
      refine (HWT.out _).mono ?_
      rintro e w6 ⟨rfl, b6⟩
      have HB6 := Lib.hid (HB5.out.trans (b6.mono HB5.out.size))
      have HX6 := Lib.hid (HX5.out.below b6 HX5.out.lt)
      have HG6 := Lib.hid (HG5.out.below b6 HG5.out.lt)
      clear e0 e1 e2 b6 HB5 HX5 HG5 HWT
      generalize w4.heap.size = gg at *
      obtain ⟨e0, e1, e2⟩ := HG6.out.row
      obtain ⟨c0, c1, c2⟩ := HX6.out.row
      have zr := HX6.out.fz
      cases hr : rightK f b c with
      | false =>
        have HF := Lib.hid (HRF.out (by rw [HOK.out, hr]; rfl))
        rw [writeK_no hr]
        clear HRT HRF HOK hr
        go_wp2
        clear c0 c1 c2 zr e0 e1 e2
        have HX9 : Hid (KBox (put3 w6 w.heap.size 0 0 0) w.heap.size 0 0 0) := put3_box HX6.out
        have HB9 : Hid (Below w.heap.size w (put3 w6 w.heap.size 0 0 0)) := put3_below HB6.out (Nat.le_refl _)
        unfold put3 at HX9 HB9
        generalize World.setCell _ ⟨w.heap.size, 2, none⟩ _ = w9 at *
        obtain ⟨r0, r1, r2⟩ := HX9.out.row
        refine bodyPost_ret (v := .tuple #[crv 0 0 0, .int .i64 15]) (by simp [results, go_sem, r0, r1, r2, crv]) rfl ?_
        exact HF.out _ HB9.out
      | true =>
        rw [writeK_ok hr]
        by_cases hs : blockK f b c = s
        · have HF := Lib.hid (HRT.out (by rw [HOK.out, hr]; simpa using hs))
          clear HRT HRF HOK hr
          generalize blockK f b c = bk at *
          subst hs
          go_wp2
          clear c0 c1 c2 zr e0 e1 e2
          have HX9 : Hid (KBox (put3 w6 w.heap.size f b c) w.heap.size f b c) := put3_box HX6.out
          have HB9 : Hid (Below w.heap.size w (put3 w6 w.heap.size f b c)) := put3_below HB6.out (Nat.le_refl _)
          unfold put3 at HX9 HB9
          generalize World.setCell _ ⟨w.heap.size, 2, none⟩ _ = w9 at *
          obtain ⟨r0, r1, r2⟩ := HX9.out.row
          refine bodyPost_ret (v := .tuple #[crv f b c, .int .i64 0]) (by simp [results, go_sem, r0, r1, r2, crv]) rfl ?_
          exact HF.out _ HB9.out
        · have HF := Lib.hid (HRF.out (by rw [HOK.out, hr]; simpa using hs))
          have q1 : ((blockK f b c).toList == s.toList) = false := by rw [lists_eq, decide_eq_false hs]
          have q2 : ((blockK f b c).toList != s.toList) = true := by rw [bne, q1]; rfl
          clear HRT HRF HOK hr hs
          generalize blockK f b c = bk at *
          go_wp2
          clear c0 c1 c2 zr e0 e1 e2
          have HX9 : Hid (KBox (put3 w6 w.heap.size 0 0 0) w.heap.size 0 0 0) := put3_box HX6.out
          have HB9 : Hid (Below w.heap.size w (put3 w6 w.heap.size 0 0 0)) := put3_below HB6.out (Nat.le_refl _)
          unfold put3 at HX9 HB9
          generalize World.setCell _ ⟨w.heap.size, 2, none⟩ _ = w9 at *
          obtain ⟨r0, r1, r2⟩ := HX9.out.row
          refine bodyPost_ret (v := .tuple #[crv 0 0 0, .int .i64 15]) (by simp [results, go_sem, r0, r1, r2, crv]) rfl ?_
          exact HF.out _ HB9.out
end Go.Proofs.YtgdlfiejjnjcpaaGreat.Kr

namespace Go.Proofs.YtgdlfiejjnjcpaaGreat.Kr
open Go.RowKit

end Go.Proofs.YtgdlfiejjnjcpaaGreat.Kr

namespace Go.Proofs.YtgdlfiejjnjcpaaGreat.Kr
open Go.RowKit

/-- The format of a file's card. -/
def fmtK (f b c n : Int) : Int := if rightK f b c = true ∧ inB n 0 31 = true then (if f ≤ 2 then f else if n < c then 2 else 1) else 0
theorem fmtK_no {f b c n : Int} (h : ¬ (rightK f b c = true ∧ inB n 0 31 = true)) : fmtK f b c n = 0 := by unfold fmtK; rw [if_neg h]
theorem fmtK_12 {f b c n : Int} (h : rightK f b c = true) (hn : inB n 0 31 = true) (hf : f = 1 ∨ f = 2) : fmtK f b c n = f := by unfold fmtK; rw [if_pos ⟨h, hn⟩, if_pos (by omega)]
theorem fmtK_34 {f b c n : Int} (h : rightK f b c = true) (hn : inB n 0 31 = true) (hf : f = 3 ∨ f = 4) : fmtK f b c n = if n < c then 2 else 1 := by unfold fmtK; rw [if_pos ⟨h, hn⟩, if_neg (by omega)]

/-- Is block n one that files can own? -/
def ownK (f b c n : Int) : Bool := rightK f b c && inB n 51 (b - 1)
set_option maxHeartbeats 2000000 in
theorem owned_any (f b c n : Int) (w : World) :
    Calls Tryz.prog 46 #[crv f b c, .int .i64 n] w fun e w' => e = .returned (.bool (ownK f b c n)) ∧ Below w.heap.size w w' := by
  have HB : Hid (Below w.heap.size w ((w.alloc (.cells (cells3 f b c) 62)).alloc (.cells (cells3 f b c) 62))) := ((Below.refl _ _).alloc (Nat.le_refl _) _).alloc (by simp) _
  have HRT := Lib.hid (fun v => right_any f b c _ v rfl)
  cases hr : rightK f b c with
  | false =>
    have HF : Hid (ownK f b c n = false) := by show _ = _; unfold ownK; rw [hr]; rfl
    rw [hr] at HRT
    generalize ownK f b c n = z at *
    unfold crv cells3 at *
    clear hr
    go_enter Tryz.func46, Tryz.ntmps46
    go_wp2_with fail
    refine (HRT.out _).mono ?_
    rintro e w' ⟨rfl, rfl⟩
    go_wp2
    go_ret
    exact ⟨ret_bool HF.out.symm, HB.out⟩
  | true =>
    obtain ⟨h1, h2, h3⟩ := rightK_t hr
    have HF : Hid (ownK f b c n = inB n 51 (b - 1)) := by show _ = _; unfold ownK; rw [hr]; rfl
    have HN := Lib.hid (fun w => within_is (inB n 51 (b - 1)) n 51 (b - 1) w rfl)
    rw [← HF.out] at HN
    rw [hr] at HRT
    generalize ownK f b c n = z at *
    unfold crv cells3 at *
    clear hr h3
    go_enter Tryz.func46, Tryz.ntmps46
    go_wp2_with fail
    refine (HRT.out _).mono ?_
    rintro e w' ⟨rfl, rfl⟩
    go_wp2_with fail
    refine (HN.out _).mono ?_
    rintro e w' ⟨rfl, rfl⟩
    go_wp2
    go_ret
    exact ⟨rfl, HB.out⟩
end Go.Proofs.YtgdlfiejjnjcpaaGreat.Kr
