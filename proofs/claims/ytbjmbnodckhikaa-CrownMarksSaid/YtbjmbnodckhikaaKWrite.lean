/-
  WALKS: widths, Write and the reference's Write return a crown's block, or that it may not be. Conditions: integers of an int64.
-/
import Derived.Test.YtbjmbnodckhikaaKRight
import Derived.Test.YtbjmbnodckhikaaKWhole
import Derived.Test.YtbjmbnodckhikaaPlainC
import Derived.Deep.RegionHeld3
import Derived.Deep.CutRange
import Derived.BigRegion
import Derived.BigQuiet
import Derived.Deep.DeepMust
import Derived.Deep.DeepFit
namespace Go.Proofs.Ytbjmbnodckhikaa
open Go.RowKit

def wordB : ByteArray := { data := #[119, 97, 105, 110, 119, 114, 105, 103, 104, 116] }
/-- The bytes of a crown's numbers, and its block. -/
def bytesK (f b c : Int) : ByteArray := strOfNums (writeR [1, 2, 1] [f, b, c]).1
def blockK (f b c : Int) : ByteArray := padS (wordB ++ bytesK f b c) 128
def writeK (f b c : Int) : ByteArray × Int := if rightK f b c = true then (blockK f b c, 0) else (⟨#[]⟩, 1)
theorem writeK_ok {f b c : Int} (h : rightK f b c = true) : writeK f b c = (blockK f b c, 0) := by unfold writeK; rw [if_pos h]
theorem writeK_no {f b c : Int} (h : rightK f b c = false) : writeK f b c = (⟨#[]⟩, 1) := by unfold writeK; rw [if_neg (by rw [h]; decide)]

theorem ok121 : okTo [1, 2, 1] 3 = true := by decide
theorem fit121 {f b c : Int} (h : rightK f b c = true) : fitTo [1, 2, 1] [f, b, c] 3 = true := by
  obtain ⟨h1, h2, h3⟩ := rightK_t h
  have e1 : fitB f 1 = true := by unfold fitB; rw [decide_eq_true_eq]; unfold mostOf; simp; omega
  have e2 : fitB b 2 = true := by unfold fitB; rw [decide_eq_true_eq]; unfold mostOf; simp; omega
  have e3 : fitB c 1 = true := by unfold fitB; rw [decide_eq_true_eq]; unfold mostOf; simp; omega
  simp [fitTo, List.getD, e1, e2, e3]
theorem writeR_k {f b c : Int} (h : rightK f b c = true) : writeR [1, 2, 1] [f, b, c] = (encTo [1, 2, 1] [f, b, c] 3, 0) :=
  writeR_ok ok121 rfl (fit121 h)
theorem encTo_k (f b c : Int) : encTo [1, 2, 1] [f, b, c] 3 = [f % 256, b % 256, b / 256 % 256, c % 256] := by
  simp [encTo, encF, List.getD]
theorem strOf_len (l : List Int) : (strOfNums l).size = l.length := by
  simp [strOfNums, ByteArray.size]
theorem bytesK_size {f b c : Int} (h : rightK f b c = true) : (bytesK f b c).size = 4 := by
  unfold bytesK; rw [writeR_k h, encTo_k, strOf_len]; rfl
theorem word_size : wordB.size = 10 := rfl
theorem head_size {f b c : Int} (h : rightK f b c = true) : (wordB ++ bytesK f b c).size = 14 := by
  rw [ByteArray.size_append, bytesK_size h]; rfl
theorem size_padS (s : ByteArray) (n : Nat) (h : s.size ≤ n) : (padS s n).size = n := by
  show (s.data.toList ++ List.replicate (n - s.size) 0).toArray.size = n
  have : s.data.toList.length = s.size := by simp
  rw [List.size_toArray, List.length_append, List.length_replicate, this]; omega
theorem blockK_size {f b c : Int} (h : rightK f b c = true) : (blockK f b c).size = 128 := size_padS _ _ (by rw [head_size h]; omega)
theorem padR_k {f b c : Int} (h : rightK f b c = true) : padR (wordB ++ bytesK f b c) 128 = (blockK f b c, 0) := by
  rw [padR_ok (by omega) (by rw [head_size h]; omega)]; rfl
theorem whole_k {f b c : Int} (h : rightK f b c = true) : wholeS (wordB ++ bytesK f b c) = blockK f b c := by
  unfold wholeS blockK
  have hs := head_size h
  generalize wordB ++ bytesK f b c = s at *
  have e : s.extract 0 (min s.size 128) = s := by
    rw [hs]
    apply ByteArray.ext
    rw [ByteArray.data_extract]
    have : s.data.size = 14 := hs
    rw [show min 14 128 = s.data.size by omega]
    simp
  rw [e]

theorem cell_new (w : World) (cs : Array Value) (t : TypeId) (k : Nat) {v : Value} (h : cs[k]? = some v) : (w.alloc (.cells cs t)).cell? ⟨w.heap.size, k, none⟩ = some v := by
  unfold World.cell?
  rw [heap_alloc_new]
  simpa using h
theorem cells_new {w : World} (f b c : Int) : (w.alloc (.cells (cells3 f b c) 23)).heap[w.heap.size]? = some (.cells (cells3 f b c) 23 (0, 0)) := heap_alloc_new w _
/-- A crown's box, in block g. -/
def KRow (W : World) (g : Nat) (f b c : Int) : Prop := W.cell? ⟨g, 0, none⟩ = some (.int .i64 f) ∧ W.cell? ⟨g, 1, none⟩ = some (.int .i64 b) ∧ W.cell? ⟨g, 2, none⟩ = some (.int .i64 c)
theorem KRow.new (w : World) (f b c : Int) : KRow (w.alloc (.cells (cells3 f b c) 23)) w.heap.size f b c := by
  refine ⟨?_, ?_, ?_⟩ <;> exact cell_new w _ 23 _ rfl
theorem KRow.below {w w' : World} {g C : Nat} {f b c : Int} (h : KRow w g f b c) (hb : Below C w w') (hg : g < C) : KRow w' g f b c :=
  ⟨(hb.cell (p := ⟨g, 0, none⟩) hg).trans h.1, (hb.cell (p := ⟨g, 1, none⟩) hg).trans h.2.1, (hb.cell (p := ⟨g, 2, none⟩) hg).trans h.2.2⟩

theorem ints_new {w : World} (zs : List Int) (hz : ∀ z ∈ zs, I64 z) : IntsAt (w.alloc (.cells (zs.map (Value.int .i64)).toArray 3)) (w.heap.size + 1) (some ⟨w.heap.size, 0, none⟩) zs.length zs := by
  refine ⟨rfl, hz, fun k hk => ⟨_, _, rfl, by omega, ?_⟩⟩
  rw [Nat.zero_add]
  refine cell_new w _ 3 k ?_
  simp [List.getD, hk]

/-- an answer that is the slice of the widths. -/
def RetWd (w : World) (e : Ending) (w' : World) : Prop := ∃ A c, e = .returned (.slice A 3 c) ∧ IntsAt w' w'.heap.size A 3 [1, 2, 1] ∧ Below w.heap.size w w'
theorem widths_any (w : World) : Calls Try.prog 24 #[] w fun e w' => RetWd w e w' := by
  have HI := Lib.hid (ints_new (w := w) [1, 2, 1] (by intro z hz; simp at hz; unfold I64; omega))
  go_enter Try.func24, Try.ntmps24
  go_wp2
  go_ret
  exact ⟨_, _, rfl, HI.out.more (by simp), (Below.refl _ _).alloc (Nat.le_refl _) _⟩

theorem size_al (w : World) (o : Obj) : (w.alloc o).heap.size = w.heap.size + 1 := by simp
theorem al_size (w : World) (o : Obj) : w.heap.size ≤ (w.alloc o).heap.size := by simp
theorem KRow.al {w : World} {g : Nat} {f b c : Int} (h : KRow w g f b c) (hg : g < w.heap.size) (o : Obj) : KRow (w.alloc o) g f b c := h.below ((Below.refl _ w).alloc (Nat.le_refl _) o) hg
theorem Below.dr {B : Nat} {a b : World} (h : Below B a b) : Below B a b.drew := ⟨h.os, h.tape, h.output, h.size, h.block⟩
theorem Below.und {B : Nat} {a b : World} (h : Below B a.drew b) : Below B a b := ⟨h.os, h.tape, h.output, h.size, h.block⟩
theorem KRow.dr {W : World} {g : Nat} {f b c : Int} (h : KRow W g f b c) : KRow W.drew g f b c := h
theorem IntsAt.dr {w : World} {B n : Nat} {A : Option Addr} {l : List Int} (h : IntsAt w B A n l) : IntsAt w.drew B A n l := h.keep fun _ _ => rfl
theorem right_i64 {f b c : Int} (h : rightK f b c = true) : ∀ z ∈ [f, b, c], I64 z := by
  have := rightK_t h
  intro z hz
  simp at hz
  unfold I64
  omega

set_option maxHeartbeats 2000000 in
theorem write10_any (f b c : Int) (w : World) :
    Calls Try.prog 9 #[crv f b c] w fun e w' => e = .returned (.tuple #[.string (writeK f b c).1, .int .i64 (writeK f b c).2]) ∧ Below w.heap.size w w' := by
  have HRT := Lib.hid (fun v => right_any f b c _ v rfl)
  have HB1 : Hid (Below w.heap.size w (w.alloc (.cells (cells3 f b c) 23))) := (Below.refl _ _).alloc (Nat.le_refl _) _
  have HB2 : Hid (Below w.heap.size w ((w.alloc (.cells (cells3 f b c) 23)).alloc (.cells (cells3 f b c) 23))) := HB1.out.alloc (by simp) _
  have HROW : Hid (KRow ((w.alloc (.cells (cells3 f b c) 23)).alloc (.cells (cells3 f b c) 23)) w.heap.size f b c) := (KRow.new w f b c).below ((Below.refl _ _).alloc (Nat.le_refl _) _) (by simp)
  cases hr : rightK f b c with
  | false =>
    have HW := Lib.hid (writeK_no hr)
    rw [hr] at HRT
    generalize writeK f b c = wc at *
    unfold crv cells3 at *
    clear hr HROW
    go_enter Try.func9, Try.ntmps9
    go_wp2_with fail
    refine (HRT.out _).mono ?_
    rintro e w2 ⟨rfl, rfl⟩
    go_wp2
    go_ret2
    rw [HW.out]
    exact ⟨rfl, HB2.out⟩
  | true =>
    have HW := Lib.hid (writeK_ok hr)
    have HWR : Hid (writeR [1, 2, 1] [f, b, c] = ((writeR [1, 2, 1] [f, b, c]).1, 0)) := by show _ = _; rw [writeR_k hr]
    have HBC : Hid (strOfNums (writeR [1, 2, 1] [f, b, c]).1 = bytesK f b c) := by show _ = _; rfl
    have HPAD := Lib.hid (padR_k hr)
    have HHS := Lib.hid (head_size hr)
    have HI : Hid (∀ v : World, IntsAt (v.alloc (.cells #[.int .i64 f, .int .i64 b, .int .i64 c] 3)) (v.heap.size + 1) (some ⟨v.heap.size, 0, none⟩) 3 [f, b, c]) := fun v => ints_new [f, b, c] (right_i64 hr)
    have hbs := bytesK_size hr
    have hws := word_size
    rw [hr] at HRT
    generalize writeK f b c = wc at *
    unfold crv cells3 at *
    clear hr
    go_enter Try.func9, Try.ntmps9
    go_wp2_with fail
    refine (HRT.out _).mono ?_
    rintro e w2 ⟨rfl, h2⟩
    rw [← h2] at HB2 HROW
    have hg2 : w.heap.size < w2.heap.size := by rw [h2]; simp; omega
    clear h2 HB1 HRT
    have HB2d := Lib.hid (Below.dr HB2.out)
    have hws2 := HB2.out.size
    have S2 := Lib.hid HROW.out
    have HB2b := Lib.hid (HB2.out.alloc hws2 (.cells #[.int .i64 f, .int .i64 b, .int .i64 c] 3))
    have hws2b := HB2b.out.size
    have hg2b : w.heap.size < (w2.alloc (.cells #[.int .i64 f, .int .i64 b, .int .i64 c] 3)).heap.size := Nat.lt_of_lt_of_le hg2 (al_size w2 (.cells #[.int .i64 f, .int .i64 b, .int .i64 c] 3))
    have S2b := Lib.hid (KRow.al S2.out hg2 (.cells #[.int .i64 f, .int .i64 b, .int .i64 c] 3))
    go_upto_region 3 with fail
    go_region_held3 (fun v' => v'.cell? ⟨w.heap.size, 0, none⟩ = some (.int .i64 f) ∧ v'.cell? ⟨w.heap.size, 1, none⟩ = some (.int .i64 b) ∧ v'.cell? ⟨w.heap.size, 2, none⟩ = some (.int .i64 c))
      (first | exact S2.out | exact S2b.out | exact S5.out | exact S3a.out | exact S3.out)
      (first
        | (go_at_call 23; go_must (go_fit (write_any A3 _ 3 c3 3 3 _ [1, 2, 1] [f, b, c] _ i3a.out v3a.out (Nat.le_refl _) (by omega) (by omega)))
           rintro e w5 ⟨rfl, b5⟩
           have HB5 := Lib.hid (HB3a.out.trans (b5.mono HB3a.out.size))
           have S5 := Lib.hid (KRow.below S3a.out b5 hg3a)
           clear b5)
        | (go_at_call 24; go_must (go_fit (widths_any _))
           rintro e w3 ⟨A3, c3, rfl, i3, b3⟩
           first
             | (have HB3 := Lib.hid (HB2.out.trans (Below.und (b3.mono hws2)))
                have S3 := Lib.hid (KRow.below (w' := w3) S2.out.dr b3 hg2)
                have hg3 := Nat.lt_of_lt_of_le hg2 b3.size
                have hg3a := Nat.lt_of_lt_of_le hg3 (al_size w3 (.cells #[.int .i64 f, .int .i64 b, .int .i64 c] 3))
                have HB3a := Lib.hid (HB3.out.alloc (Nat.le_trans hws2 b3.size) (.cells #[.int .i64 f, .int .i64 b, .int .i64 c] 3))
                have S3a := Lib.hid (KRow.al S3.out hg3 (.cells #[.int .i64 f, .int .i64 b, .int .i64 c] 3))
                have i3a := Lib.hid ((i3.alloc (Nat.le_refl _) (.cells #[.int .i64 f, .int .i64 b, .int .i64 c] 3)).more (al_size w3 (.cells #[.int .i64 f, .int .i64 b, .int .i64 c] 3)))
                have v3a := Lib.hid ((HI.out w3).more (Nat.le_of_eq (size_al w3 (.cells #[.int .i64 f, .int .i64 b, .int .i64 c] 3)).symm))
                clear b3 i3)
             | (have HB3a := Lib.hid (HB2b.out.trans (Below.und (b3.mono hws2b)))
                have S3a := Lib.hid (KRow.below (w' := w3) S2b.out.dr b3 hg2b)
                have hg3a := Nat.lt_of_lt_of_le hg2b b3.size
                have i3a := Lib.hid i3
                have v3a := Lib.hid (((HI.out w2).dr.below b3 (Nat.le_of_eq (size_al w2 (.cells #[.int .i64 f, .int .i64 b, .int .i64 c] 3)).symm)).more (Nat.le_trans (Nat.le_of_eq (size_al w2 (.cells #[.int .i64 f, .int .i64 b, .int .i64 c] 3)).symm) b3.size))
                clear b3 i3)))
    all_goals
      clear S2 S2b S5 S3a HB2 HB2b HB2d HI HROW
      rw [HBC.out]
      have HP := Lib.hid (fun v => pad_any (wordB ++ bytesK f b c) 128 v (by rw [HHS.out]; omega) (by omega))
      rw [HPAD.out] at HP
      generalize bytesK f b c = bc at *
      generalize blockK f b c = bk at *
      go_wp2_with fail
      refine (HP.out _).mono ?_
      rintro e w6 ⟨rfl, b6⟩
      have HB6 := Lib.hid (HB5.out.trans (b6.mono HB5.out.size))
      clear b6
      go_wp2
      go_ret2
      rw [HW.out]
      exact ⟨rfl, HB6.out⟩
end Go.Proofs.Ytbjmbnodckhikaa
