/-
  WALK: the reference's Write returns a card's bytes, or that it may not be. Conditions: the lists have as many elements as an int64 counts.
  WALK: the reference's New returns a new file's card, or that it may not be. Condition: the numbers are of an int64.
-/
import Derived.Test.YtgdlfiejjnjcpaaGreatBJ
import Derived.Test.YtgdlfiejjnjcpaaGreatBG
namespace Go.Proofs.YtgdlfiejjnjcpaaGreat
open Go.RowKit

/-- The slice at A reads as the numbers l. -/
def IntsIn (w : World) (A : Option Addr) (n : Nat) (l : List Int) : Prop := IntsAt w w.heap.size A n l
set_option maxRecDepth 100000 in
theorem IntsIn.al {w : World} {A : Option Addr} {n : Nat} {l : List Int} {o : Obj} (h : IntsIn w A n l) : IntsIn (w.alloc o) A n l := (h.below (C := w.heap.size) ((Below.refl _ _).alloc (Nat.le_refl _) _) (Nat.le_refl _)).more (by simp)
set_option maxRecDepth 100000 in
theorem IntsIn.dr {w : World} {A : Option Addr} {n : Nat} {l : List Int} (h : IntsIn w A n l) : IntsIn w.drew A n l := IntsAt.keep (w' := w.drew) h fun _ _ => rfl
set_option maxRecDepth 100000 in
theorem IntsIn.bl {w w' : World} {A : Option Addr} {n : Nat} {l : List Int} (h : IntsIn w A n l) (hb : Below w.heap.size w w') : IntsIn w' A n l := (IntsAt.below h hb (Nat.le_refl _)).more hb.size
set_option maxRecDepth 100000 in
theorem IntsIn.two {w : World} {a b : Int} {q : Nat} (ha : Fit a) (hb : Fit b) (hq : q = w.heap.size) : IntsIn (w.alloc (.cells #[.int .i64 a, .int .i64 b] 3)) (some ⟨q, 0, none⟩) 2 [a, b] := by
  subst hq; exact (ints2 a b ha hb).more (by simp)
set_option maxRecDepth 100000 in
theorem IntsIn.one {w : World} {a : Int} {q : Nat} (ha : Fit a) (hq : q = w.heap.size) : IntsIn (w.alloc (.cells #[.int .i64 a] 3)) (some ⟨q, 0, none⟩) 1 [a] := by
  subst hq; exact (ints_new (w := w) [a] (by simp; exact ha)).more (by simp)
set_option maxRecDepth 100000 in
theorem IntsIn.three {w : World} {a b c : Int} {q : Nat} (ha : Fit a) (hb : Fit b) (hc : Fit c) (hq : q = w.heap.size) : IntsIn (w.alloc (.cells #[.int .i64 a, .int .i64 b, .int .i64 c] 3)) (some ⟨q, 0, none⟩) 3 [a, b, c] := by
  subst hq; exact (ints_new (w := w) [a, b, c] (by simp; exact ⟨ha, hb, hc⟩)).more (by simp)
section
variable {W : World} {g : Nat} {c : Cd} {A : Option Addr} {n k : Nat} {A' : Option Addr} {n' k' : Nat}
set_option maxRecDepth 100000 in
theorem CdRow.al {o : Obj} (h : CdRow W g c A n k A' n' k') : CdRow (W.alloc o) g c A n k A' n' k' := h.below ((Below.refl _ _).alloc (Nat.le_refl _) _) h.lt
set_option maxRecDepth 100000 in
theorem CdRow.bl {w' : World} (h : CdRow W g c A n k A' n' k') (hb : Below W.heap.size W w') : CdRow w' g c A n k A' n' k' := h.below hb h.lt
end
set_option maxRecDepth 100000 in
theorem Below.al {B : Nat} {a b : World} {o : Obj} (h : Below B a b) (hB : B ≤ a.heap.size) : Below B a (b.alloc o) := h.alloc (Nat.le_trans hB h.size) _
set_option maxRecDepth 100000 in
theorem Below.tr {a b c : World} (h : Below a.heap.size a b) (k : Below b.heap.size b c) : Below a.heap.size a c := h.trans (k.mono h.size)
end Go.Proofs.YtgdlfiejjnjcpaaGreat

namespace Go.Proofs.YtgdlfiejjnjcpaaGreat
open Go.RowKit

set_option maxRecDepth 100000 in
theorem right_new1 (kd : Int) : rightC ⟨1, kd, 1, 0, [0, 0, 0, 0], 0, 0, [], 0⟩ = (decide (kd = 1) || decide (kd = 2)) := by
  simp [rightC, isZ, headB, oneB, twoB, blkB]
set_option maxRecDepth 100000 in
theorem right_new2 (kd : Int) : rightC ⟨2, kd, 1, 0, [], 0, 0, [], 0⟩ = (decide (kd = 1) || decide (kd = 2)) := by
  simp [rightC, isZ, headB, oneB, twoB, blkB, rightL]
set_option maxRecDepth 100000 in
theorem right_new0 {f : Int} (kd : Int) (h1 : f ≠ 1) (h2 : f ≠ 2) : rightC ⟨f, kd, 1, 0, [], 0, 0, [], 0⟩ = false := by
  simp [rightC, isZ, headB, oneB, twoB, h1, h2]
set_option maxRecDepth 100000 in
theorem newC_1 (kd : Int) : newC 1 kd = if rightC ⟨1, kd, 1, 0, [0, 0, 0, 0], 0, 0, [], 0⟩ = true then (⟨1, kd, 1, 0, [0, 0, 0, 0], 0, 0, [], 0⟩, 0) else (zeroC, 1) := by
  rw [right_new1]; rfl
set_option maxRecDepth 100000 in
theorem newC_2 (kd : Int) : newC 2 kd = if rightC ⟨2, kd, 1, 0, [], 0, 0, [], 0⟩ = true then (⟨2, kd, 1, 0, [], 0, 0, [], 0⟩, 0) else (zeroC, 1) := by
  rw [right_new2]; rfl
set_option maxRecDepth 100000 in
theorem newC_0 {f : Int} (kd : Int) (h1 : f ≠ 1) (h2 : f ≠ 2) : newC f kd = (zeroC, 1) := by
  unfold newC; rw [if_neg h1, if_neg h2]; split <;> rfl
set_option maxRecDepth 100000 in
theorem cd_two {kd : Int} (f : Int) (hf : Fit f) (hk : Fit kd) (w : World) (B : Nat) : CdAt w B (cdv ⟨f, kd, 1, 0, [], 0, 0, [], 0⟩ none 0 0 none 0 0) ⟨f, kd, 1, 0, [], 0, 0, [], 0⟩ :=
  ⟨none, 0, 0, none, 0, 0, rfl, ⟨rfl, by simp, fun k hk => absurd hk (by omega)⟩, ⟨rfl, by simp, fun k hk => absurd hk (by omega)⟩, by omega, by omega, hf, hk, (by show Fit 1; decide), (by show Fit 0; decide), (by show Fit 0; decide), (by show Fit 0; decide), (by show Fit 0; decide)⟩

set_option maxRecDepth 100000 in
theorem row_new1 (w : World) (o : Obj) (c : Cd) (A : Option Addr) (n k : Nat) (A' : Option Addr) (n' k' : Nat) : CdRow ((w.alloc o).alloc (.cells (cells9 c A n k A' n' k') 30)) (w.heap.size + 1) c A n k A' n' k' := by
  have h := CdRow.new (w.alloc o) c A n k A' n' k'
  rwa [show (w.alloc o).heap.size = w.heap.size + 1 by simp] at h
set_option maxRecDepth 100000 in
theorem row_at {w : World} {o o' : Obj} {c : Cd} {A : Option Addr} {n k : Nat} {A' : Option Addr} {n' k' : Nat} {C : Nat} {v : World} (h : CdRow ((w.alloc o).alloc o') (w.alloc o).heap.size c A n k A' n' k') (hb : Below C ((w.alloc o).alloc o') v) (hC : C = ((w.alloc o).alloc o').heap.size := by rfl) : CdRow v (w.heap.size + 1) c A n k A' n' k' := by
  subst hC
  rw [show (w.alloc o).heap.size = w.heap.size + 1 by simp] at h
  exact h.below hb (by simp)

set_option maxRecDepth 100000 in
set_option maxHeartbeats 2000000 in
theorem rnew_any (f kd : Int) (w : World) (hf : Fit f) (hk : Fit kd) : Calls Tryz.prog 28 #[.int .i64 f, .int .i64 kd] w (RetCE w (newC f kd).1 (newC f kd).2) := by
  have HB2 : Hid (∀ o o' : Obj, Below w.heap.size w ((w.alloc o).alloc o')) := fun o o' => ((Below.refl _ _).alloc (Nat.le_refl _) _).alloc (by simp) _
  by_cases h0 : f = 0
  · subst h0
    have HE := Lib.hid (newC_0 (f := 0) kd (by decide) (by decide))
    go_enter Tryz.func28, Tryz.ntmps28
    go_wp2
    refine bodyPost_ret (v := .tuple #[cdv zeroC none 0 0 none 0 0, .int .i64 1]) (by simp [results, Tryz.results28, go_sem, zeroC]) rfl ?_
    rw [HE.out]
    exact ⟨_, rfl, cdv_zero _ _, HB2.out _ _⟩
  · by_cases h1 : f = 1
    · subst h1
      have HE := Lib.hid (newC_1 kd)
      have HB3 : Hid (∀ o o' o'' : Obj, Below w.heap.size w (((w.alloc o).alloc o').alloc o'')) := fun o o' o'' => (((Below.refl _ _).alloc (Nat.le_refl _) _).alloc (by simp) _).alloc (by simp; omega) _
      have HK := Lib.hid hk
      have HI4 : Hid (∀ o o' : Obj, IntsAt (((w.alloc o).alloc o').alloc (.cells #[.int .i64 0, .int .i64 0, .int .i64 0, .int .i64 0] 3)) (((w.alloc o).alloc o').alloc (.cells #[.int .i64 0, .int .i64 0, .int .i64 0, .int .i64 0] 3)).heap.size (some ⟨w.heap.size + 1 + 1, 0, none⟩) 4 [0, 0, 0, 0]) := fun o o' => by
        have h := four0 ((w.alloc o).alloc o')
        have e : ((w.alloc o).alloc o').heap.size = w.heap.size + 1 + 1 := by simp
        rw [e] at h
        exact h.more (by simp)
      clear hk hf h0
      go_enter Tryz.func28, Tryz.ntmps28
      go_upto_region 4 with fail
      have HR3 : Hid (CdRow (((w.alloc (.cells #[.int .i64 0, .int .i64 0, .int .i64 0, .int .i64 0, .slice none 0 0, .int .i64 0, .int .i64 0, .slice none 0 0, .int .i64 0] 30)).alloc (.cells #[.int .i64 1, .int .i64 kd, .int .i64 1, .int .i64 0, .slice (some ⟨w.heap.size + 1 + 1, 0, none⟩) 4 4, .int .i64 0, .int .i64 0, .slice none 0 0, .int .i64 0] 30)).alloc (.cells #[.int .i64 0, .int .i64 0, .int .i64 0, .int .i64 0] 3)) w.heap.size zeroC none 0 0 none 0 0) := ((CdRow.new w zeroC none 0 0 none 0 0).below ((Below.refl (w.alloc (.cells #[.int .i64 0, .int .i64 0, .int .i64 0, .int .i64 0, .slice none 0 0, .int .i64 0, .int .i64 0, .slice none 0 0, .int .i64 0] 30)).heap.size (w.alloc (.cells #[.int .i64 0, .int .i64 0, .int .i64 0, .int .i64 0, .slice none 0 0, .int .i64 0, .int .i64 0, .slice none 0 0, .int .i64 0] 30))).alloc (Nat.le_refl _) _) (by simp)).below ((Below.refl (((w.alloc (.cells #[.int .i64 0, .int .i64 0, .int .i64 0, .int .i64 0, .slice none 0 0, .int .i64 0, .int .i64 0, .slice none 0 0, .int .i64 0] 30))).alloc (.cells #[.int .i64 1, .int .i64 kd, .int .i64 1, .int .i64 0, .slice (some ⟨w.heap.size + 1 + 1, 0, none⟩) 4 4, .int .i64 0, .int .i64 0, .slice none 0 0, .int .i64 0] 30)).heap.size (((w.alloc (.cells #[.int .i64 0, .int .i64 0, .int .i64 0, .int .i64 0, .slice none 0 0, .int .i64 0, .int .i64 0, .slice none 0 0, .int .i64 0] 30))).alloc (.cells #[.int .i64 1, .int .i64 kd, .int .i64 1, .int .i64 0, .slice (some ⟨w.heap.size + 1 + 1, 0, none⟩) 4 4, .int .i64 0, .int .i64 0, .slice none 0 0, .int .i64 0] 30))).alloc (Nat.le_refl _) _) (by simp; omega)
      have HG3 : Hid (CdRow (((w.alloc (.cells #[.int .i64 0, .int .i64 0, .int .i64 0, .int .i64 0, .slice none 0 0, .int .i64 0, .int .i64 0, .slice none 0 0, .int .i64 0] 30)).alloc (.cells #[.int .i64 1, .int .i64 kd, .int .i64 1, .int .i64 0, .slice (some ⟨w.heap.size + 1 + 1, 0, none⟩) 4 4, .int .i64 0, .int .i64 0, .slice none 0 0, .int .i64 0] 30)).alloc (.cells #[.int .i64 0, .int .i64 0, .int .i64 0, .int .i64 0] 3)) (w.heap.size + 1) ⟨1, kd, 1, 0, [0, 0, 0, 0], 0, 0, [], 0⟩ (some ⟨w.heap.size + 1 + 1, 0, none⟩) 4 4 none 0 0) := row_at (CdRow.new (w.alloc (.cells #[.int .i64 0, .int .i64 0, .int .i64 0, .int .i64 0, .slice none 0 0, .int .i64 0, .int .i64 0, .slice none 0 0, .int .i64 0] 30)) ⟨1, kd, 1, 0, [0, 0, 0, 0], 0, 0, [], 0⟩ (some ⟨w.heap.size + 1 + 1, 0, none⟩) 4 4 none 0 0) ((Below.refl (((w.alloc (.cells #[.int .i64 0, .int .i64 0, .int .i64 0, .int .i64 0, .slice none 0 0, .int .i64 0, .int .i64 0, .slice none 0 0, .int .i64 0] 30))).alloc (.cells #[.int .i64 1, .int .i64 kd, .int .i64 1, .int .i64 0, .slice (some ⟨w.heap.size + 1 + 1, 0, none⟩) 4 4, .int .i64 0, .int .i64 0, .slice none 0 0, .int .i64 0] 30)).heap.size (((w.alloc (.cells #[.int .i64 0, .int .i64 0, .int .i64 0, .int .i64 0, .slice none 0 0, .int .i64 0, .int .i64 0, .slice none 0 0, .int .i64 0] 30))).alloc (.cells #[.int .i64 1, .int .i64 kd, .int .i64 1, .int .i64 0, .slice (some ⟨w.heap.size + 1 + 1, 0, none⟩) 4 4, .int .i64 0, .int .i64 0, .slice none 0 0, .int .i64 0] 30))).alloc (Nat.le_refl _) _)
      have HC3 : Hid (CdAt (((w.alloc (.cells #[.int .i64 0, .int .i64 0, .int .i64 0, .int .i64 0, .slice none 0 0, .int .i64 0, .int .i64 0, .slice none 0 0, .int .i64 0] 30)).alloc (.cells #[.int .i64 1, .int .i64 kd, .int .i64 1, .int .i64 0, .slice (some ⟨w.heap.size + 1 + 1, 0, none⟩) 4 4, .int .i64 0, .int .i64 0, .slice none 0 0, .int .i64 0] 30)).alloc (.cells #[.int .i64 0, .int .i64 0, .int .i64 0, .int .i64 0] 3)) (((w.alloc (.cells #[.int .i64 0, .int .i64 0, .int .i64 0, .int .i64 0, .slice none 0 0, .int .i64 0, .int .i64 0, .slice none 0 0, .int .i64 0] 30)).alloc (.cells #[.int .i64 1, .int .i64 kd, .int .i64 1, .int .i64 0, .slice (some ⟨w.heap.size + 1 + 1, 0, none⟩) 4 4, .int .i64 0, .int .i64 0, .slice none 0 0, .int .i64 0] 30)).alloc (.cells #[.int .i64 0, .int .i64 0, .int .i64 0, .int .i64 0] 3)).heap.size (cdv ⟨1, kd, 1, 0, [0, 0, 0, 0], 0, 0, [], 0⟩ (some ⟨w.heap.size + 1 + 1, 0, none⟩) 4 4 none 0 0) ⟨1, kd, 1, 0, [0, 0, 0, 0], 0, 0, [], 0⟩) := ⟨_, 4, 4, none, 0, 0, rfl, HI4.out _ _, ⟨rfl, by simp, fun k hk => absurd hk (by omega)⟩, by omega, by omega, (by show Fit 1; decide), HK.out, (by show Fit 1; decide), (by show Fit 0; decide), (by show Fit 0; decide), (by show Fit 0; decide), (by show Fit 0; decide)⟩
      have HB3' : Hid (Below w.heap.size w (((w.alloc (.cells #[.int .i64 0, .int .i64 0, .int .i64 0, .int .i64 0, .slice none 0 0, .int .i64 0, .int .i64 0, .slice none 0 0, .int .i64 0] 30)).alloc (.cells #[.int .i64 1, .int .i64 kd, .int .i64 1, .int .i64 0, .slice (some ⟨w.heap.size + 1 + 1, 0, none⟩) 4 4, .int .i64 0, .int .i64 0, .slice none 0 0, .int .i64 0] 30)).alloc (.cells #[.int .i64 0, .int .i64 0, .int .i64 0, .int .i64 0] 3))) := HB3.out _ _ _
      generalize (((w.alloc (.cells #[.int .i64 0, .int .i64 0, .int .i64 0, .int .i64 0, .slice none 0 0, .int .i64 0, .int .i64 0, .slice none 0 0, .int .i64 0] 30)).alloc (.cells #[.int .i64 1, .int .i64 kd, .int .i64 1, .int .i64 0, .slice (some ⟨w.heap.size + 1 + 1, 0, none⟩) 4 4, .int .i64 0, .int .i64 0, .slice none 0 0, .int .i64 0] 30)).alloc (.cells #[.int .i64 0, .int .i64 0, .int .i64 0, .int .i64 0] 3)) = w3 at *
      have hg3 := HG3.out.lt
      have hr3 := HR3.out.lt
      obtain ⟨e0, e1, e2, e3, e4, e5, e6, e7, e8⟩ := HG3.out.cells
      simp only at e0 e1 e2 e3 e4 e5 e6 e7 e8
      go_wp2_with fail
      refine (rright9_any _ ⟨1, kd, 1, 0, [0, 0, 0, 0], 0, 0, [], 0⟩ w3.heap.size _ w3 rfl HC3.out (Nat.le_refl _)).mono ?_
      rintro e w4 ⟨rfl, b4⟩
      have HR4 := Lib.hid (HR3.out.below b4 hr3)
      have HG4 := Lib.hid (HG3.out.below b4 hg3)
      have HC4 := Lib.hid ((HC3.out.below b4 (Nat.le_refl _)).more b4.size)
      have HB4 := Lib.hid (HB3'.out.trans (b4.mono HB3'.out.size))
      clear e0 e1 e2 e3 e4 e5 e6 e7 e8 b4 HR3 HG3 HC3 HB3'
      obtain ⟨e0, e1, e2, e3, e4, e5, e6, e7, e8⟩ := HG4.out.cells
      obtain ⟨r0, r1, r2, r3, r4, r5, r6, r7, r8⟩ := HR4.out.cells
      have zr := HR4.out.fz
      simp only at e0 e1 e2 e3 e4 e5 e6 e7 e8
      cases hr : rightC ⟨1, kd, 1, 0, [0, 0, 0, 0], 0, 0, [], 0⟩ with
      | true =>
        rw [hr, if_pos rfl] at HE
        go_wp2
        clear e0 e1 e2 e3 e4 e5 e6 e7 e8 r0 r1 r2 r3 r4 r5 r6 r7 r8 zr
        have HR8 : Hid (CdRow (put9 w4 w.heap.size ⟨1, kd, 1, 0, [0, 0, 0, 0], 0, 0, [], 0⟩ (some ⟨w.heap.size + 1 + 1, 0, none⟩) 4 4 none 0 0) w.heap.size ⟨1, kd, 1, 0, [0, 0, 0, 0], 0, 0, [], 0⟩ (some ⟨w.heap.size + 1 + 1, 0, none⟩) 4 4 none 0 0) := put9_row HR4.out
        have HB8 : Hid (Below w.heap.size w (put9 w4 w.heap.size ⟨1, kd, 1, 0, [0, 0, 0, 0], 0, 0, [], 0⟩ (some ⟨w.heap.size + 1 + 1, 0, none⟩) 4 4 none 0 0)) := put9_below HB4.out (Nat.le_refl _)
        have HC8 : Hid (CdAt (put9 w4 w.heap.size ⟨1, kd, 1, 0, [0, 0, 0, 0], 0, 0, [], 0⟩ (some ⟨w.heap.size + 1 + 1, 0, none⟩) 4 4 none 0 0) (put9 w4 w.heap.size ⟨1, kd, 1, 0, [0, 0, 0, 0], 0, 0, [], 0⟩ (some ⟨w.heap.size + 1 + 1, 0, none⟩) 4 4 none 0 0).heap.size (cdv ⟨1, kd, 1, 0, [0, 0, 0, 0], 0, 0, [], 0⟩ (some ⟨w.heap.size + 1 + 1, 0, none⟩) 4 4 none 0 0) ⟨1, kd, 1, 0, [0, 0, 0, 0], 0, 0, [], 0⟩) := cd_put9 HC4.out (Nat.le_refl _) (fun b o e => by injection e with e; injection e with e1; omega) (Fresh.none _)
        unfold put9 at HR8 HB8 HC8
        simp only at HR8 HB8 HC8
        generalize World.setCell _ ⟨w.heap.size, 8, none⟩ _ = w8 at *
        obtain ⟨r0, r1, r2, r3, r4, r5, r6, r7, r8⟩ := HR8.out.cells
        refine bodyPost_ret (v := .tuple #[cdv ⟨1, kd, 1, 0, [0, 0, 0, 0], 0, 0, [], 0⟩ (some ⟨w.heap.size + 1 + 1, 0, none⟩) 4 4 none 0 0, .int .i64 0]) (by simp [results, Tryz.results28, go_sem, r0, r1, r2, r3, r4, r5, r6, r7, r8]) rfl ?_
        rw [HE.out]
        exact ⟨_, rfl, HC8.out, HB8.out⟩
      | false =>
        rw [hr, if_neg (by decide)] at HE
        go_wp2
        clear e0 e1 e2 e3 e4 e5 e6 e7 e8 r0 r1 r2 r3 r4 r5 r6 r7 r8 zr
        have HR8 : Hid (CdRow (put9 w4 w.heap.size zeroC none 0 0 none 0 0) w.heap.size zeroC none 0 0 none 0 0) := put9_row HR4.out
        have HB8 : Hid (Below w.heap.size w (put9 w4 w.heap.size zeroC none 0 0 none 0 0)) := put9_below HB4.out (Nat.le_refl _)
        unfold put9 zeroC at HR8 HB8
        simp only at HR8 HB8
        generalize World.setCell _ ⟨w.heap.size, 8, none⟩ _ = w8 at *
        obtain ⟨r0, r1, r2, r3, r4, r5, r6, r7, r8⟩ := HR8.out.cells
        refine bodyPost_ret (v := .tuple #[cdv zeroC none 0 0 none 0 0, .int .i64 1]) (by simp [results, Tryz.results28, go_sem, r0, r1, r2, r3, r4, r5, r6, r7, r8, zeroC]) rfl ?_
        rw [HE.out]
        exact ⟨_, rfl, cdv_zero _ _, HB8.out⟩
    · by_cases h2 : f = 2
      · subst h2
        have HE := Lib.hid (newC_2 kd)
        have HF := Lib.hid hf
        have HK := Lib.hid hk
        clear hk hf h0 h1
        go_enter Tryz.func28, Tryz.ntmps28
        go_upto_region 4 with fail
        have HR3 : Hid (CdRow ((w.alloc (.cells #[.int .i64 0, .int .i64 0, .int .i64 0, .int .i64 0, .slice none 0 0, .int .i64 0, .int .i64 0, .slice none 0 0, .int .i64 0] 30)).alloc (.cells #[.int .i64 2, .int .i64 kd, .int .i64 1, .int .i64 0, .slice none 0 0, .int .i64 0, .int .i64 0, .slice none 0 0, .int .i64 0] 30)) w.heap.size zeroC none 0 0 none 0 0) := (CdRow.new w zeroC none 0 0 none 0 0).below ((Below.refl (w.alloc (.cells #[.int .i64 0, .int .i64 0, .int .i64 0, .int .i64 0, .slice none 0 0, .int .i64 0, .int .i64 0, .slice none 0 0, .int .i64 0] 30)).heap.size (w.alloc (.cells #[.int .i64 0, .int .i64 0, .int .i64 0, .int .i64 0, .slice none 0 0, .int .i64 0, .int .i64 0, .slice none 0 0, .int .i64 0] 30))).alloc (Nat.le_refl _) _) (by simp)
        have HG3 : Hid (CdRow ((w.alloc (.cells #[.int .i64 0, .int .i64 0, .int .i64 0, .int .i64 0, .slice none 0 0, .int .i64 0, .int .i64 0, .slice none 0 0, .int .i64 0] 30)).alloc (.cells #[.int .i64 2, .int .i64 kd, .int .i64 1, .int .i64 0, .slice none 0 0, .int .i64 0, .int .i64 0, .slice none 0 0, .int .i64 0] 30)) (w.heap.size + 1) ⟨2, kd, 1, 0, [], 0, 0, [], 0⟩ none 0 0 none 0 0) := row_new1 w _ ⟨2, kd, 1, 0, [], 0, 0, [], 0⟩ none 0 0 none 0 0
        have HC3 : Hid (CdAt ((w.alloc (.cells #[.int .i64 0, .int .i64 0, .int .i64 0, .int .i64 0, .slice none 0 0, .int .i64 0, .int .i64 0, .slice none 0 0, .int .i64 0] 30)).alloc (.cells #[.int .i64 2, .int .i64 kd, .int .i64 1, .int .i64 0, .slice none 0 0, .int .i64 0, .int .i64 0, .slice none 0 0, .int .i64 0] 30)) ((w.alloc (.cells #[.int .i64 0, .int .i64 0, .int .i64 0, .int .i64 0, .slice none 0 0, .int .i64 0, .int .i64 0, .slice none 0 0, .int .i64 0] 30)).alloc (.cells #[.int .i64 2, .int .i64 kd, .int .i64 1, .int .i64 0, .slice none 0 0, .int .i64 0, .int .i64 0, .slice none 0 0, .int .i64 0] 30)).heap.size (cdv ⟨2, kd, 1, 0, [], 0, 0, [], 0⟩ none 0 0 none 0 0) ⟨2, kd, 1, 0, [], 0, 0, [], 0⟩) := cd_two 2 HF.out HK.out _ _
        have HB3' : Hid (Below w.heap.size w ((w.alloc (.cells #[.int .i64 0, .int .i64 0, .int .i64 0, .int .i64 0, .slice none 0 0, .int .i64 0, .int .i64 0, .slice none 0 0, .int .i64 0] 30)).alloc (.cells #[.int .i64 2, .int .i64 kd, .int .i64 1, .int .i64 0, .slice none 0 0, .int .i64 0, .int .i64 0, .slice none 0 0, .int .i64 0] 30))) := HB2.out _ _
        generalize ((w.alloc (.cells #[.int .i64 0, .int .i64 0, .int .i64 0, .int .i64 0, .slice none 0 0, .int .i64 0, .int .i64 0, .slice none 0 0, .int .i64 0] 30)).alloc (.cells #[.int .i64 2, .int .i64 kd, .int .i64 1, .int .i64 0, .slice none 0 0, .int .i64 0, .int .i64 0, .slice none 0 0, .int .i64 0] 30)) = w3 at *
        have hg3 := HG3.out.lt
        have hr3 := HR3.out.lt
        obtain ⟨e0, e1, e2, e3, e4, e5, e6, e7, e8⟩ := HG3.out.cells
        simp only at e0 e1 e2 e3 e4 e5 e6 e7 e8
        go_wp2_with fail
        refine (rright9_any _ ⟨2, kd, 1, 0, [], 0, 0, [], 0⟩ w3.heap.size _ w3 rfl HC3.out (Nat.le_refl _)).mono ?_
        rintro e w4 ⟨rfl, b4⟩
        have HR4 := Lib.hid (HR3.out.below b4 hr3)
        have HG4 := Lib.hid (HG3.out.below b4 hg3)
        have HC4 := Lib.hid ((HC3.out.below b4 (Nat.le_refl _)).more b4.size)
        have HB4 := Lib.hid (HB3'.out.trans (b4.mono HB3'.out.size))
        clear e0 e1 e2 e3 e4 e5 e6 e7 e8 b4 HR3 HG3 HC3 HB3'
        obtain ⟨e0, e1, e2, e3, e4, e5, e6, e7, e8⟩ := HG4.out.cells
        obtain ⟨r0, r1, r2, r3, r4, r5, r6, r7, r8⟩ := HR4.out.cells
        have zr := HR4.out.fz
        simp only at e0 e1 e2 e3 e4 e5 e6 e7 e8
        cases hr : rightC ⟨2, kd, 1, 0, [], 0, 0, [], 0⟩ with
        | true =>
          rw [hr, if_pos rfl] at HE
          go_wp2
          clear e0 e1 e2 e3 e4 e5 e6 e7 e8 r0 r1 r2 r3 r4 r5 r6 r7 r8 zr
          have HR8 : Hid (CdRow (put9 w4 w.heap.size ⟨2, kd, 1, 0, [], 0, 0, [], 0⟩ none 0 0 none 0 0) w.heap.size ⟨2, kd, 1, 0, [], 0, 0, [], 0⟩ none 0 0 none 0 0) := put9_row HR4.out
          have HB8 : Hid (Below w.heap.size w (put9 w4 w.heap.size ⟨2, kd, 1, 0, [], 0, 0, [], 0⟩ none 0 0 none 0 0)) := put9_below HB4.out (Nat.le_refl _)
          have HC8 : Hid (CdAt (put9 w4 w.heap.size ⟨2, kd, 1, 0, [], 0, 0, [], 0⟩ none 0 0 none 0 0) (put9 w4 w.heap.size ⟨2, kd, 1, 0, [], 0, 0, [], 0⟩ none 0 0 none 0 0).heap.size (cdv ⟨2, kd, 1, 0, [], 0, 0, [], 0⟩ none 0 0 none 0 0) ⟨2, kd, 1, 0, [], 0, 0, [], 0⟩) := cd_put9 HC4.out (Nat.le_refl _) (Fresh.none _) (Fresh.none _)
          unfold put9 at HR8 HB8 HC8
          simp only at HR8 HB8 HC8
          generalize World.setCell _ ⟨w.heap.size, 8, none⟩ _ = w8 at *
          obtain ⟨r0, r1, r2, r3, r4, r5, r6, r7, r8⟩ := HR8.out.cells
          refine bodyPost_ret (v := .tuple #[cdv ⟨2, kd, 1, 0, [], 0, 0, [], 0⟩ none 0 0 none 0 0, .int .i64 0]) (by simp [results, Tryz.results28, go_sem, r0, r1, r2, r3, r4, r5, r6, r7, r8]) rfl ?_
          rw [HE.out]
          exact ⟨_, rfl, HC8.out, HB8.out⟩
        | false =>
          rw [hr, if_neg (by decide)] at HE
          go_wp2
          clear e0 e1 e2 e3 e4 e5 e6 e7 e8 r0 r1 r2 r3 r4 r5 r6 r7 r8 zr
          have HR8 : Hid (CdRow (put9 w4 w.heap.size zeroC none 0 0 none 0 0) w.heap.size zeroC none 0 0 none 0 0) := put9_row HR4.out
          have HB8 : Hid (Below w.heap.size w (put9 w4 w.heap.size zeroC none 0 0 none 0 0)) := put9_below HB4.out (Nat.le_refl _)
          unfold put9 zeroC at HR8 HB8
          simp only at HR8 HB8
          generalize World.setCell _ ⟨w.heap.size, 8, none⟩ _ = w8 at *
          obtain ⟨r0, r1, r2, r3, r4, r5, r6, r7, r8⟩ := HR8.out.cells
          refine bodyPost_ret (v := .tuple #[cdv zeroC none 0 0 none 0 0, .int .i64 1]) (by simp [results, Tryz.results28, go_sem, r0, r1, r2, r3, r4, r5, r6, r7, r8, zeroC]) rfl ?_
          rw [HE.out]
          exact ⟨_, rfl, cdv_zero _ _, HB8.out⟩
      · have HE := Lib.hid (newC_0 kd h1 h2)
        have HRF := Lib.hid (right_new0 kd h1 h2)
        have d0 : (f == 0) = false := by simpa using h0
        have d1 : (f == 1) = false := by simpa using h1
        have HF := Lib.hid hf
        have HK := Lib.hid hk
        clear hk hf h0 h1 h2
        go_enter Tryz.func28, Tryz.ntmps28
        go_upto_region 4 with fail
        have HR3 : Hid (CdRow ((w.alloc (.cells #[.int .i64 0, .int .i64 0, .int .i64 0, .int .i64 0, .slice none 0 0, .int .i64 0, .int .i64 0, .slice none 0 0, .int .i64 0] 30)).alloc (.cells #[.int .i64 f, .int .i64 kd, .int .i64 1, .int .i64 0, .slice none 0 0, .int .i64 0, .int .i64 0, .slice none 0 0, .int .i64 0] 30)) w.heap.size zeroC none 0 0 none 0 0) := (CdRow.new w zeroC none 0 0 none 0 0).below ((Below.refl (w.alloc (.cells #[.int .i64 0, .int .i64 0, .int .i64 0, .int .i64 0, .slice none 0 0, .int .i64 0, .int .i64 0, .slice none 0 0, .int .i64 0] 30)).heap.size (w.alloc (.cells #[.int .i64 0, .int .i64 0, .int .i64 0, .int .i64 0, .slice none 0 0, .int .i64 0, .int .i64 0, .slice none 0 0, .int .i64 0] 30))).alloc (Nat.le_refl _) _) (by simp)
        have HG3 : Hid (CdRow ((w.alloc (.cells #[.int .i64 0, .int .i64 0, .int .i64 0, .int .i64 0, .slice none 0 0, .int .i64 0, .int .i64 0, .slice none 0 0, .int .i64 0] 30)).alloc (.cells #[.int .i64 f, .int .i64 kd, .int .i64 1, .int .i64 0, .slice none 0 0, .int .i64 0, .int .i64 0, .slice none 0 0, .int .i64 0] 30)) (w.heap.size + 1) ⟨f, kd, 1, 0, [], 0, 0, [], 0⟩ none 0 0 none 0 0) := row_new1 w _ ⟨f, kd, 1, 0, [], 0, 0, [], 0⟩ none 0 0 none 0 0
        have HC3 : Hid (CdAt ((w.alloc (.cells #[.int .i64 0, .int .i64 0, .int .i64 0, .int .i64 0, .slice none 0 0, .int .i64 0, .int .i64 0, .slice none 0 0, .int .i64 0] 30)).alloc (.cells #[.int .i64 f, .int .i64 kd, .int .i64 1, .int .i64 0, .slice none 0 0, .int .i64 0, .int .i64 0, .slice none 0 0, .int .i64 0] 30)) ((w.alloc (.cells #[.int .i64 0, .int .i64 0, .int .i64 0, .int .i64 0, .slice none 0 0, .int .i64 0, .int .i64 0, .slice none 0 0, .int .i64 0] 30)).alloc (.cells #[.int .i64 f, .int .i64 kd, .int .i64 1, .int .i64 0, .slice none 0 0, .int .i64 0, .int .i64 0, .slice none 0 0, .int .i64 0] 30)).heap.size (cdv ⟨f, kd, 1, 0, [], 0, 0, [], 0⟩ none 0 0 none 0 0) ⟨f, kd, 1, 0, [], 0, 0, [], 0⟩) := cd_two f HF.out HK.out _ _
        have HB3' : Hid (Below w.heap.size w ((w.alloc (.cells #[.int .i64 0, .int .i64 0, .int .i64 0, .int .i64 0, .slice none 0 0, .int .i64 0, .int .i64 0, .slice none 0 0, .int .i64 0] 30)).alloc (.cells #[.int .i64 f, .int .i64 kd, .int .i64 1, .int .i64 0, .slice none 0 0, .int .i64 0, .int .i64 0, .slice none 0 0, .int .i64 0] 30))) := HB2.out _ _
        generalize ((w.alloc (.cells #[.int .i64 0, .int .i64 0, .int .i64 0, .int .i64 0, .slice none 0 0, .int .i64 0, .int .i64 0, .slice none 0 0, .int .i64 0] 30)).alloc (.cells #[.int .i64 f, .int .i64 kd, .int .i64 1, .int .i64 0, .slice none 0 0, .int .i64 0, .int .i64 0, .slice none 0 0, .int .i64 0] 30)) = w3 at *
        have hg3 := HG3.out.lt
        have hr3 := HR3.out.lt
        obtain ⟨e0, e1, e2, e3, e4, e5, e6, e7, e8⟩ := HG3.out.cells
        simp only at e0 e1 e2 e3 e4 e5 e6 e7 e8
        go_wp2_with fail
        refine (rright9_any _ ⟨f, kd, 1, 0, [], 0, 0, [], 0⟩ w3.heap.size _ w3 rfl HC3.out (Nat.le_refl _)).mono ?_
        rintro e w4 ⟨rfl, b4⟩
        have HR4 := Lib.hid (HR3.out.below b4 hr3)
        have HG4 := Lib.hid (HG3.out.below b4 hg3)
        have HC4 := Lib.hid ((HC3.out.below b4 (Nat.le_refl _)).more b4.size)
        have HB4 := Lib.hid (HB3'.out.trans (b4.mono HB3'.out.size))
        clear e0 e1 e2 e3 e4 e5 e6 e7 e8 b4 HR3 HG3 HC3 HB3'
        obtain ⟨e0, e1, e2, e3, e4, e5, e6, e7, e8⟩ := HG4.out.cells
        obtain ⟨r0, r1, r2, r3, r4, r5, r6, r7, r8⟩ := HR4.out.cells
        have zr := HR4.out.fz
        simp only at e0 e1 e2 e3 e4 e5 e6 e7 e8
        rw [HRF.out]
        go_wp2
        clear e0 e1 e2 e3 e4 e5 e6 e7 e8 r0 r1 r2 r3 r4 r5 r6 r7 r8 zr
        have HR8 : Hid (CdRow (put9 w4 w.heap.size zeroC none 0 0 none 0 0) w.heap.size zeroC none 0 0 none 0 0) := put9_row HR4.out
        have HB8 : Hid (Below w.heap.size w (put9 w4 w.heap.size zeroC none 0 0 none 0 0)) := put9_below HB4.out (Nat.le_refl _)
        unfold put9 zeroC at HR8 HB8
        simp only at HR8 HB8
        generalize World.setCell _ ⟨w.heap.size, 8, none⟩ _ = w8 at *
        obtain ⟨r0, r1, r2, r3, r4, r5, r6, r7, r8⟩ := HR8.out.cells
        refine bodyPost_ret (v := .tuple #[cdv zeroC none 0 0 none 0 0, .int .i64 1]) (by simp [results, Tryz.results28, go_sem, r0, r1, r2, r3, r4, r5, r6, r7, r8, zeroC]) rfl ?_
        rw [HE.out]
        exact ⟨_, rfl, cdv_zero _ _, HB8.out⟩
end Go.Proofs.YtgdlfiejjnjcpaaGreat
