/-
  WALKS: Apart and what it calls, at the two spans of the chapter's example. No condition.
-/
import Derived.Test.YtcillodbkgopdaaCut
namespace Go.Proofs.Ytcillodbkgopdaa
open Go.RowKit

set_option maxHeartbeats 1000000 in
theorem del_any (s : Sp) (w : World) (h : 1 ≤ s.len) : Calls Try.prog 29 #[s.val] w fun e w' => e = .returned (.bool false) ∧ Below w.heap.size w w' := by
  have HLI := Lib.hid (listed_any s)
  obtain ⟨aa, ap, al⟩ := s
  simp only at h
  obtain ⟨q, hq⟩ : ∃ q : Int, q = min (max al 0) 65536 := ⟨_, rfl⟩
  simp only at HLI
  rw [← hq] at HLI
  have h0 : (q == 0) = false := by simp; omega
  clear hq
  go_enter Try.func29, Try.ntmps29
  go_wp2_with fail
  refine (HLI.out _).mono ?_
  rintro e w1 ⟨rfl, b1⟩
  go_wp2
  go_ret
  exact ⟨rfl, ((Below.refl _ _).alloc (Nat.le_refl _) _).trans (b1.mono (by simp))⟩

set_option maxHeartbeats 1000000 in
theorem nan_any (x : Int) (w : World) : Calls Try.prog 36 #[.int .i64 x] w fun e w' => e = .returned (.bool false) ∧ w = w' := by
  go_enter Try.func36, Try.ntmps36
  go_wp2
  go_ret
  exact ⟨rfl, rfl⟩

set_option maxHeartbeats 1000000 in
theorem cmp_gt (x y : Int) (w : World) (h : y < x) : Calls Try.prog 32 #[.int .i64 x, .int .i64 y] w fun e w' => e = .returned (.int .i64 1) ∧ w = w' := by
  have d1 : decide (x < y) = false := by simp; omega
  have d2 : decide (y < x) = true := by simpa using h
  go_enter Try.func32, Try.ntmps32
  go_wp2_with (go_at_call 36; refine (nan_any _ _).mono ?_; rintro e w' ⟨rfl, rfl⟩)
  go_ret
  exact ⟨rfl, rfl⟩

set_option maxHeartbeats 1000000 in
theorem less_gt (s t : Sp) (w : World) (h : t.st < s.st) : Calls Try.prog 31 #[s.val, t.val] w fun e w' => e = .returned (.int .i64 1) ∧ Below w.heap.size w w' := by
  obtain ⟨aa, ap, al⟩ := s
  obtain ⟨ba, bp, bl⟩ := t
  simp only at h
  have HC := Lib.hid (fun w => cmp_gt ap bp w h)
  go_enter Try.func31, Try.ntmps31
  go_wp2_with fail
  refine (HC.out _).mono ?_
  rintro e w1 ⟨rfl, rfl⟩
  go_wp2
  go_ret
  exact ⟨rfl, ((Below.refl _ _).alloc (Nat.le_refl _) _).alloc (by simp) _⟩

set_option maxHeartbeats 1000000 in
set_option maxRecDepth 100000 in
theorem len64_two (w : World) : Calls Try.prog 46 #[.int .u64 2] w fun e w' => e = .returned (.int .i64 2) ∧ w = w' := by
  go_enter Try.func46, Try.ntmps46
  go_wp2
  go_ret
  exact ⟨ret_int (by decide +kernel), rfl⟩
set_option maxHeartbeats 1000000 in
theorem len_two (w : World) : Calls Try.prog 35 #[.int .u64 2] w fun e w' => e = .returned (.int .i64 2) ∧ w = w' := by
  go_enter Try.func35, Try.ntmps35
  go_wp2_with (go_at_call 46; refine (len64_two _).mono ?_; rintro e w' ⟨rfl, rfl⟩)
  go_ret
  exact ⟨rfl, rfl⟩

abbrev s1 : Sp := ⟨0, 7, 2⟩
abbrev s2 : Sp := ⟨3, 9, 2⟩
abbrev two : List Sp := [s1, s2]

/-- the six cells of the two spans, in block g from o on. -/
def TwoAt (w : World) (g o : Nat) : Prop := w.cell? ⟨g, o, none⟩ = some (.int .i64 0) ∧ w.cell? ⟨g, o + 1, none⟩ = some (.int .i64 7) ∧ w.cell? ⟨g, o + 2, none⟩ = some (.int .i64 2) ∧
  w.cell? ⟨g, o + 3, none⟩ = some (.int .i64 3) ∧ w.cell? ⟨g, o + 4, none⟩ = some (.int .i64 9) ∧ w.cell? ⟨g, o + 5, none⟩ = some (.int .i64 2)
theorem TwoAt.below {w w' : World} {g o C : Nat} (h : TwoAt w g o) (hb : Below C w w') (hg : g < C) : TwoAt w' g o := by
  obtain ⟨h1, h2, h3, h4, h5, h6⟩ := h
  exact ⟨bcell hb h1 hg, bcell hb h2 hg, bcell hb h3 hg, bcell hb h4 hg, bcell hb h5 hg, bcell hb h6 hg⟩
theorem TwoAt.lt {w : World} {g o : Nat} (h : TwoAt w g o) : g < w.heap.size := World.block_lt_of_cell? w _ h.1

theorem TwoAt.far {w : World} {g o p j : Nat} (h : TwoAt w g o) (hne : g ≠ p) (u : Value) : TwoAt (w.setCell ⟨p, j, none⟩ u) g o := by
  obtain ⟨h1, h2, h3, h4, h5, h6⟩ := h
  have key : ∀ i, (w.setCell ⟨p, j, none⟩ u).cell? ⟨g, i, none⟩ = w.cell? ⟨g, i, none⟩ := fun i => World.cell?_setCell_other _ _ _ _ (by intro e; exact hne (congrArg Addr.block e).symm)
  exact ⟨(key _).trans h1, (key _).trans h2, (key _).trans h3, (key _).trans h4, (key _).trans h5, (key _).trans h6⟩

set_option maxHeartbeats 1000000 in
theorem index_two (g c : Nat) (w : World) (h : TwoAt w g 0) : Calls Try.prog 33 #[.slice (some ⟨g, 0, none⟩) 2 c, .func (.func 29) #[] #[]] w fun e w' => e = .returned (.int .i64 (-1)) ∧ Below w.heap.size w w' := by
  have hgl := h.lt
  have HT := Lib.hid h
  clear h
  go_enter Try.func33, Try.ntmps33
  go_wp2
  go_loopw [5, 8] (fun _ i wr => ∃ k : Nat, k ≤ 2 ∧ i = .int .i64 (k : Int) ∧ Below w.heap.size w wr) (fun _ i _ => 2 - (intOf i).toNat)
  case atStart => exact ⟨0, by omega, rfl, Below.refl _ _⟩
  case round =>
    obtain ⟨k, hk, rfl, hb⟩ := hrel
    obtain ⟨k1, k2, k3, k4, k5, k6⟩ := HT.out.below hb hgl
    have HB := Lib.hid hb
    clear hb
    have h3 : k = 0 ∨ k = 1 ∨ k = 2 := by omega
    rcases h3 with rfl | rfl | rfl
    · go_wp2_with fail
      refine (del_any s1 _ (by decide)).mono ?_
      rintro e w2 ⟨rfl, b2⟩
      go_wp2
      go_roundw
      case rel => exact ⟨1, by omega, by go_num, HB.out.trans (b2.mono HB.out.size)⟩
      case measure => simp [intOf]
    · go_wp2_with fail
      refine (del_any s2 _ (by decide)).mono ?_
      rintro e w2 ⟨rfl, b2⟩
      go_wp2
      go_roundw
      case rel => exact ⟨2, by omega, by go_num, HB.out.trans (b2.mono HB.out.size)⟩
      case measure => simp [intOf]
    · go_wp2
      go_ret
      exact ⟨rfl, HB.out⟩

set_option maxHeartbeats 1000000 in
theorem delete_two (g c : Nat) (w : World) (h : TwoAt w g 0) : Calls Try.prog 27 #[.slice (some ⟨g, 0, none⟩) 2 c, .func (.func 29) #[] #[]] w fun e w' => e = .returned (.slice (some ⟨g, 0, none⟩) 2 c) ∧ Below w.heap.size w w' := by
  have HI := Lib.hid (index_two g c w h)
  clear h
  go_enter Try.func27, Try.ntmps27
  go_wp2_with fail
  refine HI.out.mono ?_
  rintro e w1 ⟨rfl, b1⟩
  go_wp2
  go_ret
  exact ⟨rfl, b1⟩

set_option maxHeartbeats 2000000 in
theorem insertion_two (g c : Nat) (w : World) (h : TwoAt w g 0) : Calls Try.prog 37 #[.slice (some ⟨g, 0, none⟩) 2 c, .int .i64 0, .int .i64 2, .func (.func 31) #[] #[]] w fun e w' => e = .returned (.tuple #[]) ∧ Below w.heap.size w w' := by
  have hgl := h.lt
  have HT := Lib.hid h
  clear h
  go_enter Try.func37, Try.ntmps37
  go_wp2
  go_loopw [8, 9] (fun i _ wr => ∃ k : Nat, 1 ≤ k ∧ k ≤ 2 ∧ i = .int .i64 (k : Int) ∧ Below w.heap.size w wr) (fun i _ _ => 2 - (intOf i).toNat)
  case atStart => exact ⟨1, by omega, by omega, rfl, Below.refl _ _⟩
  case round =>
    obtain ⟨k, hk1, hk, rfl, hb⟩ := hrel
    obtain ⟨k1, k2, k3, k4, k5, k6⟩ := HT.out.below hb hgl
    have HB := Lib.hid hb
    have hws := hb.size
    clear hb
    have h3 : k = 1 ∨ k = 2 := by omega
    rcases h3 with rfl | rfl
    · go_wp2
      go_loopw [9] (fun i wi => i = .int .i64 1 ∧ Below w.heap.size w wi) (fun _ _ => 0)
      case atStart => exact ⟨rfl, HB.out⟩
      case round =>
        obtain ⟨rfl, hb'⟩ := hrel
        obtain ⟨k1, k2, k3, k4, k5, k6⟩ := HT.out.below hb' hgl
        simp only [Nat.zero_add] at k1 k2 k3 k4 k5 k6
        have HB' := Lib.hid hb'
        have hgl' : g < wr.heap.size := Nat.lt_of_lt_of_le hgl hb'.size
        clear hb'
        go_wp2_with fail
        have x0 : IntKind.i64.wrap 0 = 0 := by decide
        go_region_held3 (fun w' => w'.cell? ⟨g, 0, none⟩ = some (.int .i64 0) ∧ w'.cell? ⟨g, 1, none⟩ = some (.int .i64 7) ∧ w'.cell? ⟨g, 2, none⟩ = some (.int .i64 2) ∧ w'.cell? ⟨g, 3, none⟩ = some (.int .i64 3) ∧ w'.cell? ⟨g, 4, none⟩ = some (.int .i64 9) ∧ w'.cell? ⟨g, 5, none⟩ = some (.int .i64 2))
          (first | exact ⟨k1, k2, k3, k4, k5, k6⟩ | exact ⟨l1, l2, l3, l4, l5, l6⟩)
          (first
            | (go_at_call 31
               go_fit (less_gt s2 s1 _ (by decide))
               rintro e w3 ⟨rfl, b3'⟩
               have b3 := undrew b3'
               clear b3'
               have l1 := bcell b3 (a := ⟨g, 0, none⟩) k1 hgl'
               have l2 := bcell b3 (a := ⟨g, 1, none⟩) k2 hgl'
               have l3 := bcell b3 (a := ⟨g, 2, none⟩) k3 hgl'
               have l4 := bcell b3 (a := ⟨g, 3, none⟩) k4 hgl'
               have l5 := bcell b3 (a := ⟨g, 4, none⟩) k5 hgl'
               have l6 := bcell b3 (a := ⟨g, 5, none⟩) k6 hgl'
               have HB3 : Hid (Below w.heap.size w w3) := HB'.out.trans (b3.mono HB'.out.size)
               clear b3))
        go_wp2
        go_roundw
        case rel => exact ⟨2, by omega, by omega, by go_num, HB3.out⟩
        case measure => simp [intOf]
    · go_wp2
      go_end0
      exact ⟨rfl, HB.out⟩

set_option maxHeartbeats 2000000 in
set_option maxRecDepth 100000 in
theorem pdq_two (g c : Nat) (w : World) (h : TwoAt w g 0) : Calls Try.prog 34 #[.slice (some ⟨g, 0, none⟩) 2 c, .int .i64 0, .int .i64 2, .int .i64 2, .func (.func 31) #[] #[]] w fun e w' => e = .returned (.tuple #[]) ∧ Below w.heap.size w w' := by
  have HI := Lib.hid (insertion_two g c w h)
  clear h
  go_enter Try.func34, Try.ntmps34
  go_wp2
  go_loopw [1, 2] (fun a b wr => a = .int .i64 0 ∧ b = .int .i64 2 ∧ wr = w) (fun _ _ _ => 0)
  case atStart => exact ⟨rfl, rfl, rfl⟩
  case round =>
    obtain ⟨rfl, rfl, rfl⟩ := hrel
    go_wp2_with fail
    refine HI.out.mono ?_
    rintro e w1 ⟨rfl, b1⟩
    go_wp2
    refine bodyPost_ret (results_none rfl _ _ _) rfl ?_
    exact ⟨rfl, b1⟩

set_option maxHeartbeats 2000000 in
theorem sort_two (g c : Nat) (w : World) (h : TwoAt w g 0) : Calls Try.prog 30 #[.slice (some ⟨g, 0, none⟩) 2 c, .func (.func 31) #[] #[]] w fun e w' => e = .returned (.tuple #[]) ∧ Below w.heap.size w w' := by
  have HI := Lib.hid (pdq_two g c w h)
  clear h
  go_enter Try.func30, Try.ntmps30
  go_wp2_with fail
  refine (len_two _).mono ?_
  rintro e w1 ⟨rfl, rfl⟩
  go_wp2_with fail
  refine HI.out.mono ?_
  rintro e w1 ⟨rfl, b1⟩
  go_wp2
  go_end0
  exact ⟨rfl, b1⟩

theorem TwoAt.news {w : World} {b o : Nat} (h : TwoAt w b o) : ∀ j u, (spsCells two)[j]? = some u → w.cell? ((⟨b, o, none⟩ : Addr).add j) = some u := by
  obtain ⟨h1, h2, h3, h4, h5, h6⟩ := h
  intro j u hu
  rw [Go.WideShapes.add_plain]
  have e : spsCells two = [.int .i64 0, .int .i64 7, .int .i64 2, .int .i64 3, .int .i64 9, .int .i64 2] := rfl
  rw [e] at hu
  match j, hu with
  | 0, hu => cases hu; exact h1
  | 1, hu => cases hu; exact h2
  | 2, hu => cases hu; exact h3
  | 3, hu => cases hu; exact h4
  | 4, hu => cases hu; exact h5
  | 5, hu => cases hu; exact h6
  | j + 6, hu => simp at hu
theorem two_one : ∀ u ∈ spsCells two, u.oneCell' = true := by
  intro u hu
  obtain ⟨s, _, hs⟩ := List.mem_flatMap.1 hu
  exact one_sp s u hs
theorem TwoAt.of_own {w : World} {base g cap : Nat} (h : w.ownsRow base 38 3 (.slice (some ⟨g, 0, none⟩) 2 cap) 2 (spsCells two)) : TwoAt w g 0 := by
  refine ⟨?_, ?_, ?_, ?_, ?_, ?_⟩
  all_goals
    rw [h.cellAt _ (by omega)]
    rfl

def RetTwo (w : World) (e : Ending) (w' : World) : Prop := ∃ g cap, e = .returned (.slice (some ⟨g, 0, none⟩) 2 cap) ∧ TwoAt w' g 0 ∧ w.heap.size ≤ g ∧ Below w.heap.size w w'

set_option maxHeartbeats 2000000 in
theorem clone_two (b o c : Nat) (w : World) (h : TwoAt w b o) : Calls Try.prog 28 #[.slice (some ⟨b, o, none⟩) 2 c] w (RetTwo w) := by
  obtain ⟨i0, hi, hz0, hz1, hz2⟩ := info_parts info38
  have hbl := h.lt
  have HT : Hid (TwoAt (w.alloc (.cells #[] 38)) b o) := h.below ((Below.refl w.heap.size w).alloc (Nat.le_refl _) _) hbl
  clear h
  have hq : (binOp .eql 23 (.slice (some ⟨b, o, none⟩) 2 c) (.slice none 0 0)).run Try.prog w = .ok (.bool false) w := by kernel_rfl
  go_enter Try.func28, Try.ntmps28
  go_wp2_with (at_builtin; refine wpList_append_lies _ rfl (.tmp 5) (.tmp 6) 23 rfl w.heap.size 38 i0 _ 3 24 Try.underlying23 hi hz0 hz1 hz2 rfl (by decide) (.slice (some ⟨w.heap.size, 0, none⟩) 0 0) 0 [] rfl (World.ownsRow_lit w #[] 0 (Nat.le_refl _) (by unfold maxLen; omega) rfl) ⟨b, o, none⟩ 2 c (spsCells two) rfl rfl HT.out.news two_one (by omega) (by unfold maxLen; omega) (by omega) (by simp) _ rfl ?_; intro g cap w1 hown hg hat hlt)
  go_ret
  refine ⟨g, cap, rfl, TwoAt.of_own hown, ?_, ((Below.refl w.heap.size w).alloc (Nat.le_refl _) _).grown hg (by simp) (fun k hk => ?_)⟩
  · rcases hat with e | e
    · have : w.heap.size = g := by simpa [Value.ownBlock] using e
      omega
    · rw [e]; simp
  · have : w.heap.size = k := by simpa [Value.ownBlock] using hk
    omega

set_option maxHeartbeats 4000000 in
theorem apart_two (b o c : Nat) (w : World) (h : TwoAt w b o) : Calls Try.prog 20 #[.slice (some ⟨b, o, none⟩) 2 c] w fun e w' => e = .returned (.bool true) ∧ Below w.heap.size w w' := by
  go_enter Try.func20, Try.ntmps20
  go_wp2_with fail
  refine (clone_two b o c w h).mono ?_
  rintro e w1 ⟨g, cap, rfl, t1, hg1, b1⟩
  have HT1 := Lib.hid t1
  have HB1 := Lib.hid b1
  clear h b1
  go_wp2_with fail
  refine (delete_two g cap w1 t1).mono ?_
  rintro e w2 ⟨rfl, b2⟩
  have HT2 := Lib.hid (t1.below b2 t1.lt)
  have HB2 := Lib.hid (HB1.out.trans (b2.mono HB1.out.size))
  clear t1 b2
  go_wp2_with fail
  refine (sort_two g cap w2 HT2.out).mono ?_
  rintro e w3 ⟨rfl, b3⟩
  have HT3 := Lib.hid (HT2.out.below b3 HT2.out.lt)
  have HB3 := Lib.hid (HB2.out.trans (b3.mono HB2.out.size))
  clear b3
  obtain ⟨k1, k2, k3, k4, k5, k6⟩ := HT3.out
  simp only [Nat.zero_add] at k1 k2 k3 k4 k5 k6
  have hgl := HT3.out.lt
  have hws := HB3.out.size
  have HST0 := Lib.hid (StAt.new w3 3 9 2)
  have HB4 : Hid (Below w.heap.size w (w3.alloc (.cells #[.int .i64 3, .int .i64 9, .int .i64 2] 38))) := HB3.out.alloc hws _
  have HT4 : Hid (TwoAt (w3.alloc (.cells #[.int .i64 3, .int .i64 9, .int .i64 2] 38)) g 0) := HT3.out.below ((Below.refl w3.heap.size w3).alloc (Nat.le_refl _) _) hgl
  go_wp2
  go_loopw [6, 23] (fun _ i wr => ∃ k : Nat, k ≤ 2 ∧ i = .int .i64 (k : Int) ∧ StAt wr w3.heap.size (if k = 1 then 0 else 3) (if k = 1 then 7 else 9) 2 ∧ TwoAt wr g 0 ∧ Below w.heap.size w wr) (fun _ i _ => 2 - (intOf i).toNat)
  case atStart => exact ⟨0, by omega, rfl, HST0.out, HT4.out, HB4.out⟩
  case round =>
    obtain ⟨k, hk, rfl, hst, htw, hb⟩ := hrel
    clear k1 k2 k3 k4 k5 k6
    have hgr := htw.lt
    have htw' := htw
    obtain ⟨k1, k2, k3, k4, k5, k6⟩ := htw'
    simp only [Nat.zero_add] at k1 k2 k3 k4 k5 k6
    have HB := Lib.hid hb
    have hbs := hb.size
    clear hb
    have h3 : k = 0 ∨ k = 1 ∨ k = 2 := by omega
    rcases h3 with rfl | rfl | rfl
    · have hst0 : StAt wr w3.heap.size 3 9 2 := hst
      have HST := Lib.hid hst0
      have x1 := hst0.c0
      have x2 := hst0.c1
      have x3 := hst0.c2
      have y1 : (wr.alloc (.cells #[.int .i64 0, .int .i64 7, .int .i64 2] 38)).cell? ⟨w3.heap.size, 0, none⟩ = some (.int .i64 3) := (World.cell?_alloc_lt wr _ _ hst0.lt).trans x1
      have y2 : (wr.alloc (.cells #[.int .i64 0, .int .i64 7, .int .i64 2] 38)).cell? ⟨w3.heap.size, 1, none⟩ = some (.int .i64 9) := (World.cell?_alloc_lt wr _ _ hst0.lt).trans x2
      have y3 : (wr.alloc (.cells #[.int .i64 0, .int .i64 7, .int .i64 2] 38)).cell? ⟨w3.heap.size, 2, none⟩ = some (.int .i64 2) := (World.cell?_alloc_lt wr _ _ hst0.lt).trans x3
      have n1 : (wr.alloc (.cells #[.int .i64 0, .int .i64 7, .int .i64 2] 38)).cell? ⟨wr.heap.size, 1, none⟩ = some (.int .i64 7) := cell_new wr _ 38 1 rfl
      have hpl := hst0.lt
      have HB1 : Hid (Below w.heap.size w (wr.alloc (.cells #[.int .i64 0, .int .i64 7, .int .i64 2] 38))) := HB.out.alloc hbs _
      have HSN := Lib.hid (StAt.new wr 0 7 2)
      have HSO : Hid (StAt (wr.alloc (.cells #[.int .i64 0, .int .i64 7, .int .i64 2] 38)) w3.heap.size 3 9 2) := hst0.below ((Below.refl wr.heap.size wr).alloc (Nat.le_refl _) _) hpl
      have HTN : Hid (TwoAt (wr.alloc (.cells #[.int .i64 0, .int .i64 7, .int .i64 2] 38)) g 0) := htw.below ((Below.refl wr.heap.size wr).alloc (Nat.le_refl _) _) hgr
      clear hst hst0 x1 x2 x3
      go_wp2_with fail
      go_region_held3 (fun w' => w'.cell? ⟨w3.heap.size, 0, none⟩ = some (.int .i64 3) ∧ w'.cell? ⟨w3.heap.size, 1, none⟩ = some (.int .i64 9) ∧ w'.cell? ⟨w3.heap.size, 2, none⟩ = some (.int .i64 2) ∧ w'.cell? ⟨wr.heap.size, 1, none⟩ = some (.int .i64 7))
        (first | exact ⟨y1, y2, y3, n1⟩ | exact ⟨y1', y2', y3', n1'⟩)
        (first
          | (go_at_call 26
             go_fit (listed_any ⟨3, 9, 2⟩ _)
             rintro e w5 ⟨rfl, b5'⟩
             have b5 := undrew b5'
             clear b5'
             have y1' := bcell b5 (a := ⟨w3.heap.size, 0, none⟩) y1 (by simp; omega)
             have y2' := bcell b5 (a := ⟨w3.heap.size, 1, none⟩) y2 (by simp; omega)
             have y3' := bcell b5 (a := ⟨w3.heap.size, 2, none⟩) y3 (by simp; omega)
             have n1' := bcell b5 (a := ⟨wr.heap.size, 1, none⟩) n1 (by simp)
             have HB5 : Hid (Below w.heap.size w w5) := HB1.out.trans (b5.mono HB1.out.size)
             have HS5 : Hid (StAt w5 wr.heap.size 0 7 2) := HSN.out.below b5 (by simp)
             have HO5 : Hid (StAt w5 w3.heap.size 3 9 2) := HSO.out.below b5 (by simp; omega)
             have HT5 : Hid (TwoAt w5 g 0) := HTN.out.below b5 (by simp; omega)
             clear b5))
      have z1 := HS5.out.c0
      have z2 := HS5.out.c1
      have z3 := HS5.out.c2
      have v1 := HO5.out.c0
      have v2 := HO5.out.c1
      have v3 := HO5.out.c2
      have f1 := HO5.out.fz 0
      have f2 := HO5.out.fz 1
      have f3 := HO5.out.fz 2
      have HFS := Lib.hid (((HO5.out.set0 0).set1 7).set2 2)
      have HFB : Hid (Below w.heap.size w (((w5.setCell ⟨w3.heap.size, 0, none⟩ (.int .i64 0)).setCell ⟨w3.heap.size, 1, none⟩ (.int .i64 7)).setCell ⟨w3.heap.size, 2, none⟩ (.int .i64 2))) := ((HB5.out.setCell hws _).setCell hws _).setCell hws _
      have HFT : Hid (TwoAt (((w5.setCell ⟨w3.heap.size, 0, none⟩ (.int .i64 0)).setCell ⟨w3.heap.size, 1, none⟩ (.int .i64 7)).setCell ⟨w3.heap.size, 2, none⟩ (.int .i64 2)) g 0) := ((HT5.out.far (by omega) _).far (by omega) _).far (by omega) _
      clear y1 y2 y3 n1
      go_wp2
      go_roundw
      case rel => exact ⟨1, by omega, by go_num, HFS.out, HFT.out, HFB.out⟩
      case measure => simp [intOf]
    · have hst0 : StAt wr w3.heap.size 0 7 2 := hst
      have HST := Lib.hid hst0
      have x1 := hst0.c0
      have x2 := hst0.c1
      have x3 := hst0.c2
      have y1 : (wr.alloc (.cells #[.int .i64 3, .int .i64 9, .int .i64 2] 38)).cell? ⟨w3.heap.size, 0, none⟩ = some (.int .i64 0) := (World.cell?_alloc_lt wr _ _ hst0.lt).trans x1
      have y2 : (wr.alloc (.cells #[.int .i64 3, .int .i64 9, .int .i64 2] 38)).cell? ⟨w3.heap.size, 1, none⟩ = some (.int .i64 7) := (World.cell?_alloc_lt wr _ _ hst0.lt).trans x2
      have y3 : (wr.alloc (.cells #[.int .i64 3, .int .i64 9, .int .i64 2] 38)).cell? ⟨w3.heap.size, 2, none⟩ = some (.int .i64 2) := (World.cell?_alloc_lt wr _ _ hst0.lt).trans x3
      have n1 : (wr.alloc (.cells #[.int .i64 3, .int .i64 9, .int .i64 2] 38)).cell? ⟨wr.heap.size, 1, none⟩ = some (.int .i64 9) := cell_new wr _ 38 1 rfl
      have hpl := hst0.lt
      have HB1 : Hid (Below w.heap.size w (wr.alloc (.cells #[.int .i64 3, .int .i64 9, .int .i64 2] 38))) := HB.out.alloc hbs _
      have HSN := Lib.hid (StAt.new wr 3 9 2)
      have HSO : Hid (StAt (wr.alloc (.cells #[.int .i64 3, .int .i64 9, .int .i64 2] 38)) w3.heap.size 0 7 2) := hst0.below ((Below.refl wr.heap.size wr).alloc (Nat.le_refl _) _) hpl
      have HTN : Hid (TwoAt (wr.alloc (.cells #[.int .i64 3, .int .i64 9, .int .i64 2] 38)) g 0) := htw.below ((Below.refl wr.heap.size wr).alloc (Nat.le_refl _) _) hgr
      clear hst hst0 x1 x2 x3
      go_wp2_with fail
      go_region_held3 (fun w' => w'.cell? ⟨w3.heap.size, 0, none⟩ = some (.int .i64 0) ∧ w'.cell? ⟨w3.heap.size, 1, none⟩ = some (.int .i64 7) ∧ w'.cell? ⟨w3.heap.size, 2, none⟩ = some (.int .i64 2) ∧ w'.cell? ⟨wr.heap.size, 1, none⟩ = some (.int .i64 9))
        (first | exact ⟨y1, y2, y3, n1⟩ | exact ⟨y1', y2', y3', n1'⟩)
        (first
          | (go_at_call 26
             go_fit (listed_any ⟨0, 7, 2⟩ _)
             rintro e w5 ⟨rfl, b5'⟩
             have b5 := undrew b5'
             clear b5'
             have y1' := bcell b5 (a := ⟨w3.heap.size, 0, none⟩) y1 (by simp; omega)
             have y2' := bcell b5 (a := ⟨w3.heap.size, 1, none⟩) y2 (by simp; omega)
             have y3' := bcell b5 (a := ⟨w3.heap.size, 2, none⟩) y3 (by simp; omega)
             have n1' := bcell b5 (a := ⟨wr.heap.size, 1, none⟩) n1 (by simp)
             have HB5 : Hid (Below w.heap.size w w5) := HB1.out.trans (b5.mono HB1.out.size)
             have HS5 : Hid (StAt w5 wr.heap.size 3 9 2) := HSN.out.below b5 (by simp)
             have HO5 : Hid (StAt w5 w3.heap.size 0 7 2) := HSO.out.below b5 (by simp; omega)
             have HT5 : Hid (TwoAt w5 g 0) := HTN.out.below b5 (by simp; omega)
             clear b5))
      have z1 := HS5.out.c0
      have z2 := HS5.out.c1
      have z3 := HS5.out.c2
      have v1 := HO5.out.c0
      have v2 := HO5.out.c1
      have v3 := HO5.out.c2
      have f1 := HO5.out.fz 0
      have f2 := HO5.out.fz 1
      have f3 := HO5.out.fz 2
      have HFS := Lib.hid (((HO5.out.set0 3).set1 9).set2 2)
      have HFB : Hid (Below w.heap.size w (((w5.setCell ⟨w3.heap.size, 0, none⟩ (.int .i64 3)).setCell ⟨w3.heap.size, 1, none⟩ (.int .i64 9)).setCell ⟨w3.heap.size, 2, none⟩ (.int .i64 2))) := ((HB5.out.setCell hws _).setCell hws _).setCell hws _
      have HFT : Hid (TwoAt (((w5.setCell ⟨w3.heap.size, 0, none⟩ (.int .i64 3)).setCell ⟨w3.heap.size, 1, none⟩ (.int .i64 9)).setCell ⟨w3.heap.size, 2, none⟩ (.int .i64 2)) g 0) := ((HT5.out.far (by omega) _).far (by omega) _).far (by omega) _
      clear y1 y2 y3 n1
      go_wp2
      go_roundw
      case rel => exact ⟨2, by omega, by go_num, HFS.out, HFT.out, HFB.out⟩
      case measure => simp [intOf]
    · clear hst
      go_wp2
      go_ret
      exact ⟨rfl, HB.out⟩
end Go.Proofs.Ytcillodbkgopdaa
