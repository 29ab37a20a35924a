/-
  WALKS: Cut, Blocks, and the statements' own early and few. Conditions: at most 100000 spans; an int64's numbers.
-/
import Derived.Test.YtcillodbkgopdaaMap
namespace Go.Proofs.Ytcillodbkgopdaa
open Go.RowKit

set_option maxHeartbeats 1000000 in
theorem early_any (A : Option Addr) (n c : Nat) (w : World) (hnc : n ≤ c) :
    Calls Try.prog 8 #[.slice A n c] w fun e w' => e = .returned (.slice A (min n 300) c) ∧ w = w' := by
  by_cases h : n ≤ 300
  · have HM : Hid (min n 300 = n) := by show _ = _; omega
    have h1 : ¬ (300 : Int) < (n : Int) := by omega
    rw [HM.out]
    go_enter Try.func8, Try.ntmps8
    go_wp2
    go_ret
    exact ⟨rfl, rfl⟩
  · have HM : Hid (min n 300 = 300) := by show _ = _; omega
    have h1 : (300 : Int) < (n : Int) := by omega
    rw [HM.out]
    go_enter Try.func8, Try.ntmps8
    go_wp2
    go_ret
    exact ⟨rfl, rfl⟩

/-- a span as the statements take it. -/
def fewS (s : Sp) : Sp := ⟨min (max s.at_ (-1000)) 70000, min (max s.st (-1000)) 70000, min s.len 300⟩
def fewR (l : List Sp) : List Sp := (l.take 8).map fewS
theorem fewR_len (l : List Sp) : (fewR l).length ≤ 8 := by unfold fewR; rw [List.length_map, List.length_take]; omega
theorem fewR_mid {l : List Sp} (h : ∀ s ∈ l, s.fit) : ∀ s ∈ fewR l, s.mid := fun s hs => by
  unfold fewR at hs
  obtain ⟨t, ht, rfl⟩ := List.mem_map.1 hs
  obtain ⟨h1, h2, h3⟩ := h t (List.mem_of_mem_take ht)
  unfold Fit at h1 h2 h3
  refine ⟨?_, ?_, ?_⟩ <;> simp only [fewS] <;> omega
theorem take_few (l : List Sp) (k : Nat) (hk : k < l.length) : (l.take (k + 1)).map fewS = (l.take k).map fewS ++ [fewS (l.getD k Sp.z)] := by
  have e : l.getD k Sp.z = l[k] := by simp [List.getD, List.getElem?_eq_getElem hk]
  rw [e, List.take_succ_eq_append_getElem hk, List.map_append]
  rfl

/-- a span in a block of its own. -/
def StAt (w : World) (p : Nat) (x y z : Int) : Prop := w.heap[p]? = some (.cells #[.int .i64 x, .int .i64 y, .int .i64 z] 38 (0, 0))
section
variable {w w' : World} {p : Nat} {x y z : Int}
theorem StAt.lt (h : StAt w p x y z) : p < w.heap.size := by
  rcases Nat.lt_or_ge p w.heap.size with hl | hl
  · exact hl
  · unfold StAt at h; rw [Array.getElem?_eq_none hl] at h; cases h
theorem StAt.c (h : StAt w p x y z) (k : Nat) : w.cell? ⟨p, k, none⟩ = #[.int .i64 x, .int .i64 y, .int .i64 z][k]? := cell_of_row w p k _ 38 (0, 0) h
theorem StAt.c0 (h : StAt w p x y z) : w.cell? ⟨p, 0, none⟩ = some (.int .i64 x) := h.c 0
theorem StAt.c1 (h : StAt w p x y z) : w.cell? ⟨p, 1, none⟩ = some (.int .i64 y) := h.c 1
theorem StAt.c2 (h : StAt w p x y z) : w.cell? ⟨p, 2, none⟩ = some (.int .i64 z) := h.c 2
theorem StAt.fz (h : StAt w p x y z) (k : Nat) : w.frozen? ⟨p, k, none⟩ = false := frozen_of_row w p k _ 38 h
theorem StAt.new (w : World) (x y z : Int) : StAt (w.alloc (.cells #[.int .i64 x, .int .i64 y, .int .i64 z] 38)) w.heap.size x y z := heap_alloc_new w _
theorem StAt.below {C : Nat} (h : StAt w p x y z) (hb : Below C w w') (hp : p < C) : StAt w' p x y z := (hb.block p hp).trans h
theorem StAt.set0 (h : StAt w p x y z) (u : Int) : StAt (w.setCell ⟨p, 0, none⟩ (.int .i64 u)) p u y z := by
  have := heap_setCell_same w p 0 _ 38 (.int .i64 u) h
  exact this
theorem StAt.set1 (h : StAt w p x y z) (u : Int) : StAt (w.setCell ⟨p, 1, none⟩ (.int .i64 u)) p x u z := by
  have := heap_setCell_same w p 1 _ 38 (.int .i64 u) h
  exact this
theorem StAt.set2 (h : StAt w p x y z) (u : Int) : StAt (w.setCell ⟨p, 2, none⟩ (.int .i64 u)) p x y u := by
  have := heap_setCell_same w p 2 _ 38 (.int .i64 u) h
  exact this
end
theorem own_far {w : World} {base n g j : Nat} {v : Value} {xs : List Value} (h : w.ownsRow base 38 3 v n xs) (hg : v.ownBlock ≠ some g) (u : Value) : (w.setCell ⟨g, j, none⟩ u).ownsRow base 38 3 v n xs :=
  h.kept (row := some g) ⟨rfl, rfl, rfl, by simp, fun k _ hk => Below.heap_setCell _ _ _ _ (fun e => hk (by rw [e]))⟩ (Or.inr hg)

set_option maxHeartbeats 2000000 in
theorem few_any (A : Option Addr) (n c B : Nat) (l : List Sp) (w : World) (hA : SpsAt w B A n l) (hB : B ≤ w.heap.size) (hn : n ≤ 9223372036854775807) :
    Calls Try.prog 9 #[.slice A n c] w (RetSps w (fewR l)) := by
  have HL := Lib.hid hA.len
  have HF := Lib.hid (fewR_mid hA.2.1)
  have HA := Lib.hid hA
  clear hA
  go_enter Try.func9, Try.ntmps9
  go_wp2
  go_loopw [3, 4, 5] (fun v j _ wr => ∃ k : Nat, k ≤ n ∧ k ≤ 8 ∧ j = .int .i64 (k : Int) ∧ wr.ownsRow w.heap.size 38 3 v ((l.take k).map fewS).length (spsCells ((l.take k).map fewS)) ∧ Below w.heap.size w wr) (fun _ j _ _ => 8 - (intOf j).toNat)
  case atStart => exact ⟨0, by omega, by omega, rfl, World.ownsRow_nil _ _ _ _, Below.refl _ _⟩
  case round =>
    obtain ⟨k, hk, hk8, rfl, hown, hb⟩ := hrel
    have HOWN := Lib.hid hown
    have HB := Lib.hid hb
    obtain ⟨A', c', rfl, hc'⟩ := own_slice hown
    have hll : ((l.take k).map fewS).length = k := by rw [List.length_map, List.length_take, HL.out]; omega
    have HLL := Lib.hid hll
    clear hll
    by_cases hlt : k < n ∧ k < 8
    · obtain ⟨hlt1, hlt2⟩ := hlt
      have dd1 : decide ((k : Int) < (n : Int)) = true := by simp; omega
      have dd1' : decide (k < n) = true := by simp; omega
      have dd2 : decide ((k : Int) < 8) = true := by simp; omega
      obtain ⟨b, o, rfl, hbB, h1, h2, h3⟩ := HA.out.at_ hlt1
      have hbl : b < w.heap.size := by omega
      have c1 := bcell hb h1 hbl
      have c2 := bcell hb h2 hbl
      have c3 := bcell hb h3 hbl
      have hws := hb.size
      have HT := Lib.hid (take_few l k (by rw [HL.out]; exact hlt1))
      have hbd := HA.out.bd k
      generalize l.getD k Sp.z = s at *
      obtain ⟨sa, sp, sl⟩ := s
      obtain ⟨hs1, hs2, hs3⟩ := hbd
      simp only at c1 c2 c3 hs1 hs2 hs3
      unfold Fit at hs1 hs2 hs3
      have HFS : Hid (fewS ⟨sa, sp, sl⟩ = ⟨min (max sa (-1000)) 70000, min (max sp (-1000)) 70000, min sl 300⟩) := by show _ = _; rfl
      clear h1 h2 h3 hown hb
      generalize ((l.take k).map fewS) = L at *
      obtain ⟨fa, hfa⟩ : ∃ fa, fa = min (max sa (-1000)) 70000 := ⟨_, rfl⟩
      obtain ⟨fp, hfp⟩ : ∃ fp, fp = min (max sp (-1000)) 70000 := ⟨_, rfl⟩
      obtain ⟨fl, hfl⟩ : ∃ fl, fl = min sl 300 := ⟨_, rfl⟩
      rw [← hfa, ← hfp, ← hfl] at HFS
      have HFA := Lib.hid hfa
      have HFP := Lib.hid hfp
      have HFL := Lib.hid hfl
      clear hfa hfp hfl
      have HO1 : Hid ((wr.alloc (.cells #[.int .i64 fa, .int .i64 fp, .int .i64 fl] 38)).ownsRow w.heap.size 38 3 (.slice A' L.length c') L.length (spsCells L)) := HOWN.out.alloc _
      have HB1 : Hid (Below w.heap.size w (wr.alloc (.cells #[.int .i64 fa, .int .i64 fp, .int .i64 fl] 38))) := HB.out.alloc hws _
      go_upto_region 6 with fail
      go_cut [] from 6 to 37 (fun wx => wx = wr.alloc (.cells #[.int .i64 sa, .int .i64 sp, .int .i64 fl] 38))
      case first =>
        go_wp2_with fail
        all_goals
          go_meet
          case rel =>
            refine congrArg (fun t => wr.alloc (.cells #[.int .i64 sa, .int .i64 sp, .int .i64 t] 38)) ?_
            have := HFL.out
            omega
      case rest =>
      obtain rfl := hcut
      go_upto_region 7 with fail
      go_cut [] from 6 to 37 (fun wx => wx = wr.alloc (.cells #[.int .i64 fa, .int .i64 sp, .int .i64 fl] 38))
      case first =>
        go_wp2_with fail
        all_goals
          go_meet
          case rel =>
            refine congrArg (fun t => wr.alloc (.cells #[.int .i64 t, .int .i64 sp, .int .i64 fl] 38)) ?_
            have := HFA.out
            omega
      case rest =>
      obtain rfl := hcut
      go_upto_region 8 with fail
      go_cut [] from 6 to 37 (fun wx => wx = wr.alloc (.cells #[.int .i64 fa, .int .i64 fp, .int .i64 fl] 38))
      case first =>
        go_wp2_with fail
        all_goals
          go_meet
          case rel =>
            refine congrArg (fun t => wr.alloc (.cells #[.int .i64 fa, .int .i64 t, .int .i64 fl] 38)) ?_
            have := HFP.out
            omega
      case rest =>
      obtain rfl := hcut
      have n1 : (wr.alloc (.cells #[.int .i64 fa, .int .i64 fp, .int .i64 fl] 38)).cell? ⟨wr.heap.size, 0, none⟩ = some (.int .i64 fa) := cell_new wr _ 38 0 rfl
      have n2 : (wr.alloc (.cells #[.int .i64 fa, .int .i64 fp, .int .i64 fl] 38)).cell? ⟨wr.heap.size, 1, none⟩ = some (.int .i64 fp) := cell_new wr _ 38 1 rfl
      have n3 : (wr.alloc (.cells #[.int .i64 fa, .int .i64 fp, .int .i64 fl] 38)).cell? ⟨wr.heap.size, 2, none⟩ = some (.int .i64 fl) := cell_new wr _ 38 2 rfl
      generalize wr.alloc (.cells #[.int .i64 fa, .int .i64 fp, .int .i64 fl] 38) = W2 at *
      generalize hLn : L.length = m at *
      have HLn := Lib.hid hLn
      clear hLn
      go_wp2_with (at_builtin; refine push_law rfl (.tmp 34) (.tmp 36) rfl w.heap.size W2 (.slice A' m c') L ⟨fa, fp, fl⟩ rfl rfl (by rw [HLn.out]; exact HO1.out) (by rw [HLn.out, HLL.out]; omega) HB1.out.size ?_; intro v' w3 hown3 hb3)
      go_roundw
      case rel => exact ⟨k + 1, by omega, by omega, by go_num, by rw [HT.out, HFS.out]; exact hown3, HB1.out.trans hb3⟩
      case measure => simp [intOf]; omega
    · have HE : Hid ((l.take k).map fewS = fewR l) := by
        show _ = _
        unfold fewR
        rcases Nat.lt_or_ge k 8 with h8 | h8
        · rw [List.take_of_length_le (by rw [HL.out]; omega), List.take_of_length_le (by rw [HL.out]; omega)]
        · rw [show k = 8 by omega]
      have HFIN : Hid (RetSps w (fewR l) (.returned (.slice A' ((l.take k).map fewS).length c')) wr) := by
        rw [← HE.out]
        exact ⟨A', c', rfl, hc', SpsAt.of_own hown rfl (fun s hs => mid_fit (HF.out s (by rw [← HE.out]; exact hs))), hb⟩
      by_cases h1 : k < n
      · have dd1 : decide ((k : Int) < (n : Int)) = true := by simp; omega
        have dd1' : decide (k < n) = true := by simp; omega
        have dd2 : decide ((k : Int) < 8) = false := by simp; omega
        clear hlt
        go_wp2
        go_ret
        exact HFIN.out
      · have dd1 : decide ((k : Int) < (n : Int)) = false := by simp; omega
        have dd1' : decide (k < n) = false := by simp; omega
        clear hlt
        go_wp2
        go_ret
        exact HFIN.out

theorem cutGo_snoc (n : Int) : ∀ (l : List Sp) (s : Sp), cutGo n (l ++ [s]) = cutGo n l ++ (if s.at_ < n then [⟨s.at_, s.st, min s.len (n - s.at_)⟩] else [])
  | [], s => by simp only [List.nil_append, cutGo]
  | a :: r, s => by
    simp only [List.cons_append, cutGo]
    rw [cutGo_snoc n r s]
    split <;> simp
theorem cutGo_take (n : Int) (l : List Sp) (k : Nat) (hk : k < l.length) : cutGo n (l.take (k + 1)) = cutGo n (l.take k) ++ (if (l.getD k Sp.z).at_ < n then [⟨(l.getD k Sp.z).at_, (l.getD k Sp.z).st, min (l.getD k Sp.z).len (n - (l.getD k Sp.z).at_)⟩] else []) := by
  have e : l.getD k Sp.z = l[k] := by simp [List.getD, List.getElem?_eq_getElem hk]
  rw [e, List.take_succ_eq_append_getElem hk, cutGo_snoc]
theorem cutGo_len (n : Int) : ∀ l : List Sp, (cutGo n l).length ≤ l.length
  | [] => by simp [cutGo]
  | s :: r => by
    have := cutGo_len n r
    simp only [cutGo]
    split <;> simp <;> omega
theorem right_at {l : List Sp} (h : rightL none l = true) {k : Nat} (hk : k < l.length) : inB (l.getD k Sp.z) = true := by
  rw [show l.getD k Sp.z = l[k] by simp [List.getD, List.getElem?_eq_getElem hk]]
  exact right_mem l none h _ (List.getElem_mem hk)

set_option maxHeartbeats 2000000 in
theorem cut_any (A : Option Addr) (n c B : Nat) (l : List Sp) (z : Int) (w : World) (hA : SpsAt w B A n l) (hB : B ≤ w.heap.size) (hn : n ≤ 100000) (hz : Fit z) :
    Calls Try.prog 19 #[.slice A n c, .int .i64 z] w (RetSps w (cutR l z)) := by
  have HL := Lib.hid hA.len
  have HA := Lib.hid hA
  have HRT := Lib.hid (right_any A n c B l w hA hB (by omega))
  unfold Fit at hz
  clear hA
  cases hr : rightL none l with
  | false =>
    rw [hr] at HRT
    have HC : Hid (cutR l z = []) := by show _ = _; unfold cutR; rw [hr]; rfl
    clear hr
    go_enter Try.func19, Try.ntmps19
    go_wp2_with fail
    refine HRT.out.mono ?_
    rintro e w1 ⟨rfl, b1⟩
    have HFIN : Hid (RetSps w (cutR l z) (.returned (.slice none 0 0)) w1) := by
      rw [HC.out]
      exact ⟨none, 0, rfl, by simp, ⟨rfl, by simp, fun k hk => by simp at hk⟩, b1⟩
    clear b1
    go_wp2
    go_ret
    exact HFIN.out
  | true =>
    rw [hr] at HRT
    have HC : Hid (cutR l z = cutGo z l) := by show _ = _; unfold cutR; rw [hr]; rfl
    have HIN := Lib.hid (fun k (hk : k < l.length) => right_at hr hk)
    have HCR := Lib.hid (cut_right l none z hr)
    clear hr
    go_enter Try.func19, Try.ntmps19
    go_wp2_with fail
    refine HRT.out.mono ?_
    rintro e w1 ⟨rfl, b1⟩
    have HB0 := Lib.hid b1
    clear b1
    go_wp2
    go_loopw [5, 7, 13] (fun v _ j wr => ∃ k : Nat, k ≤ n ∧ j = .int .i64 (k : Int) ∧ wr.ownsRow w.heap.size 38 3 v (cutGo z (l.take k)).length (spsCells (cutGo z (l.take k))) ∧ Below w.heap.size w wr) (fun _ _ j _ => n - (intOf j).toNat)
    case atStart => exact ⟨0, by omega, rfl, World.ownsRow_nil _ _ _ _, HB0.out⟩
    case round =>
      obtain ⟨k, hk, rfl, hown, hb⟩ := hrel
      have HOWN := Lib.hid hown
      have HB := Lib.hid hb
      obtain ⟨A', c', rfl, hc'⟩ := own_slice hown
      have hll : (cutGo z (l.take k)).length ≤ k := by
        have := cutGo_len z (l.take k)
        rw [List.length_take] at this
        omega
      by_cases hlt : k < n
      · obtain ⟨b, o, rfl, hbB, h1, h2, h3⟩ := HA.out.at_ hlt
        have hbl : b < w.heap.size := by omega
        have c1 := bcell hb h1 hbl
        have c2 := bcell hb h2 hbl
        have c3 := bcell hb h3 hbl
        have hws := hb.size
        have hkl : k < l.length := by rw [HL.out]; exact hlt
        have HT := Lib.hid (cutGo_take z l k hkl)
        have hbd := inB_iff.1 (HIN.out k hkl)
        generalize l.getD k Sp.z = s at *
        obtain ⟨sa, sp, sl⟩ := s
        simp only at c1 c2 c3 hbd HT
        clear h1 h2 h3 hown hb hkl
        generalize cutGo z (l.take k) = L at *
        by_cases q1 : sa < z
        · have HT2 : Hid (cutGo z (l.take (k + 1)) = L ++ [⟨sa, sp, min sl (z - sa)⟩]) := by show _ = _; rw [HT.out, if_pos q1]
          obtain ⟨fl, hfl⟩ : ∃ fl, fl = min sl (z - sa) := ⟨_, rfl⟩
          rw [← hfl] at HT2
          have HFL := Lib.hid hfl
          clear hfl HT
          have HO1 : Hid ((wr.alloc (.cells #[.int .i64 sa, .int .i64 sp, .int .i64 fl] 38)).ownsRow w.heap.size 38 3 (.slice A' L.length c') L.length (spsCells L)) := HOWN.out.alloc _
          have HB1 : Hid (Below w.heap.size w (wr.alloc (.cells #[.int .i64 sa, .int .i64 sp, .int .i64 fl] 38))) := HB.out.alloc hws _
          go_upto_region 8 with fail
          go_cut [] from 14 to 33 (fun wx => wx = wr.alloc (.cells #[.int .i64 sa, .int .i64 sp, .int .i64 fl] 38))
          case first =>
            go_wp2_with fail
            all_goals
              go_meet
              case rel =>
                refine congrArg (fun t => wr.alloc (.cells #[.int .i64 sa, .int .i64 sp, .int .i64 t] 38)) ?_
                have := HFL.out
                omega
          case rest =>
          obtain rfl := hcut
          have n1 : (wr.alloc (.cells #[.int .i64 sa, .int .i64 sp, .int .i64 fl] 38)).cell? ⟨wr.heap.size, 0, none⟩ = some (.int .i64 sa) := cell_new wr _ 38 0 rfl
          have n2 : (wr.alloc (.cells #[.int .i64 sa, .int .i64 sp, .int .i64 fl] 38)).cell? ⟨wr.heap.size, 1, none⟩ = some (.int .i64 sp) := cell_new wr _ 38 1 rfl
          have n3 : (wr.alloc (.cells #[.int .i64 sa, .int .i64 sp, .int .i64 fl] 38)).cell? ⟨wr.heap.size, 2, none⟩ = some (.int .i64 fl) := cell_new wr _ 38 2 rfl
          generalize wr.alloc (.cells #[.int .i64 sa, .int .i64 sp, .int .i64 fl] 38) = W2 at *
          generalize hLn : L.length = m at *
          have HLn := Lib.hid hLn
          clear hLn
          go_wp2_with (at_builtin; refine push_law rfl (.tmp 29) (.tmp 31) rfl w.heap.size W2 (.slice A' m c') L ⟨sa, sp, fl⟩ rfl rfl (by rw [HLn.out]; exact HO1.out) (by rw [HLn.out]; omega) HB1.out.size ?_; intro v' w3 hown3 hb3)
          go_roundw
          case rel => exact ⟨k + 1, by omega, by go_num, by rw [HT2.out]; exact hown3, HB1.out.trans hb3⟩
          case measure => simp [intOf]; omega
        · have HT2 : Hid (cutGo z (l.take (k + 1)) = L) := by show _ = _; rw [HT.out, if_neg q1, List.append_nil]
          have d1 : decide (sa < z) = false := by simpa using q1
          clear HT q1
          have HO1 : Hid ((wr.alloc (.cells #[.int .i64 sa, .int .i64 sp, .int .i64 sl] 38)).ownsRow w.heap.size 38 3 (.slice A' L.length c') L.length (spsCells L)) := HOWN.out.alloc _
          have HB1 : Hid (Below w.heap.size w (wr.alloc (.cells #[.int .i64 sa, .int .i64 sp, .int .i64 sl] 38))) := HB.out.alloc hws _
          generalize hLn : L.length = m at *
          have HLn := Lib.hid hLn
          clear hLn
          go_wp2
          go_roundw
          case rel => exact ⟨k + 1, by omega, by go_num, by rw [HT2.out, HLn.out]; exact HO1.out, HB1.out⟩
          case measure => simp [intOf]; omega
      · have HE : Hid (cutGo z (l.take k) = cutR l z) := by show _ = _; rw [HC.out, List.take_of_length_le (by rw [HL.out]; omega)]
        have HFIN : Hid (RetSps w (cutR l z) (.returned (.slice A' (cutGo z (l.take k)).length c')) wr) := by
          rw [← HE.out]
          refine ⟨A', c', rfl, hc', SpsAt.of_own hown rfl (fun s hs => small_fit (in_small (right_mem _ none HCR.out s ?_))), hb⟩
          rw [← HC.out, ← HE.out]; exact hs
        go_wp2
        go_ret
        exact HFIN.out
end Go.Proofs.Ytcillodbkgopdaa
