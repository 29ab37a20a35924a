/-
  WALK: unblock. No condition beside a text's own bound.
-/
import Derived.Test.YtflijnhgonigjaaPBlock
namespace Go.Proofs.Ytflijnhgonigjaa
open Go.RowKit
set_option linter.unusedVariables false

theorem read1 {s : ByteArray} (h : 1 ≤ s.size) : readR [1] (bytesOf s) = ([((cnt s : Nat) : Int)], 0) := by
  rw [readR_ok (by decide) (by rw [bytesOf_len]; simp [sumTo]; omega)]
  have hl : 1 ≤ s.data.toList.length := by rw [data_len]; exact h
  unfold cnt
  unfold bytesOf
  match hd : s.data.toList, hl with
  | a :: r, _ => simp [readTo, sumTo, decF]
theorem read1_no {s : ByteArray} (h : ¬ 1 ≤ s.size) : readR [1] (bytesOf s) = ([], 2) := by
  rw [readR_short (by decide) (by rw [bytesOf_len]; simp [sumTo]; omega)]
theorem bytes_fit {t : ByteArray} {n : Int} (h : t.size ≤ 140737488355328) (h0 : 0 ≤ n ∧ n ≤ 65535) : En.fit ⟨t, n⟩ := ⟨h, by show Fit n; unfold Fit; omega⟩
theorem untext_le (q : ByteArray) : (untextR q).1.size ≤ q.size := by
  unfold untextR
  split
  · rw [ByteArray.size_extract]; have := zAt_le q.data.toList; rw [data_len] at this; omega
  · show 0 ≤ _; omega
/-- how far the rest of a block has come. -/
def restTo (s : ByteArray) (j : Nat) : ByteArray := s.extract (1 + 13 * j) s.size
theorem ext_data (s : ByteArray) (f : Nat) : (s.extract f s.size).data.toList = s.data.toList.drop f := by
  rw [ext_bs, bs_data, List.take_of_length_le (by rw [List.length_drop, data_len]; omega)]
theorem rest_facts {s : ByteArray} {j : Nat} (h : 1 + 13 * (j + 1) ≤ s.size) :
    13 ≤ (restTo s j).size ∧ (restTo s j).size ≤ s.size ∧ (restTo s j).extract 0 11 = s.extract (1 + 13 * j) (12 + 13 * j) ∧
    num2 ((restTo s j).extract 11 (restTo s j).size).data.toList = num2 (s.data.toList.drop (12 + 13 * j)) ∧ 2 ≤ ((restTo s j).extract 11 (restTo s j).size).size ∧
    (restTo s j).extract 13 (restTo s j).size = restTo s (j + 1) := by
  have hz : (restTo s j).size = s.size - (1 + 13 * j) := by unfold restTo; rw [ByteArray.size_extract]; omega
  refine ⟨by omega, by omega, ?_, ?_, by rw [ByteArray.size_extract]; omega, ?_⟩
  · unfold restTo
    rw [ext_bs, ext_data, ext_bs]
    simp only [List.drop_zero]
    rw [show 11 - 0 = 12 + 13 * j - (1 + 13 * j) by omega]
  · rw [ext_data]
    unfold restTo
    rw [ext_data, List.drop_drop, show 1 + 13 * j + 11 = 12 + 13 * j by omega]
  · apply ByteArray.ext
    apply Array.ext'
    rw [ext_data]
    unfold restTo
    rw [ext_data, ext_data, List.drop_drop, show 1 + 13 * j + 13 = 1 + 13 * (j + 1) by omega]

/-- what unblock answers. -/
def RetU (w : World) (o : Option (List En)) (e : Ending) (w' : World) : Prop := ∃ A c, e = .returned (.tuple #[.slice A (o.getD []).length c, .bool o.isSome]) ∧ w'.ownsRow w.heap.size 47 2 (.slice A (o.getD []).length c) (o.getD []).length (ensCells (o.getD [])) ∧ (∀ e ∈ o.getD [], e.fit) ∧ Below w.heap.size w w'
theorem RetU.no {w w' : World} {o : Option (List En)} (h : o = none) (hb : Below w.heap.size w w') : RetU w o (.returned (.tuple #[.slice none 0 0, .bool false])) w' := by
  subst h
  exact ⟨none, 0, rfl, World.ownsRow_nil _ _ _ _, by simp, hb⟩
theorem unb_no0 {s : ByteArray} (h : ¬ (1 ≤ s.size ∧ 1 + 13 * cnt s ≤ s.size)) : unb s = none := by unfold unb; rw [if_neg h]
theorem unb_yes {s : ByteArray} (h : 1 ≤ s.size ∧ 1 + 13 * cnt s ≤ s.size) : unb s = entsTo s (cnt s) := by unfold unb; rw [if_pos h]
theorem entAt_no {b : ByteArray} {k : Nat} {t : ByteArray} {z : Int} (h : untextR (b.extract (1 + 13 * k) (12 + 13 * k)) = (t, z)) (hz : ¬ z = 0) : entAt b k = none := by
  unfold entAt; rw [h, if_neg hz]
theorem entAt_yes {b : ByteArray} {k : Nat} {t : ByteArray} (h : untextR (b.extract (1 + 13 * k) (12 + 13 * k)) = (t, 0)) : entAt b k = some ⟨t, num2 (b.data.toList.drop (12 + 13 * k))⟩ := by
  unfold entAt; rw [h, if_pos rfl]

set_option maxRecDepth 100000 in
set_option maxHeartbeats 8000000 in
theorem unblock_any (s : ByteArray) (w : World) (hs : s.size ≤ 140737488355328) :
    Calls Try.prog 55 #[.string s] w (RetU w (unb s)) := by
  have HR := Lib.hid (fun (A : Option Addr) (B : Nat) (W : World) (a : IntsAt W B A 1 [1]) (hB : B ≤ W.heap.size) => read_any A 1 1 B [1] s W a hB (by omega) (by omega))
  have hi0 := ints_one w 1 (by omega)
  have hb0 : Below w.heap.size w (w.alloc (.cells #[.int .i64 1] 3)) := (Below.refl _ w).alloc (Nat.le_refl _) _
  have hz0 : w.heap.size + 1 ≤ (w.alloc (.cells #[.int .i64 1] 3)).heap.size := by simp
  by_cases h1 : 1 ≤ s.size
  · rw [read1 h1] at HR
    have hcl := cnt_le s
    by_cases h2 : 1 + 13 * cnt s ≤ s.size
    · have HU := Lib.hid (unb_yes ⟨h1, h2⟩)
      have HRF := Lib.hid (fun j (hj : j < cnt s) => rest_facts (s := s) (j := j) (by omega))
      have HNO := Lib.hid (fun j (hj : j < cnt s) he => entsTo_no (b := s) (k := j) he (cnt s) hj)
      have HNX := Lib.hid (fun j l e h he => entsTo_next (b := s) (k := j) (l := l) (e := e) h he)
      have HR0 : Hid (s.extract 1 s.size = restTo s 0) := rfl
      have HLN := Lib.hid (fun j l h => entsTo_len (b := s) j (l := l) h)
      have g1 : ¬ (s.size : Int) < 1 + (cnt s : Int) * 13 := by omega
      have g2 : decide ((s.size : Int) < 1 + (cnt s : Int) * 13) = false := by simp; omega
      have g3 : (1 : Int) ≤ (s.size : Int) := by omega
      rw [HU.out]
      clear HU
      generalize cnt s = N at *
      go_enter Try.func55, Try.ntmps55
      go_wp2_with fail
      refine (HR.out _ _ _ hi0 (by omega)).mono ?_
      rintro e w3 ⟨A3, n3, c3, rfl, hi3, b3⟩
      have hn3 : n3 = 1 := hi3.len.symm
      subst hn3
      obtain ⟨g, o3, rfl, hg, hc3⟩ := hi3.at_ (k := 0) (by omega)
      have HC3 : Hid (w3.cell? ⟨g, o3, none⟩ = some (.int .i64 (N : Int))) := hc3
      have k3 := HC3.out
      have HB3 := Lib.hid (hb0.trans (b3.mono hb0.size))
      clear b3 hi3 hc3 hi0 hb0 hz0 HR
      go_wp2
      go_loopw [6, 7, 8, 9, 10, 11, 35] (fun v r _ _ _ _ i wr => ∃ (j : Nat) (l : List En), j ≤ N ∧ i = .int .i64 (j : Int) ∧ r = .string (restTo s j) ∧ Hid (entsTo s j = some l) ∧ Hid (∀ e ∈ l, e.fit) ∧ wr.ownsRow w.heap.size 47 2 v l.length (ensCells l) ∧ Below w.heap.size w wr) (fun _ _ _ _ _ _ i _ => N - (intOf i).toNat)
      case atStart => exact ⟨0, [], by omega, rfl, rfl, rfl, fun e he => by simp at he, World.ownsRow_nil _ _ _ _, HB3.out⟩
      case round =>
        obtain ⟨j, l, hj, rfl, rfl, hent, hfit, hown, hb⟩ := hrel
        obtain ⟨A5, c5, rfl, hc5⟩ := own_slice hown
        have hll := HLN.out j l hent.out
        have hfin : RetU w (some l) (.returned (.tuple #[.slice A5 l.length c5, .bool true])) wr := ⟨A5, c5, rfl, hown, hfit.out, hb⟩
        rw [hll] at hown hfin ⊢
        have HFIN := Lib.hid hfin
        have HOWN := Lib.hid hown
        have HB := Lib.hid hb
        have HLL := Lib.hid hll
        clear hown hb hll hfin
        by_cases hjN : j < N
        · obtain ⟨r1, r2, r3, r4, r5, r6⟩ := HRF.out j hjN
          have HNOj := Lib.hid (HNO.out j hjN)
          have HNXj := Lib.hid (fun e he => HNX.out j l e hent.out he)
          have x1 : (j : Int) < (N : Int) := by omega
          have HNB := Lib.hid (num2_bd (s.data.toList.drop (12 + 13 * j)))
          have HU := Lib.hid (fun W => untext_any (s.extract (1 + 13 * j) (12 + 13 * j)) W (by rw [ByteArray.size_extract]; omega))
          have hul := untext_le (s.extract (1 + 13 * j) (12 + 13 * j))
          have hel : (s.extract (1 + 13 * j) (12 + 13 * j)).size ≤ 140737488355328 := by rw [ByteArray.size_extract]; omega
          generalize hut : untextR (s.extract (1 + 13 * j) (12 + 13 * j)) = U at *
          obtain ⟨t, ze⟩ := U
          simp only at HU hul
          have HEN : Hid (¬ ze = 0 → entAt s j = none) := fun h => entAt_no hut h
          have HEY : Hid (ze = 0 → entAt s j = some ⟨t, num2 (s.data.toList.drop (12 + 13 * j))⟩) := fun h => entAt_yes (by rw [hut, h])
          rw [← r3] at HU
          have HRD := Lib.hid (fun (A : Option Addr) (B : Nat) (W : World) (a : IntsAt W B A 1 [2]) (hB : B ≤ W.heap.size) => read_any A 1 1 B [2] ((restTo s j).extract 11 (restTo s j).size) W a hB (by omega) (by rw [ByteArray.size_extract]; omega))
          have hrd : readR [2] (bytesOf ((restTo s j).extract 11 (restTo s j).size)) = ([num2 (s.data.toList.drop (12 + 13 * j))], 0) := by
            have := read2 (p := ((restTo s j).extract 11 (restTo s j).size).data.toList) (by rw [data_len]; exact r5)
            rw [bs_eq, r4] at this
            exact this
          rw [hrd] at HRD
          have htl : t.size ≤ 140737488355328 := by omega
          have HR6 := Lib.hid r6
          clear hut hul hel hrd r3 r4 r5 r6
          generalize num2 (s.data.toList.drop (12 + 13 * j)) = nn at *
          generalize entAt s j = oe at *
          generalize hrs : restTo s j = R at *
          have y1 : (11 : Int) ≤ (R.size : Int) := by omega
          have y2 : (13 : Int) ≤ (R.size : Int) := by omega
          clear hrs
          go_wp2_with fail
          refine (HU.out _).mono ?_
          rintro e w4 ⟨rfl, b4⟩
          have HO4 := Lib.hid (own_below HOWN.out b4 (Nat.le_refl _))
          have HB4 := Lib.hid (HB.out.trans (b4.mono HB.out.size))
          clear b4
          by_cases hze : ze = 0
          · have HE := Lib.hid (HEY.out hze)
            subst hze
            have hi4 := ints_one w4 2 (by omega)
            have HB5 : Hid (Below w.heap.size w (w4.alloc (.cells #[.int .i64 2] 3))) := HB4.out.alloc HB4.out.size _
            have HO5 := Lib.hid (HO4.out.alloc (.cells #[.int .i64 2] 3))
            have hz4 : w4.heap.size + 1 ≤ (w4.alloc (.cells #[.int .i64 2] 3)).heap.size := by simp
            go_wp2_with fail
            refine (HRD.out _ _ _ hi4 hz4).mono ?_
            rintro e w6 ⟨A6, n6, c6, rfl, hi6, b6⟩
            have hn6 : n6 = 1 := hi6.len.symm
            subst hn6
            obtain ⟨g6, o6, rfl, hg6, hc6⟩ := hi6.at_ (k := 0) (by omega)
            have k6 : w6.cell? ⟨g6, o6, none⟩ = some (.int .i64 nn) := hc6
            have HO6 := Lib.hid (own_below HO5.out b6 (Nat.le_refl _))
            have HB6 := Lib.hid (HB5.out.trans (b6.mono HB5.out.size))
            clear b6 hi6 hc6 hi4 hz4
            go_wp2_with (at_builtin; refine push_law rfl (.tmp 52) (.tmp 58) rfl w.heap.size w6 (.slice A5 j c5) l t nn rfl rfl (by rw [HLL.out]; exact HO6.out) (by rw [HLL.out]; omega) HB6.out.size ?_)
            intro v' w7 ho7 b7
            have HO7 : Hid (w7.ownsRow w.heap.size 47 2 v' (l ++ [(⟨t, nn⟩ : En)]).length (ensCells (l ++ [(⟨t, nn⟩ : En)]))) := by
              show World.ownsRow _ _ _ _ _ _ _
              rw [List.length_append]; exact ho7
            have HB7 := Lib.hid (HB6.out.trans b7)
            clear ho7 b7
            go_wp2
            go_roundw
            case rel => exact ⟨j + 1, l ++ [⟨t, nn⟩], by omega, by go_num, by rw [HR6.out], HNXj.out _ HE.out, fun e he => by
              rcases List.mem_append.1 he with he | he
              · exact hfit.out e he
              · obtain rfl : e = ⟨t, nn⟩ := by simpa using he
                exact bytes_fit htl HNB.out, HO7.out, HB7.out⟩
            case measure => simp [intOf]; omega
          · have HF := Lib.hid (HNOj.out (HEN.out hze))
            have d1 : (ze == 0) = false := beq_eq_false_iff_ne.2 hze
            go_wp2
            go_ret2
            exact RetU.no HF.out HB4.out
        · have x1 : ¬ (j : Int) < (N : Int) := by omega
          obtain rfl : j = N := by omega
          go_wp2
          go_ret2
          rw [hent.out]
          exact HFIN.out
    · have HU := Lib.hid (unb_no0 (s := s) (fun h => h2 h.2))
      have g1 : (s.size : Int) < 1 + (cnt s : Int) * 13 := by omega
      have g2 : decide ((s.size : Int) < 1 + (cnt s : Int) * 13) = true := by simp; omega
      generalize cnt s = N at *
      go_enter Try.func55, Try.ntmps55
      go_wp2_with fail
      refine (HR.out _ _ _ hi0 (by omega)).mono ?_
      rintro e w3 ⟨A3, n3, c3, rfl, hi3, b3⟩
      have hn3 : n3 = 1 := hi3.len.symm
      subst hn3
      obtain ⟨g, o3, rfl, hg, hc3⟩ := hi3.at_ (k := 0) (by omega)
      have k3 : w3.cell? ⟨g, o3, none⟩ = some (.int .i64 (N : Int)) := hc3
      have HB3 := Lib.hid (hb0.trans (b3.mono hb0.size))
      clear b3 hi3 hc3 hi0 hb0 hz0 HR
      go_wp2
      go_ret2
      exact RetU.no HU.out HB3.out
  · have HU := Lib.hid (unb_no0 (s := s) (fun h => h1 h.1))
    rw [read1_no h1] at HR
    go_enter Try.func55, Try.ntmps55
    go_wp2_with fail
    refine (HR.out _ _ _ hi0 (by omega)).mono ?_
    rintro e w3 ⟨A3, n3, c3, rfl, hi3, b3⟩
    have HB3 := Lib.hid (hb0.trans (b3.mono hb0.size))
    clear b3 hi3 hi0 hb0 hz0 HR
    go_wp2
    go_ret2
    exact RetU.no HU.out HB3.out
end Go.Proofs.Ytflijnhgonigjaa
