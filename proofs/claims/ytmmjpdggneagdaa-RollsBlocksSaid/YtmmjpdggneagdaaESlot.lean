/-
  WALKS: slot, the reference's one, unslot. Conditions: an entry that has bytes; 16 bytes.
-/
import Derived.Test.YtmmjpdggneagdaaEBlks
import Derived.Test.YtmmjpdggneagdaaRefText
import Derived.Test.YtmmjpdggneagdaaEWords
import Derived.Deep.QuietTactic
import Derived.BigQuiet
namespace Go.Proofs.Ytmmjpdggneagdaa
open Go.RowKit

theorem ints_one (w : World) (v : Int) (h : -9223372036854775808 ≤ v ∧ v ≤ 9223372036854775807) : IntsAt (w.alloc (.cells #[.int .i64 v] 3)) (w.heap.size + 1) (some ⟨w.heap.size, 0, none⟩) 1 [v] := by
  refine ⟨rfl, by simpa using h, fun k hk => ⟨w.heap.size, 0, rfl, by omega, ?_⟩⟩
  obtain rfl : k = 0 := by omega
  exact cell_new w _ 3 0 rfl

/-- a boxed entry, and two rows of one int behind it. -/
theorem two_ints (w : World) (s : ByteArray) (z a b : Int) (ha : -9223372036854775808 ≤ a ∧ a ≤ 9223372036854775807) (hb : -9223372036854775808 ≤ b ∧ b ≤ 9223372036854775807) :
    IntsAt (((w.alloc (.cells #[.string s, .int .i64 z] 43)).alloc (.cells #[.int .i64 a] 3)).alloc (.cells #[.int .i64 b] 3)) (w.heap.size + 3) (some ⟨w.heap.size + 1, 0, none⟩) 1 [a] ∧
    IntsAt (((w.alloc (.cells #[.string s, .int .i64 z] 43)).alloc (.cells #[.int .i64 a] 3)).alloc (.cells #[.int .i64 b] 3)) (w.heap.size + 3) (some ⟨w.heap.size + 1 + 1, 0, none⟩) 1 [b] ∧
    (((w.alloc (.cells #[.string s, .int .i64 z] 43)).alloc (.cells #[.int .i64 a] 3)).alloc (.cells #[.int .i64 b] 3)).heap.size = w.heap.size + 3 ∧
    Below w.heap.size w (((w.alloc (.cells #[.string s, .int .i64 z] 43)).alloc (.cells #[.int .i64 a] 3)).alloc (.cells #[.int .i64 b] 3)) ∧
    (((w.alloc (.cells #[.string s, .int .i64 z] 43)).alloc (.cells #[.int .i64 a] 3)).alloc (.cells #[.int .i64 b] 3)).cell? ⟨w.heap.size, 0, none⟩ = some (.string s) ∧
    (((w.alloc (.cells #[.string s, .int .i64 z] 43)).alloc (.cells #[.int .i64 a] 3)).alloc (.cells #[.int .i64 b] 3)).cell? ⟨w.heap.size, 1, none⟩ = some (.int .i64 z) := by
  have e1 : (w.alloc (.cells #[.string s, .int .i64 z] 43)).heap.size = w.heap.size + 1 := by simp
  have e2 : ((w.alloc (.cells #[.string s, .int .i64 z] 43)).alloc (.cells #[.int .i64 a] 3)).heap.size = w.heap.size + 1 + 1 := by simp
  have i1 := ints_one (w.alloc (.cells #[.string s, .int .i64 z] 43)) a ha
  rw [e1] at i1
  have i2 := ints_one ((w.alloc (.cells #[.string s, .int .i64 z] 43)).alloc (.cells #[.int .i64 a] 3)) b hb
  rw [e2] at i2
  refine ⟨(i1.alloc (by rw [e2]; exact Nat.le_refl _) _).more (by omega), i2, by simp, (((Below.refl _ w).alloc (Nat.le_refl _) _).alloc (by simp) _).alloc (by simp; omega) _, ?_, ?_⟩
  · rw [World.cell?_alloc_lt _ _ _ (by rw [e2]; show w.heap.size < _; omega), World.cell?_alloc_lt _ _ _ (by rw [e1]; show w.heap.size < _; omega)]
    exact cell_new w _ 43 0 rfl
  · rw [World.cell?_alloc_lt _ _ _ (by rw [e2]; show w.heap.size < _; omega), World.cell?_alloc_lt _ _ _ (by rw [e1]; show w.heap.size < _; omega)]
    exact cell_new w _ 43 1 rfl

set_option maxHeartbeats 2000000 in
theorem slot_any (e : En) (w : World) (h : e.okS) :
    Calls Try.prog 39 #[.agg #[.string e.nm, .int .i64 e.nd]] w fun r w' => r = .returned (.string (bs (slotL e))) ∧ Below w.heap.size w w' := by
  obtain ⟨s, z⟩ := e
  have h0 : 0 ≤ z := h.lo
  have h1 : z ≤ 65535 := h.hi
  have hs : s.size ≤ 11 := h.len
  have hz : hasZ s = false := h.nz
  obtain ⟨hw1, hw2⟩ := write2 h0 h1
  have HT := Lib.hid (text11 hs hz)
  have hpl : (byte2 z ++ (s.data.toList ++ zers (11 - s.size))).length = 13 := by
    unfold byte2 zers; rw [List.length_append, List.length_append, List.length_replicate, data_len]; simp; omega
  have HP := Lib.hid (pad16 hpl)
  have HSL : Hid (slotL ⟨s, z⟩ = byte2 z ++ (s.data.toList ++ zers (11 - s.size)) ++ zers 3) := rfl
  have HW := Lib.hid (fun (A A' : Option Addr) (B : Nat) (W : World) (a : IntsAt W B A 1 [2]) (b : IntsAt W B A' 1 [z]) (hB : B ≤ W.heap.size) => write_any A A' 1 1 1 1 B [2] [z] W a b hB (by omega) (by omega))
  rw [hw1] at HW
  simp only [hw2] at HW
  have HX := Lib.hid (fun W => text_any s 11 W (by omega) (by omega))
  rw [HT.out] at HX
  have HD := Lib.hid (fun W => pad_any (bs (byte2 z ++ (s.data.toList ++ zers (11 - s.size)))) 16 W (by rw [bs_size, hpl]; omega) (by omega))
  rw [HP.out] at HD
  have HAP := Lib.hid (bs_append (byte2 z) (s.data.toList ++ zers (11 - s.size)))
  rw [← HAP.out] at HD
  have hcat : ¬ 9223372036854775807 < (bs (byte2 z)).size + (bs (s.data.toList ++ zers (11 - s.size))).size := by
    rw [bs_size, bs_size, ← List.length_append, hpl]; omega
  rw [HSL.out]
  clear h hw1 hw2 HT HP HSL hz
  generalize byte2 z = p2 at *
  generalize s.data.toList ++ zers (11 - s.size) = p11 at *
  simp only
  go_enter Try.func39, Try.ntmps39
  go_wp2_with fail
  obtain ⟨i1, i2, e3, b3, m1, -⟩ := two_ints w s z 2 z (by omega) (by omega)
  generalize (((w.alloc (.cells #[.string s, .int .i64 z] 43)).alloc (.cells #[.int .i64 2] 3)).alloc (.cells #[.int .i64 z] 3)) = W3 at *
  have HB3 := Lib.hid b3
  refine (HW.out _ _ _ W3 i1 i2 (by rw [e3]; exact Nat.le_refl _)).mono ?_
  clear b3 i1 i2
  rintro e w4 ⟨rfl, b4⟩
  have k1 := bcell b4 m1 (by rw [e3]; show w.heap.size < _; omega)
  have HB4 := Lib.hid (HB3.out.trans (b4.mono HB3.out.size))
  clear b4 m1
  go_wp2_with fail
  refine (HX.out _).mono ?_
  rintro e w5 ⟨rfl, b5⟩
  have HB5 := Lib.hid (HB4.out.trans (b5.mono HB4.out.size))
  clear b5 k1
  go_wp2_with fail
  refine (HD.out _).mono ?_
  rintro e w6 ⟨rfl, b6⟩
  go_wp2
  go_ret
  exact ⟨by rw [List.append_assoc]; rfl, HB5.out.trans (b6.mono HB5.out.size)⟩
set_option maxHeartbeats 2000000 in
theorem one_any (e : En) (w : World) (h : e.okS) :
    Calls Try.prog 41 #[.agg #[.string e.nm, .int .i64 e.nd]] w fun r w' => r = .returned (.string (bs (slotL e))) ∧ Below w.heap.size w w' := by
  obtain ⟨s, z⟩ := e
  have h0 : 0 ≤ z := h.lo
  have h1 : z ≤ 65535 := h.hi
  have hs : s.size ≤ 11 := h.len
  have hz : hasZ s = false := h.nz
  obtain ⟨hw1, hw2⟩ := write2 h0 h1
  have HT := Lib.hid (text11 hs hz)
  have hpl : (byte2 z ++ (s.data.toList ++ zers (11 - s.size))).length = 13 := by
    unfold byte2 zers; rw [List.length_append, List.length_append, List.length_replicate, data_len]; simp; omega
  have HSL : Hid (slotL ⟨s, z⟩ = byte2 z ++ (s.data.toList ++ zers (11 - s.size)) ++ zers 3) := rfl
  have HW := Lib.hid (fun (A A' : Option Addr) (B : Nat) (W : World) (a : IntsAt W B A 1 [2]) (b : IntsAt W B A' 1 [z]) (hB : B ≤ W.heap.size) => rwrite_any A A' 1 1 1 1 B [2] [z] W a b hB (by omega) (by omega))
  rw [hw1] at HW
  simp only [hw2] at HW
  have HX := Lib.hid (fun W => rtext_any s 11 W (by omega) (by omega))
  rw [HT.out] at HX
  have HD : Hid (∀ W : World, Calls Try.prog 56 #[.int .i64 3] W fun e w' => e = .returned (.string (bs (zers 3))) ∧ Below W.heap.size W w') := fun W => zeros_any 3 W (by omega)
  have HAP : Hid (bs (byte2 z) ++ bs (s.data.toList ++ zers (11 - s.size)) ++ bs (zers 3) = bs (byte2 z ++ (s.data.toList ++ zers (11 - s.size)) ++ zers 3)) := by show _ = _; rw [bs_append, bs_append]
  have hcat2 : ¬ 9223372036854775807 < (bs (byte2 z) ++ bs (s.data.toList ++ zers (11 - s.size))).size + (bs (zers 3)).size := by
    rw [bs_append, bs_size, bs_size, hpl]; show ¬ _ < 13 + 3; omega
  have hcat : ¬ 9223372036854775807 < (bs (byte2 z)).size + (bs (s.data.toList ++ zers (11 - s.size))).size := by
    rw [bs_size, bs_size, ← List.length_append, hpl]; omega
  rw [HSL.out]
  clear h hw1 hw2 HT HSL hz
  generalize byte2 z = p2 at *
  generalize s.data.toList ++ zers (11 - s.size) = p11 at *
  simp only
  go_enter Try.func41, Try.ntmps41
  go_wp2_with fail
  obtain ⟨i1, i2, e3, b3, m1, -⟩ := two_ints w s z 2 z (by omega) (by omega)
  generalize (((w.alloc (.cells #[.string s, .int .i64 z] 43)).alloc (.cells #[.int .i64 2] 3)).alloc (.cells #[.int .i64 z] 3)) = W3 at *
  have HB3 := Lib.hid b3
  refine (HW.out _ _ _ W3 i1 i2 (by rw [e3]; exact Nat.le_refl _)).mono ?_
  clear b3 i1 i2
  rintro e w4 ⟨rfl, b4⟩
  have k1 := bcell b4 m1 (by rw [e3]; show w.heap.size < _; omega)
  have HB4 := Lib.hid (HB3.out.trans (b4.mono HB3.out.size))
  clear b4 m1
  go_wp2_with fail
  refine (HX.out _).mono ?_
  rintro e w5 ⟨rfl, b5⟩
  have HB5 := Lib.hid (HB4.out.trans (b5.mono HB4.out.size))
  clear b5 k1
  go_wp2_with fail
  refine (HD.out _).mono ?_
  rintro e w6 ⟨rfl, b6⟩
  go_wp2
  go_ret
  exact ⟨by rw [← HAP.out]; rfl, HB5.out.trans (b6.mono HB5.out.size)⟩

theorem unslot_no1 {p : List UInt8} (h : ¬ (untextR (bs (cutL p 2 13))).2 = 0) : unslotR p = none := by unfold unslotR; rw [if_neg (fun x => h x.1)]
theorem unslot_no2 {p : List UInt8} (h : ¬ ((untextR (bs (cutL p 13 16))).2 = 0 ∧ (untextR (bs (cutL p 13 16))).1 = ⟨#[]⟩)) : unslotR p = none := by unfold unslotR; rw [if_neg (fun x => h (rest_iff.1 x.2))]
theorem unslot_yes {p : List UInt8} (h : (untextR (bs (cutL p 2 13))).2 = 0) (h2 : (untextR (bs (cutL p 13 16))).2 = 0) (h3 : (untextR (bs (cutL p 13 16))).1 = ⟨#[]⟩) : unslotR p = some ⟨(untextR (bs (cutL p 2 13))).1, num2 p⟩ := by
  unfold unslotR; rw [if_pos ⟨h, rest_iff.2 ⟨h2, h3⟩⟩]
/-- what unslot answers. -/
def RetUn (w : World) (o : Option En) (r : Ending) (w' : World) : Prop := r = .returned (.tuple #[.agg #[.string (o.getD En.z).nm, .int .i64 (o.getD En.z).nd], .bool o.isSome]) ∧ Below w.heap.size w w'
theorem empty_iff {x : ByteArray} : x.toList = [] ↔ x = ⟨#[]⟩ := by
  rw [ByteArray.toList_eq]
  constructor
  · intro h; exact ByteArray.ext (Array.ext' (by simpa using h))
  · rintro rfl; rfl

/-- a block that holds an entry, known whole. -/
def EnRow (W : World) (q : Nat) (s : ByteArray) (z : Int) : Prop := W.heap[q]? = some (.cells #[.string s, .int .i64 z] 43 (0, 0))
section
variable {W : World} {q : Nat} {s : ByteArray} {z : Int}
theorem EnRow.lt (h : EnRow W q s z) : q < W.heap.size := (Array.getElem?_eq_some_iff.1 h).1
theorem EnRow.c0 (h : EnRow W q s z) : W.cell? ⟨q, 0, none⟩ = some (.string s) := by rw [cell_of_row W _ 0 _ 43 _ h]; rfl
theorem EnRow.c1 (h : EnRow W q s z) : W.cell? ⟨q, 1, none⟩ = some (.int .i64 z) := by rw [cell_of_row W _ 1 _ 43 _ h]; rfl
theorem EnRow.fz (h : EnRow W q s z) (k : Nat) : W.frozen? ⟨q, k, none⟩ = false := by unfold World.frozen?; rw [h]; simp
theorem EnRow.below {C : Nat} {w' : World} (h : EnRow W q s z) (hb : Below C W w') (hq : q < C) : EnRow w' q s z := (hb.block q hq).trans h
theorem EnRow.new (w : World) (s : ByteArray) (z : Int) : EnRow (w.alloc (.cells #[.string s, .int .i64 z] 43)) w.heap.size s z := by
  show (w.heap.push _)[w.heap.size]? = _
  simp
theorem EnRow.set (h : EnRow W q s z) (t : ByteArray) (y : Int) : EnRow ((W.setCell ⟨q, 0, none⟩ (.string t)).setCell ⟨q, 1, none⟩ (.int .i64 y)) q t y := by
  have h1 : (W.setCell ⟨q, 0, none⟩ (.string t)).heap[q]? = _ := heap_setCell_same W q 0 _ 43 _ h
  have h2 : ((W.setCell ⟨q, 0, none⟩ (.string t)).setCell ⟨q, 1, none⟩ (.int .i64 y)).heap[q]? = _ := heap_setCell_same _ q 1 _ 43 _ h1
  exact h2
theorem un_results (h : EnRow W q s z) (tmps : Array Value) (ht : tmps.getD 2 undef = .pointer (some ⟨q, 0, none⟩)) :
    (results Try.f42 tmps).run Try.prog W = .ok (.tuple #[.agg #[.string s, .int .i64 z], tmps.getD 3 undef]) W := by
  have k0 := h.c0
  have k1 := h.c1
  rw [results_cell_tmp (show Try.f42.results = #[.cell 2 43, .tmp 3] from rfl), ht]
  simp [go_sem, k0, k1]
end

set_option maxHeartbeats 4000000 in
theorem unslot_any (p : List UInt8) (w : World) (hp : p.length = 16) : Calls Try.prog 42 #[.string (bs p)] w (RetUn w (unslotR p)) := by
  have hs1 : (bs p).size = 16 := hp
  have e1 := bs_extract p 2 13
  have e2 := bs_extract p 13 16
  have HN1 := Lib.hid (unslot_no1 (p := p))
  have HN2 := Lib.hid (unslot_no2 (p := p))
  have HY := Lib.hid (unslot_yes (p := p))
  have HR := Lib.hid (fun (A : Option Addr) (B : Nat) (W : World) (a : IntsAt W B A 1 [2]) (hB : B ≤ W.heap.size) => read_any A 1 1 B [2] (bs p) W a hB (by omega) (by omega))
  rw [read2 (by omega)] at HR
  have HNB := Lib.hid (num2_bd p)
  have hl := cut_len hp
  have HU := Lib.hid (fun W => untext_any (bs (cutL p 2 13)) W (by rw [bs_size]; omega))
  have HV := Lib.hid (fun W => untext_any (bs (cutL p 13 16)) W (by rw [bs_size]; omega))
  rw [← e1] at HU HN1 HY
  rw [← e2] at HV HN2 HY
  generalize hu : untextR ((bs p).extract 2 13) = U at *
  generalize hv : untextR ((bs p).extract 13 16) = V at *
  clear hu hv e1 e2 hl hp
  obtain ⟨t, ze⟩ := U
  obtain ⟨x, zf⟩ := V
  simp only at HN1 HN2 HY HU HV
  generalize num2 p = nn at *
  generalize unslotR p = o at *
  generalize bs p = S at *
  go_enter Try.func42, Try.ntmps42
  go_wp2_with fail
  have hrow : EnRow ((w.alloc (.cells #[.string ⟨#[]⟩, .int .i64 0] 43)).alloc (.cells #[.int .i64 2] 3)) w.heap.size ⟨#[]⟩ 0 :=
    (EnRow.new w ⟨#[]⟩ 0).below ((Below.refl _ _).alloc (Nat.le_refl _) _) (by simp)
  have hints := ints_one (w.alloc (.cells #[.string ⟨#[]⟩, .int .i64 0] 43)) 2 (by omega)
  have ez : ((w.alloc (.cells #[.string ⟨#[]⟩, .int .i64 0] 43)).alloc (.cells #[.int .i64 2] 3)).heap.size = w.heap.size + 1 + 1 := by simp
  have hb2 : Below w.heap.size w ((w.alloc (.cells #[.string ⟨#[]⟩, .int .i64 0] 43)).alloc (.cells #[.int .i64 2] 3)) := ((Below.refl _ w).alloc (Nat.le_refl _) _).alloc (by simp) _
  rw [show (w.alloc (.cells #[.string ⟨#[]⟩, .int .i64 0] 43)).heap.size = w.heap.size + 1 by simp] at hints
  generalize (w.alloc (.cells #[.string ⟨#[]⟩, .int .i64 0] 43)).alloc (.cells #[.int .i64 2] 3) = W2 at *
  have HB2 := Lib.hid hb2
  have HRW2 := Lib.hid hrow
  have HLT2 : Hid (w.heap.size < W2.heap.size) := by show _ < _; omega
  refine (HR.out _ _ W2 hints (by omega)).mono ?_
  clear hb2 hrow hints ez
  rintro e w3 ⟨A3, n3, c3, rfl, hi3, b3⟩
  have hn3 : n3 = 1 := hi3.len.symm
  subst hn3
  obtain ⟨g, o3, rfl, hg, hc3⟩ := hi3.at_ (k := 0) (by omega)
  have HC3 : Hid (w3.cell? ⟨g, o3, none⟩ = some (.int .i64 nn)) := hc3
  have HRW3 := Lib.hid (HRW2.out.below b3 HLT2.out)
  have HB3 := Lib.hid (HB2.out.trans (b3.mono HB2.out.size))
  clear b3 hi3 hc3
  go_wp2_with fail
  refine (HU.out _).mono ?_
  rintro e w4 ⟨rfl, b4⟩
  have HRW4 := Lib.hid (HRW3.out.below b4 HRW3.out.lt)
  have HC4 := Lib.hid (bcell b4 HC3.out hg)
  have HG4 : Hid (g < w4.heap.size) := Nat.lt_of_lt_of_le hg b4.size
  have HB4 := Lib.hid (HB3.out.trans (b4.mono HB3.out.size))
  clear b4 hg
  by_cases hze : ze = 0
  · subst hze
    go_wp2_with fail
    refine (HV.out _).mono ?_
    rintro e w5 ⟨rfl, b5⟩
    have HRW5 := Lib.hid (HRW4.out.below b5 HRW4.out.lt)
    have c5 := bcell b5 HC4.out HG4.out
    have HB5 := Lib.hid (HB4.out.trans (b5.mono HB4.out.size))
    clear b5
    have k0 := HRW5.out.c0
    have k1 := HRW5.out.c1
    have f0 := HRW5.out.fz 0
    have f1 := HRW5.out.fz 1
    by_cases hzf : zf = 0
    · subst hzf
      by_cases hx : x = ⟨#[]⟩
      · have HO := Lib.hid (HY.out (by simp) (by simp) hx)
        subst hx
        have e0 : (ByteArray.mk #[]).toList = [] := by rw [ByteArray.toList_eq]
        have HR6 := Lib.hid (HRW5.out.set t nn)
        have HB6 : Hid (Below w.heap.size w ((w5.setCell ⟨w.heap.size, 0, none⟩ (.string t)).setCell ⟨w.heap.size, 1, none⟩ (.int .i64 nn))) := (HB5.out.setCell (Nat.le_refl _) _).setCell (Nat.le_refl _) _
        go_wp2
        refine bodyPost_ret (un_results HR6.out _ rfl) rfl ?_
        refine ⟨?_, HB6.out⟩
        rw [HO.out]; rfl
      · have HO := Lib.hid (HN2.out (fun h => hx h.2))
        have e0 : x.toList.isEmpty = false := by
          cases h : x.toList.isEmpty with
          | false => rfl
          | true => exact absurd (empty_iff.1 (List.isEmpty_iff.1 h)) hx
        have HR6 := Lib.hid (HRW5.out.set ⟨#[]⟩ 0)
        have HB6 : Hid (Below w.heap.size w ((w5.setCell ⟨w.heap.size, 0, none⟩ (.string ⟨#[]⟩)).setCell ⟨w.heap.size, 1, none⟩ (.int .i64 0))) := (HB5.out.setCell (Nat.le_refl _) _).setCell (Nat.le_refl _) _
        go_wp2
        refine bodyPost_ret (un_results HR6.out _ rfl) rfl ?_
        refine ⟨?_, HB6.out⟩
        rw [HO.out]; rfl
    · have HO := Lib.hid (HN2.out (fun h => hzf h.1))
      have d1 : (zf == 0) = false := beq_eq_false_iff_ne.2 hzf
      have HR6 := Lib.hid (HRW5.out.set ⟨#[]⟩ 0)
      have HB6 : Hid (Below w.heap.size w ((w5.setCell ⟨w.heap.size, 0, none⟩ (.string ⟨#[]⟩)).setCell ⟨w.heap.size, 1, none⟩ (.int .i64 0))) := (HB5.out.setCell (Nat.le_refl _) _).setCell (Nat.le_refl _) _
      go_wp2
      refine bodyPost_ret (un_results HR6.out _ rfl) rfl ?_
      refine ⟨?_, HB6.out⟩
      rw [HO.out]; rfl
  · have HO := Lib.hid (HN1.out hze)
    have d1 : (ze == 0) = false := beq_eq_false_iff_ne.2 hze
    have k0 := HRW4.out.c0
    have k1 := HRW4.out.c1
    have f0 := HRW4.out.fz 0
    have f1 := HRW4.out.fz 1
    have HR6 := Lib.hid (HRW4.out.set ⟨#[]⟩ 0)
    have HB6 : Hid (Below w.heap.size w ((w4.setCell ⟨w.heap.size, 0, none⟩ (.string ⟨#[]⟩)).setCell ⟨w.heap.size, 1, none⟩ (.int .i64 0))) := (HB4.out.setCell (Nat.le_refl _) _).setCell (Nat.le_refl _) _
    go_wp2
    refine bodyPost_ret (un_results HR6.out _ rfl) rfl ?_
    refine ⟨?_, HB6.out⟩
    rw [HO.out]; rfl
end Go.Proofs.Ytmmjpdggneagdaa
