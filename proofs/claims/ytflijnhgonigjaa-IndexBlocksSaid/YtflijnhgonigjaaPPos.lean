/-
  WALKS: place, Find. Conditions: at most 100000 pages.
-/
import Derived.Test.YtflijnhgonigjaaPFind
namespace Go.Proofs.Ytflijnhgonigjaa
open Go.RowKit

set_option maxHeartbeats 2000000 in
theorem place_nil (A : Option Addr) (c : Nat) (s : ByteArray) (w : World) :
    Calls Try.prog 32 #[.slice A 0 c, .string s] w fun e w' => e = .returned (.tuple #[.int .i64 0, .int .i64 0, .bool false]) ∧ Below w.heap.size w w' := by
  go_enter Try.func32, Try.ntmps32
  go_wp2
  go_ret3
  exact ⟨rfl, (Below.refl _ _).alloc (Nat.le_refl _) _⟩

set_option maxHeartbeats 4000000 in
theorem place_any (A : Option Addr) (n c B : Nat) (p : Pg) (s : ByteArray) (w : World) (hA : PgsAt w B A n p) (hB : B ≤ w.heap.size) (hn : n ≤ 100000) (hr : rightP p = true) (hp : p ≠ []) :
    Calls Try.prog 32 #[.slice A n c, .string s] w fun e w' => e = .returned (.tuple #[.int .i64 (atP p s : Nat), .int .i64 (kL (p.getD (atP p s) []) s : Nat), .bool (hasL p.flatten s)]) ∧ Below w.heap.size w w' := by
  have hat := atP_lt hp s
  have hle := lead_le (notAfter s) p
  have hdef : atP p s = lead (notAfter s) p - 1 := rfl
  have hl2 := right_len' hr hat
  have hk := kL_le (p.getD (atP p s) []) s
  have hhas := at_has hr hp s
  rw [hA.len] at hat hle
  have HL1 : Hid (∀ W, Below w.heap.size w W → ∀ q, W.cell? ⟨q, 0, none⟩ = some (.string s) → Calls Try.prog 60 #[.slice A n c, .func (.func 61) #[] #[.pointer (some ⟨q, 0, none⟩)]] W fun e w' => e = .returned (.int .i64 ((lead (notAfter s) p : Nat) : Int)) ∧ Drew W w') := fun W hW q hq =>
    leadP_any A n c B p s q _ W (hA.below hW hB) hn (fun l hl => by have := (rightP_iff.1 hr).1 l hl; omega) hq (by omega) (fun j hj => notAfter_iff hr s (by rw [hA.len]; exact hj))
  obtain ⟨b, o, A', c', rfl, hbB, hcell, hlc, hE⟩ := hA.at_ hat
  have HL2 : Hid (∀ W, Below w.heap.size w W → ∀ q, W.cell? ⟨q, 0, none⟩ = some (.string s) → q < W.heap.size → Calls Try.prog 62 #[.slice A' (p.getD (atP p s) []).length c', .func (.func 63) #[] #[.pointer (some ⟨q, 0, none⟩)]] W fun e w' => e = .returned (.int .i64 ((kL (p.getD (atP p s) []) s : Nat) : Int)) ∧ Below W.heap.size W w') := fun W hW q hq hql =>
    leadL_any A' _ c' B (p.getD (atP p s) []) s q _ W (hE.below hW hB) (Nat.le_trans hB hW.size) (by omega) hq hql hk (fun j hj => below_iff (page_asc hr (atP_lt hp s)) s hj)
  have hbl : b < w.heap.size := by omega
  have HC := Lib.hid hcell
  have HE := Lib.hid hE
  have HH : Hid (hasL p.flatten s = (decide (kL (p.getD (atP p s) []) s < (p.getD (atP p s) []).length) && eqB ((p.getD (atP p s) []).getD (kL (p.getD (atP p s) []) s) En.z).nm s)) := hhas.symm
  have HD := Lib.hid hdef
  have hl9 := hl2.2
  have hlen1 := hl2.1
  clear hA hcell hE hhas hr hp hdef hl2
  have hpn : 0 < n := by omega
  generalize hasL p.flatten s = res at *
  generalize kL (p.getD (atP p s) []) s = k at *
  generalize (p.getD (atP p s) []).length = len at *
  generalize p.getD (atP p s) [] = l at *
  generalize lead (notAfter s) p = ld at *
  generalize atP p s = at0 at *
  have e1 : ((n : Int) == 0) = false := by rw [beq_eq_false_iff_ne]; omega
  have hq0 : (w.alloc (.cells #[.string s] 9)).cell? ⟨w.heap.size, 0, none⟩ = some (.string s) := cell_new w _ 9 0 rfl
  have hB0 : Below w.heap.size w (w.alloc (.cells #[.string s] 9)) := (Below.refl _ _).alloc (Nat.le_refl _) _
  have hz0 : w.heap.size < (w.alloc (.cells #[.string s] 9)).heap.size := by simp
  go_enter Try.func32, Try.ntmps32
  go_wp2_with fail
  refine (HL1.out _ hB0 _ hq0).mono ?_
  rintro e w2 ⟨rfl, d2⟩
  have HB2 := Lib.hid (Below.drews hB0 d2)
  have hq2 : w2.cell? ⟨w.heap.size, 0, none⟩ = some (.string s) := (d2.cells _).trans hq0
  have hz2 : w.heap.size < w2.heap.size := by obtain ⟨m, rfl⟩ := d2; exact hz0
  have c2 := bcell HB2.out HC.out hbl
  have hmax : max ((ld : Int) - 1) 0 = (at0 : Int) := by rw [HD.out]; omega
  have HMX := Lib.hid hmax
  have HQ2 := Lib.hid hq2
  have HK2 := Lib.hid (HL2.out w2 HB2.out _ hq2 hz2)
  clear hmax d2 hB0 hq0 HL2 HL1
  have hmx := HMX.out
  go_wp2_with fail
  refine HK2.out.mono ?_
  rintro e w3 ⟨rfl, b3⟩
  have HB3 := Lib.hid (HB2.out.trans (b3.mono HB2.out.size))
  have hq3 : w3.cell? ⟨w.heap.size, 0, none⟩ = some (.string s) := bcell b3 HQ2.out hz2
  have c3 := bcell HB3.out HC.out hbl
  clear b3 c2
  by_cases hkl : k < len
  · obtain ⟨b', o', rfl, hbB', h1, -⟩ := HE.out.at_ hkl
    have d1 := bcell HB3.out h1 (show b' < w.heap.size by omega)
    have e2 : (k : Int) < (len : Int) := by omega
    have e2b : decide (k < len) = true := by simp [hkl]
    have HV : Hid (res = eqB (l.getD k En.z).nm s) := by show _ = _; rw [HH.out]; simp [hkl]
    clear h1
    generalize (l.getD k En.z).nm = x at *
    cases hx : x.toList == s.toList with
    | true =>
      have HR : Hid (res = true) := HV.out.trans hx
      go_wp2
      go_quiet (fail)
      go_wp2
      go_ret3
      exact ⟨by rw [HR.out]; rfl, Below.drews HB3.out ⟨_, rfl⟩⟩
    | false =>
      have HR : Hid (res = false) := HV.out.trans hx
      go_wp2
      go_quiet (fail)
      go_wp2
      go_ret3
      exact ⟨by rw [HR.out]; rfl, Below.drews HB3.out ⟨_, rfl⟩⟩
  · have e2 : ¬ (k : Int) < (len : Int) := by omega
    have e2b : decide (k < len) = false := by simp [hkl]
    have HR : Hid (res = false) := by show _ = _; rw [HH.out]; simp [hkl]
    go_wp2
    go_quiet (fail)
    go_wp2
    go_ret3
    exact ⟨by rw [HR.out]; rfl, Below.drews HB3.out ⟨_, rfl⟩⟩

theorem findP_no {p : Pg} {s : ByteArray} (h : rightP p = false) : findP p s = (0, false) := by unfold findP; rw [if_neg]; simp [h]
theorem findP_none {p : Pg} {s : ByteArray} (h : hasL p.flatten s = false) : findP p s = (0, false) := by unfold findP; rw [if_neg]; simp [h]
theorem findP_yes {p : Pg} {s : ByteArray} (hr : rightP p = true) (h : hasL p.flatten s = true) : findP p s = (((p.getD (atP p s) []).getD (kL (p.getD (atP p s) []) s) En.z).nd, true) := by
  unfold findP
  rw [if_pos ⟨hr, h⟩, node_at hr h]
theorem ret_pair {a a' : Int} {b b' : Bool} (h : (a, b) = (a', b')) : Ending.returned (.tuple #[.int .i64 a, .bool b]) = .returned (.tuple #[.int .i64 a', .bool b']) := by
  injection h with h1 h2; rw [h1, h2]

set_option maxHeartbeats 4000000 in
theorem find_any (A : Option Addr) (n c B : Nat) (p : Pg) (s : ByteArray) (w : World) (hA : PgsAt w B A n p) (hB : B ≤ w.heap.size) (hn : n ≤ 100000) (hm : ∀ l ∈ p, l.length ≤ 100000) :
    Calls Try.prog 10 #[.slice A n c, .string s] w fun e w' => e = .returned (.tuple #[.int .i64 (findP p s).1, .bool (findP p s).2]) ∧ Below w.heap.size w w' := by
  have HR := Lib.hid (iright_any A n c B p w hA hB hn hm)
  have HA := Lib.hid hA
  have hlen := hA.len
  clear hA hm
  cases hr : rightP p with
  | false =>
    have HF := Lib.hid (findP_no (s := s) hr)
    rw [hr] at HR
    clear hr hlen
    go_enter Try.func10, Try.ntmps10
    go_wp2_with fail
    refine HR.out.mono ?_
    rintro e w1 ⟨rfl, b1⟩
    go_wp2
    go_ret2
    exact ⟨by rw [HF.out]; rfl, b1⟩
  | true =>
    rw [hr] at HR
    by_cases hp : p = []
    · subst hp
      obtain rfl : n = 0 := hlen.symm
      have HF : Hid (findP [] s = (0, false)) := findP_none rfl
      clear hr
      go_enter Try.func10, Try.ntmps10
      go_wp2_with fail
      refine HR.out.mono ?_
      rintro e w1 ⟨rfl, b1⟩
      go_wp2_with fail
      refine (place_nil A c s w1).mono ?_
      rintro e w2 ⟨rfl, b2⟩
      go_wp2
      go_ret2
      exact ⟨by rw [HF.out]; rfl, b1.trans (b2.mono b1.size)⟩
    · have HP := Lib.hid (fun W (hW : Below w.heap.size w W) => place_any A n c B p s W (HA.out.below hW hB) (Nat.le_trans hB hW.size) hn hr hp)
      have hat := atP_lt hp s
      have hl9 := (right_len' hr hat).2
      obtain ⟨b, o, A', c', rfl, hbB, hcell, hlc, hE⟩ := HA.out.at_ (k := atP p s) (by rw [← hlen]; exact hat)
      rw [hlen] at hat
      cases hh : hasL p.flatten s with
      | false =>
        have HF := Lib.hid (findP_none hh)
        rw [hh] at HP
        clear hr hh hlen hcell hE hat
        generalize kL (p.getD (atP p s) []) s = k at *
        generalize atP p s = at0 at *
        go_enter Try.func10, Try.ntmps10
        go_wp2_with fail
        refine HR.out.mono ?_
        rintro e w1 ⟨rfl, b1⟩
        go_wp2_with fail
        refine (HP.out w1 b1).mono ?_
        rintro e w2 ⟨rfl, b2⟩
        go_wp2
        go_ret2
        exact ⟨by rw [HF.out]; rfl, b1.trans (b2.mono b1.size)⟩
      | true =>
        have HF := Lib.hid (findP_yes hr hh)
        have hk := (has_at hr hh).1
        obtain ⟨b', o', rfl, hbB', -, h2⟩ := hE.at_ hk
        rw [hh] at HP
        have HC := Lib.hid hcell
        have HC2 := Lib.hid h2
        clear hr hh hlen hcell hE h2 hp
        generalize ((p.getD (atP p s) []).getD (kL (p.getD (atP p s) []) s) En.z).nd = z at *
        generalize kL (p.getD (atP p s) []) s = k at *
        generalize (p.getD (atP p s) []).length = len at *
        generalize atP p s = at0 at *
        go_enter Try.func10, Try.ntmps10
        go_wp2_with fail
        refine HR.out.mono ?_
        rintro e w1 ⟨rfl, b1⟩
        go_wp2_with fail
        refine (HP.out w1 b1).mono ?_
        rintro e w2 ⟨rfl, b2⟩
        have HB2 := Lib.hid (b1.trans (b2.mono b1.size))
        have c1 := bcell HB2.out HC.out (show b < w.heap.size by omega)
        have c2 := bcell HB2.out HC2.out (show b' < w.heap.size by omega)
        have k1 : (k : Int) < (len : Int) := by omega
        have k2 : (at0 : Int) < (n : Int) := by omega
        clear b1 b2
        go_wp2
        go_ret2
        exact ⟨by rw [HF.out]; rfl, HB2.out⟩
end Go.Proofs.Ytflijnhgonigjaa
