/-
  WALKS: the closures of place, leading, place, Find. Conditions: at most 100000 pages of at most 100000 entries.
-/
import Derived.Test.YtflijnhgonigjaaPRight
namespace Go.Proofs.Ytflijnhgonigjaa
open Go.RowKit

theorem quiet_drew {P : Program} {f : FuncId} {args : Array Value} {w : World} {n : Nat} {v : Value}
    (h : Calls P f args (w.drewN n) fun e w' => e = .returned v ∧ Drew (w.drewN n) w') : Calls P f args (w.drewN n) fun e w'' => e = .returned v ∧ ∃ m, w'' = w.drewN m :=
  h.mono fun _ _ ⟨he, m, hm⟩ => ⟨he, n + m, by rw [hm, World.drewN_drewN]⟩
theorem compare_is (a b : ByteArray) (z : Int) (w : World) (h : cmpB a b = z) : Calls Try.prog 35 #[.string a, .string b] w fun e w' => e = .returned (.int .i64 z) ∧ Drew w w' := by
  refine (compare_any a b w).mono ?_
  rintro e w' ⟨rfl, rfl⟩
  exact ⟨by rw [h], Drew.refl _⟩
theorem notAfter_cmp (t : ByteArray) (l : List En) : notAfter t l = decide (cmpB (firstN l) t ≤ 0) := by
  unfold notAfter ltB cmpB
  rw [cmp_neg (firstN l).data.toList t.data.toList, ← decide_not, decide_eq_decide]
  omega

set_option maxHeartbeats 1000000 in
theorem first_is (v : Bool) (A : Option Addr) (m c B : Nat) (l : List En) (t : ByteArray) (q : Nat) (w : World) (hA : EnsAt w B A m l) (hm : 1 ≤ m) (hmc : m ≤ 100000) (hq : w.cell? ⟨q, 0, none⟩ = some (.string t)) (h : notAfter t l = v) :
    Calls Try.prog 61 #[.slice A m c, .pointer (some ⟨q, 0, none⟩)] w fun e w' => e = .returned (.bool v) ∧ Drew w w' := by
  obtain ⟨b, o, rfl, hbB, h1, -⟩ := hA.at_ (k := 0) (by omega)
  have HF : Hid (decide (cmpB (firstN l) t ≤ 0) = v) := by show _ = _; rw [← notAfter_cmp]; exact h
  have HC : Hid (∀ W, Calls Try.prog 35 #[.string (l.getD 0 En.z).nm, .string t] W fun e w' => e = .returned (.int .i64 (cmpB (firstN l) t)) ∧ Drew W w') := fun W => compare_is _ _ _ W rfl
  clear hA h
  generalize cmpB (firstN l) t = z at *
  generalize (l.getD 0 En.z).nm = s at *
  have c1 : w.cell? ⟨b, o, none⟩ = some (.string s) := by simpa using h1
  have hm0 : 0 < m := by omega
  clear h1
  go_enter Try.func61, Try.ntmps61
  go_wp2
  go_quiet ((go_at_call 35; with_reducible exact quiet_drew (HC.out _)))
  go_wp2
  go_ret
  refine ⟨ret_bool HF.out, ?_⟩
  exact ⟨_, rfl⟩

set_option maxHeartbeats 1000000 in
theorem below_is (v : Bool) (s : ByteArray) (n : Int) (t : ByteArray) (q : Nat) (w : World) (hq : w.cell? ⟨q, 0, none⟩ = some (.string t)) (hql : q < w.heap.size) (h : ltB s t = v) :
    Calls Try.prog 63 #[.agg #[.string s, .int .i64 n], .pointer (some ⟨q, 0, none⟩)] w fun e w' => e = .returned (.bool v) ∧ Below w.heap.size w w' := by
  have HF : Hid (decide (cmpB s t < 0) = v) := h
  have HC : Hid (∀ W, Calls Try.prog 35 #[.string s, .string t] W fun e w' => e = .returned (.int .i64 (cmpB s t)) ∧ W = w') := fun W => compare_any _ _ W
  clear h
  generalize cmpB s t = z at *
  go_enter Try.func63, Try.ntmps63
  go_wp2_with fail
  refine (HC.out _).mono ?_
  rintro e w1 ⟨rfl, rfl⟩
  go_wp2
  go_ret
  exact ⟨ret_bool HF.out, (Below.refl _ _).alloc (Nat.le_refl _) _⟩

set_option maxHeartbeats 2000000 in
theorem leadP_any (A : Option Addr) (n c B : Nat) (p : Pg) (t : ByteArray) (q m : Nat) (w : World) (hA : PgsAt w B A n p) (hn : n ≤ 100000) (hl : ∀ l ∈ p, 1 ≤ l.length ∧ l.length ≤ 100000) (hq : w.cell? ⟨q, 0, none⟩ = some (.string t)) (hmn : m ≤ n)
    (hm : ∀ j, j < n → notAfter t (p.getD j []) = decide (j < m)) :
    Calls Try.prog 60 #[.slice A n c, .func (.func 61) #[] #[.pointer (some ⟨q, 0, none⟩)]] w fun e w' => e = .returned (.int .i64 (m : Int)) ∧ Drew w w' := by
  have HA := Lib.hid hA
  have HQ := Lib.hid hq
  have HM := Lib.hid hm
  have HLN : Hid (∀ j, j < n → 1 ≤ (p.getD j []).length ∧ (p.getD j []).length ≤ 100000) := fun j hj => by
    rw [pg_getD (by rw [hA.len]; exact hj)]; exact hl _ (List.getElem_mem _)
  clear hA hq hm hl
  go_enter Try.func60, Try.ntmps60
  go_wp2
  go_loopw [5, 6] (fun lo hi wr => ∃ a b : Nat, lo = .int .i64 (a : Int) ∧ hi = .int .i64 (b : Int) ∧ a ≤ m ∧ m ≤ b ∧ b ≤ n ∧ Drew w wr) (fun lo hi _ => (intOf hi - intOf lo).toNat)
  case atStart => exact ⟨0, n, rfl, rfl, by omega, hmn, by omega, Drew.refl _⟩
  case round =>
    obtain ⟨a, b, rfl, rfl, ham, hmb, hbn, hdr⟩ := hrel
    by_cases hlt : a < b
    · obtain ⟨d, hd⟩ : ∃ d : Nat, d = (b - a) / 2 := ⟨_, rfl⟩
      have hmid : a + d < b := by omega
      obtain ⟨b', o', A', c', rfl, hbB, hcell, hlc, hE⟩ := HA.out.at_ (k := a + d) (by omega)
      have c1 : wr.cell? ⟨b', o' + (a + d), none⟩ = some (.slice A' (p.getD (a + d) []).length c') := (hdr.cells _).trans hcell
      have hE2 := hE.keep (w' := wr) (fun x _ => hdr.cells x)
      have hq2 : wr.cell? ⟨q, 0, none⟩ = some (.string t) := (hdr.cells _).trans HQ.out
      have hlk := HLN.out (a + d) (by omega)
      have hMk := HM.out (a + d) (by omega)
      have HCT : Hid (∀ v, decide (a + d < m) = v → Calls Try.prog 61 #[.slice A' (p.getD (a + d) []).length c', .pointer (some ⟨q, 0, none⟩)] wr fun e w' => e = .returned (.bool v) ∧ Drew wr w') := fun v hv =>
        first_is v A' _ c' B (p.getD (a + d) []) t q wr hE2 hlk.1 hlk.2 hq2 (by rw [hMk]; exact hv)
      have HD := Lib.hid hd
      have HDR := Lib.hid hdr
      clear hE hE2 hq2 hMk hd hdr hcell
      generalize (p.getD (a + d) []).length = len at *
      have e1 : ((b : Int) - (a : Int)) / 2 = (d : Int) := by have := HD.out; omega
      have e2 : ((a : Int) + (d : Int)).toNat = a + d := by omega
      have e3 : (a : Int) + (d : Int) < (n : Int) := by omega
      have e4 : (0 : Int) ≤ (a : Int) + (d : Int) := by omega
      have e5 : (a : Int) < (b : Int) := by omega
      have e6 : (0 : Int) ≤ (b : Int) - (a : Int) := by omega
      by_cases hdm : a + d < m
      · have HC := Lib.hid (HCT.out true (by simp [hdm]))
        go_wp2_with fail
        refine HC.out.mono ?_
        rintro e w3 ⟨rfl, d3⟩
        go_wp2
        go_roundw
        case rel => exact ⟨a + d + 1, b, by go_num, rfl, by omega, hmb, hbn, HDR.out.trans d3⟩
        case measure => simp [intOf]; omega
      · have HC := Lib.hid (HCT.out false (by simp [hdm]))
        go_wp2_with fail
        refine HC.out.mono ?_
        rintro e w3 ⟨rfl, d3⟩
        go_wp2
        go_roundw
        case rel => exact ⟨a, a + d, rfl, by go_num, ham, by omega, by omega, HDR.out.trans d3⟩
        case measure => simp [intOf]; omega
    · have e5 : ¬ (a : Int) < (b : Int) := by omega
      have HE : Hid ((a : Int) = (m : Int)) := by show (a : Int) = m; omega
      go_wp2
      go_ret
      exact ⟨by rw [HE.out]; rfl, hdr⟩

set_option maxHeartbeats 2000000 in
theorem leadL_any (A : Option Addr) (n c B : Nat) (l : List En) (t : ByteArray) (q m : Nat) (w : World) (hA : EnsAt w B A n l) (hB : B ≤ w.heap.size) (hn : n ≤ 100000) (hq : w.cell? ⟨q, 0, none⟩ = some (.string t)) (hql : q < w.heap.size) (hmn : m ≤ n)
    (hm : ∀ j, j < n → ltB (l.getD j En.z).nm t = decide (j < m)) :
    Calls Try.prog 62 #[.slice A n c, .func (.func 63) #[] #[.pointer (some ⟨q, 0, none⟩)]] w fun e w' => e = .returned (.int .i64 (m : Int)) ∧ Below w.heap.size w w' := by
  have HA := Lib.hid hA
  have HQ := Lib.hid hq
  have HM := Lib.hid hm
  clear hA hq hm
  go_enter Try.func62, Try.ntmps62
  go_wp2
  go_loopw [5, 6] (fun lo hi wr => ∃ a b : Nat, lo = .int .i64 (a : Int) ∧ hi = .int .i64 (b : Int) ∧ a ≤ m ∧ m ≤ b ∧ b ≤ n ∧ Below w.heap.size w wr) (fun lo hi _ => (intOf hi - intOf lo).toNat)
  case atStart => exact ⟨0, n, rfl, rfl, by omega, hmn, by omega, Below.refl _ _⟩
  case round =>
    obtain ⟨a, b, rfl, rfl, ham, hmb, hbn, hb⟩ := hrel
    by_cases hlt : a < b
    · obtain ⟨d, hd⟩ : ∃ d : Nat, d = (b - a) / 2 := ⟨_, rfl⟩
      have hmid : a + d < b := by omega
      obtain ⟨b', o', rfl, hbB, h1, h2⟩ := HA.out.at_ (k := a + d) (by omega)
      have hbl : b' < w.heap.size := by omega
      have c1 := bcell hb h1 hbl
      have c2 := bcell hb h2 hbl
      have hq2 : wr.cell? ⟨q, 0, none⟩ = some (.string t) := bcell hb HQ.out hql
      have hql2 : q < wr.heap.size := Nat.lt_of_lt_of_le hql hb.size
      have hMk := HM.out (a + d) (by omega)
      have HCT : Hid (∀ v, decide (a + d < m) = v → Calls Try.prog 63 #[.agg #[.string (l.getD (a + d) En.z).nm, .int .i64 (l.getD (a + d) En.z).nd], .pointer (some ⟨q, 0, none⟩)] wr fun e w' => e = .returned (.bool v) ∧ Below wr.heap.size wr w') := fun v hv =>
        below_is v _ _ t q wr hq2 hql2 (by rw [hMk]; exact hv)
      have HD := Lib.hid hd
      have HB := Lib.hid hb
      clear hq2 hMk hd hb h1 h2
      generalize l.getD (a + d) En.z = x at *
      obtain ⟨s, z⟩ := x
      simp only at c1 c2 HCT
      have e1 : ((b : Int) - (a : Int)) / 2 = (d : Int) := by have := HD.out; omega
      have e2 : ((a : Int) + (d : Int)).toNat = a + d := by omega
      have e3 : (a : Int) + (d : Int) < (n : Int) := by omega
      have e4 : (0 : Int) ≤ (a : Int) + (d : Int) := by omega
      have e5 : (a : Int) < (b : Int) := by omega
      have e6 : (0 : Int) ≤ (b : Int) - (a : Int) := by omega
      by_cases hdm : a + d < m
      · have HC := Lib.hid (HCT.out true (by simp [hdm]))
        go_wp2_with fail
        refine HC.out.mono ?_
        rintro e w3 ⟨rfl, b3⟩
        go_wp2
        go_roundw
        case rel => exact ⟨a + d + 1, b, by go_num, rfl, by omega, hmb, hbn, HB.out.trans (b3.mono HB.out.size)⟩
        case measure => simp [intOf]; omega
      · have HC := Lib.hid (HCT.out false (by simp [hdm]))
        go_wp2_with fail
        refine HC.out.mono ?_
        rintro e w3 ⟨rfl, b3⟩
        go_wp2
        go_roundw
        case rel => exact ⟨a, a + d, rfl, by go_num, ham, by omega, by omega, HB.out.trans (b3.mono HB.out.size)⟩
        case measure => simp [intOf]; omega
    · have e5 : ¬ (a : Int) < (b : Int) := by omega
      have HE : Hid ((a : Int) = (m : Int)) := by show (a : Int) = m; omega
      go_wp2
      go_ret
      exact ⟨by rw [HE.out]; rfl, hb⟩
end Go.Proofs.Ytflijnhgonigjaa
