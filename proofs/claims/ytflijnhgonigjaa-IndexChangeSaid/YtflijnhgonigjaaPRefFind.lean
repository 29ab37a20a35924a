/-
  WALK: the reference's Find. Conditions: at most 100000 pages, at most 100000 entries in all.
-/
import Derived.Test.YtflijnhgonigjaaPRef
namespace Go.Proofs.Ytflijnhgonigjaa
open Go.RowKit

theorem hasL_no {l : List En} {s : ByteArray} (h : ∀ j, j < l.length → (l.getD j En.z).nm ≠ s) : hasL l s = false := by
  cases hh : hasL l s with
  | false => rfl
  | true =>
    obtain ⟨e, he, hs⟩ := hasL_iff.1 hh
    obtain ⟨j, hj, rfl⟩ := List.getElem_of_mem he
    exact absurd (by rw [getD_lt hj]; exact hs) (h j hj)
theorem findP_at {p : Pg} {s : ByteArray} (hr : rightP p = true) {j : Nat} (hj : j < p.flatten.length) (he : (p.flatten.getD j En.z).nm = s) : findP p s = ((p.flatten.getD j En.z).nd, true) := by
  obtain ⟨h1, h2, -⟩ := first_named (right_asc hr) hj he
  unfold findP
  rw [if_pos ⟨hr, h1⟩, h2]

set_option maxHeartbeats 4000000 in
theorem rfind_anyP (A : Option Addr) (n c B : Nat) (p : Pg) (s : ByteArray) (w : World) (hA : PgsAt w B A n p) (hB : B ≤ w.heap.size) (hn : n ≤ 100000) (hm : p.flatten.length ≤ 100000) :
    Calls Try.prog 11 #[.slice A n c, .string s] w fun e w' => e = .returned (.tuple #[.int .i64 (findP p s).1, .bool (findP p s).2]) ∧ Below w.heap.size w w' := by
  have HALL := Lib.hid (rall_any A n c B p w hA hB hn hm)
  have HRT := Lib.hid (fun W (hW : Below w.heap.size w W) => rright_anyP A n c B p W (hA.below hW hB) (Nat.le_trans hB hW.size) hn hm)
  have HFIT := Lib.hid hA.fit
  have HNO : Hid ((∀ j, j < p.flatten.length → (p.flatten.getD j En.z).nm ≠ s) → findP p s = (0, false)) := fun h => findP_none (hasL_no h)
  clear hA
  cases hr : rightP p with
  | false =>
    have HF := Lib.hid (findP_no (s := s) hr)
    rw [hr] at HRT
    clear hr HNO
    generalize findP p s = res at *
    generalize p.flatten = l at *
    go_enter Try.func11, Try.ntmps11
    go_wp2_with fail
    refine HALL.out.mono ?_
    intro e w1 hr
    obtain ⟨A1, c1, rfl, -, hE, b1⟩ := hr.ens HFIT.out
    have HB1 := Lib.hid b1
    have HRW := Lib.hid (HRT.out w1 b1)
    clear hE b1 hr
    generalize l.length = m at *
    go_wp2
    go_loopw [7] (fun i wr => i = .int .i64 0 ∧ wr = w1) (fun i _ => 1)
    case atStart => exact ⟨rfl, rfl⟩
    case round =>
      obtain ⟨rfl, rfl⟩ := hrel
      by_cases h0 : 0 < m
      · have e0 : (0 : Int) < (m : Int) := by omega
        have e0b : decide (0 < m) = true := by simpa using h0
        go_wp2_with fail
        refine HRW.out.mono ?_
        rintro e w2 ⟨rfl, b2⟩
        go_wp2
        go_ret2
        exact ⟨by rw [HF.out]; rfl, HB1.out.trans (b2.mono HB1.out.size)⟩
      · have e0 : ¬ (0 : Int) < (m : Int) := by omega
        have e0b : decide (0 < m) = false := by simpa using h0
        go_wp2
        go_ret2
        exact ⟨by rw [HF.out]; rfl, HB1.out⟩
  | true =>
    have HAT : Hid (∀ j, j < p.flatten.length → (p.flatten.getD j En.z).nm = s → findP p s = ((p.flatten.getD j En.z).nd, true)) := fun j hj he => findP_at hr hj he
    rw [hr] at HRT
    clear hr
    generalize findP p s = res at *
    generalize p.flatten = l at *
    go_enter Try.func11, Try.ntmps11
    go_wp2_with fail
    refine HALL.out.mono ?_
    intro e w1 hr
    obtain ⟨A1, c1, rfl, -, hE, b1⟩ := hr.ens HFIT.out
    have HB1 := Lib.hid b1
    have HE := Lib.hid hE
    clear hE b1 hr
    generalize l.length = m at *
    go_wp2
    go_loopw [7] (fun i wr => ∃ j : Nat, j ≤ m ∧ i = .int .i64 (j : Int) ∧ Hid (∀ k, k < j → (l.getD k En.z).nm ≠ s) ∧ Below w1.heap.size w1 wr) (fun i _ => m - (intOf i).toNat)
    case atStart => exact ⟨0, by omega, rfl, fun k hk => absurd hk (Nat.not_lt_zero _), Below.refl _ _⟩
    case round =>
      obtain ⟨j, hj, rfl, hno, hb⟩ := hrel
      have HBW := Lib.hid (HB1.out.trans (hb.mono HB1.out.size))
      by_cases hjm : j < m
      · obtain ⟨b, o, rfl, hbB, h1, h2⟩ := HE.out.at_ hjm
        have HRW := Lib.hid (HRT.out wr HBW.out)
        have HC1 := Lib.hid (bcell hb h1 hbB)
        have HC2 := Lib.hid (bcell hb h2 hbB)
        have hbl := Nat.lt_of_lt_of_le hbB hb.size
        have HATj := Lib.hid (HAT.out j hjm)
        have HNX : Hid ((l.getD j En.z).nm ≠ s → ∀ k, k < j + 1 → (l.getD k En.z).nm ≠ s) := fun h k hk => by
          rcases Nat.lt_or_ge k j with h3 | h3
          · exact hno.out k h3
          · obtain rfl : k = j := by omega
            exact h
        have HBR := Lib.hid hb
        clear h1 h2 hb
        generalize hx : (l.getD j En.z) = x at *
        clear hx
        obtain ⟨t, z⟩ := x
        simp only at HC1 HC2 HATj HNX
        have e0 : (j : Int) < (m : Int) := by omega
        have e0b : decide (j < m) = true := by simpa using hjm
        go_wp2_with fail
        refine HRW.out.mono ?_
        rintro e w2 ⟨rfl, b2⟩
        have c1 := bcell b2 HC1.out hbl
        have c2 := bcell b2 HC2.out hbl
        have HB2 := Lib.hid (HBW.out.trans (b2.mono HBW.out.size))
        have HB3 := Lib.hid (HBR.out.trans (b2.mono HBR.out.size))
        clear b2
        cases hts : t.toList == s.toList with
        | true =>
          have HR := Lib.hid (HATj.out (eqB_iff.1 hts))
          go_wp2
          go_ret2
          exact ⟨by rw [HR.out]; rfl, HB2.out⟩
        | false =>
          have HN := Lib.hid (HNX.out (eqB_ne.1 hts))
          go_wp2
          go_roundw
          case rel => exact ⟨j + 1, by omega, by go_num, HN, HB3.out⟩
          case measure => simp [intOf]; omega
      · have HF := Lib.hid (HNO.out (fun k hk => hno.out k (by omega)))
        have e0 : ¬ (j : Int) < (m : Int) := by omega
        have e0b : decide (j < m) = false := by simpa using hjm
        go_wp2
        go_ret2
        exact ⟨by rw [HF.out]; rfl, HBW.out⟩
end Go.Proofs.Ytflijnhgonigjaa
