/-
  PROVED: 'wainwrightlaw07.RollsStay' returns true for every input (a slice of entries, a string, an int), and its arguments read afterwards as before. Conditions: none beside those that the row itself says (the form's own reach).
-/
import Derived.Test.YtmmjpdggneagdaaEFrame
namespace Go.Proofs.Ytmmjpdggneagdaa.rollsStay
open Go.ChangeShapes Go.WideShapes Go.ChangeAt Go.RowKit
open Go.ChangeMaps (open_string shut_string)
set_option linter.unusedVariables false

theorem set_getD (l : List En) (k i : Nat) (x : En) (hi : i < l.length) : (l.set k x).getD i En.z = if k = i then x else l.getD i En.z := by
  simp only [List.getD, List.getElem?_set]
  split
  · rename_i h; subst h; simp [hi]
  · rfl
theorem addR_stay {l : List En} {s : ByteArray} {z : Int} (h : (addR l s z).2 = 0) : l.length ≤ (addR l s z).1.length ∧ ∀ i, i < l.length → (addR l s z).1.getD i En.z = l.getD i En.z ∨ ((l.getD i En.z).nd = 0 ∧ ((addR l s z).1.getD i En.z).nm = s) := by
  unfold addR at h ⊢
  split at h
  · rename_i h0
    rw [if_pos h0]
    split at h
    · rename_i h1
      rw [if_pos h1]
      split at h
      · rename_i h2
        rw [if_pos h2]
        split at h
        · rename_i h3
          rw [if_pos h3]
          split at h
          · rename_i h4
            rw [if_pos h4]
            refine ⟨by simp, fun i hi => ?_⟩
            simp only
            rw [set_getD _ _ _ _ hi]
            split
            · rename_i hk
              right
              refine ⟨?_, rfl⟩
              rcases idx_cases freeB l with ⟨h5, -⟩ | ⟨k, hk2, h5, h6, -⟩
              · omega
              · rw [h5] at hk
                obtain rfl : k = i := by omega
                rw [freeB_iff.1 h6]; rfl
            · exact Or.inl rfl
          · rename_i h4
            rw [if_neg h4]
            refine ⟨by unfold ofR; simp, fun i hi => Or.inl ?_⟩
            unfold ofR
            simp only [List.getD]
            rw [List.append_assoc, List.getElem?_append_left hi]
        · simp at h
      · simp at h
    · simp at h
  · simp at h
theorem dropR_stay {l : List En} {s : ByteArray} (h : (dropR l s).2.2 = 0) : (dropR l s).1.length = l.length ∧ ∀ i, i < l.length → (dropR l s).1.getD i En.z = l.getD i En.z ∨ ((l.getD i En.z).nm = s ∧ ((dropR l s).1.getD i En.z).nd = 0) := by
  unfold dropR at h ⊢
  split at h
  · rename_i h0
    rw [if_pos h0]
    split at h
    · simp at h
    · rename_i h1
      rw [if_neg h1]
      refine ⟨by simp, fun i hi => ?_⟩
      simp only
      rw [set_getD _ _ _ _ hi]
      split
      · rename_i hk
        right
        obtain ⟨k, hk2, h5, -, h6, -⟩ := place_pos h1
        rw [h5] at hk
        obtain rfl : k = i := by omega
        exact ⟨h6, rfl⟩
      · exact Or.inl rfl
  · simp at h
theorem differ {x y : En} (h : y ≠ x) : (y.nm.toList == x.nm.toList) = false ∨ ((y.nm.toList == x.nm.toList) = true ∧ y.nd ≠ x.nd) := by
  cases hv : eqB y.nm x.nm with
  | false => exact Or.inl hv
  | true =>
    refine Or.inr ⟨hv, fun e => h ?_⟩
    have := eqB_iff.1 hv
    obtain ⟨a, b⟩ := x
    obtain ⟨c, d⟩ := y
    simp only at this e
    rw [this, e]

set_option maxRecDepth 100000 in
set_option maxHeartbeats 16000000 in
theorem walk (A : Option Addr) (n c : Nat) (l : List En) (s : ByteArray) (z : Int) (w : World) (h1 : EnsAt w w.heap.size A n l ∧ n ≤ c) (hs : s.size ≤ 140737488355328) (hz : -9223372036854775808 ≤ z ∧ z ≤ 9223372036854775807) :
    Calls Try.prog 7 #[.slice A n c, .string s, .int .i64 z] w fun e w' => e = .returned (.bool true) ∧ Below w.heap.size w w' := by
  obtain ⟨hE, hnc⟩ := h1
  have HE := Lib.hid hE
  clear hE
  go_enter Try.func7, Try.ntmps7
  go_wp2_with fail
  refine (lives_any w).mono ?_
  rintro e w1 ⟨rfl, b1⟩
  have HB1 := Lib.hid b1
  have HE1 := Lib.hid (HE.out.below b1 (Nat.le_refl _))
  clear b1
  go_wp2_with fail
  refine (early_any A n c w1 hnc).mono ?_
  rintro e w2 ⟨rfl, rfl⟩
  obtain ⟨m, hm⟩ : ∃ m : Nat, m = min n 200 := ⟨_, rfl⟩
  have HEM := Lib.hid (HE1.out.take m (by omega))
  have hm2 : m ≤ 200 := by omega
  rw [← hm]
  clear hm HE1
  generalize l.take m = l2 at *
  have HL := Lib.hid HEM.out.len
  have hal := addR_len l2 s z
  rw [HL.out] at hal
  have HFA := Lib.hid (addR_fit HEM.out.2.1 hs hz)
  have HFD := Lib.hid (dropR_fit (s := s) HEM.out.2.1)
  have HSA := Lib.hid (addR_stay (l := l2) (s := s) (z := z))
  have HSD := Lib.hid (dropR_stay (l := l2) (s := s))
  have KA := Lib.hid (fun W (h : Below w.heap.size w1 W) (hw : w.heap.size ≤ W.heap.size) => add_any A m c w.heap.size l2 s z W (HEM.out.below h (Nat.le_refl _)) hw (by omega) hs hz)
  have KC := Lib.hid (fun W (h : Below w.heap.size w1 W) (hw : w.heap.size ≤ W.heap.size) => drop_any A m c w.heap.size l2 s W (HEM.out.below h (Nat.le_refl _)) hw (by omega))
  generalize addR l2 s z = R at *
  generalize dropR l2 s = D at *
  obtain ⟨L, ze⟩ := R
  obtain ⟨M, zn, zf⟩ := D
  simp only at hal HFA HFD HSA HSD
  have HW1 := Lib.hid HB1.out.size
  go_wp2_with fail
  refine (KA.out w1 (Below.refl _ _) HW1.out).mono ?_
  intro e w3 hr3
  obtain ⟨A3, c3, rfl, -, hE3, b3⟩ := hr3.ens HFA.out
  simp only at hE3 ⊢
  have HE3 := Lib.hid hE3
  have HB3 := Lib.hid (b3.mono HW1.out)
  have HW3 := Lib.hid (Nat.le_trans HW1.out b3.size)
  clear b3 hr3 hE3
  go_wp2_with fail
  refine (KC.out w3 HB3.out HW3.out).mono ?_
  intro e w5 hr5
  obtain ⟨A5, c5, rfl, -, hE5, b5⟩ := hr5.ens HFD.out
  simp only at hE5 ⊢
  have HE5 := Lib.hid hE5
  have HE35 := Lib.hid (HE3.out.below b5 (Nat.le_refl _))
  have HB5 := Lib.hid (HB3.out.trans (b5.mono HW3.out))
  have HEM5 := Lib.hid (HEM.out.below HB5.out (Nat.le_refl _))
  clear b5 hr5 hE5 HE3
  have HDA : Hid (¬ ze = 0 ∨ (ze = 0 ∧ m ≤ L.length ∧ ∀ i, i < m → L.getD i En.z = l2.getD i En.z ∨ ((l2.getD i En.z).nd = 0 ∧ (L.getD i En.z).nm = s))) := by
    show _ ∨ _
    by_cases h : ze = 0
    · have := HSA.out h
      rw [HL.out] at this
      exact Or.inr ⟨h, this⟩
    · exact Or.inl h
  have HDD : Hid (¬ zf = 0 ∨ (zf = 0 ∧ M.length = m ∧ ∀ i, i < m → M.getD i En.z = l2.getD i En.z ∨ ((l2.getD i En.z).nm = s ∧ (M.getD i En.z).nd = 0))) := by
    show _ ∨ _
    by_cases h : zf = 0
    · have := HSD.out h
      rw [HL.out] at this
      exact Or.inr ⟨h, this⟩
    · exact Or.inl h
  clear HSA HSD HFA HFD KA KC HEM
  generalize hna : L.length = na at *
  generalize hnb : M.length = nb at *
  have HNA := Lib.hid hna
  have HNB := Lib.hid hnb
  clear hna hnb
  go_wp2
  go_loopw [12] (fun i wr => ∃ k : Nat, k ≤ m ∧ i = .int .i64 (k : Int) ∧ Drew w5 wr) (fun i _ => m - (intOf i).toNat)
  case atStart => exact ⟨0, by omega, rfl, Drew.refl _⟩
  case round =>
    obtain ⟨k, hk, rfl, hd⟩ := hrel
    by_cases hlt : k < m
    · obtain ⟨b, o, rfl, -, g1, g2⟩ := HEM5.out.at_ hlt
      rw [← hd.cells] at g1 g2
      have x1 : (0 : Int) ≤ (k : Int) := by omega
      have x2 : (k : Int) < (m : Int) := by omega
      have hfin : Hid (∀ q, Drew w5 (wr.drewN q)) := fun q => hd.trans ⟨q, rfl⟩
      have HAC : Hid ((ze = 0 → ∃ ba oa, A3 = some ⟨ba, oa, none⟩ ∧ wr.cell? ⟨ba, oa + k * 2, none⟩ = some (.string (L.getD k En.z).nm) ∧ wr.cell? ⟨ba, oa + k * 2 + 1, none⟩ = some (.int .i64 (L.getD k En.z).nd) ∧ (k : Int) < (na : Int))) := by
        show _ → _
        intro h0
        rcases HDA.out with h | ⟨-, h, -⟩
        · exact absurd h0 h
        · obtain ⟨ba, oa, e, -, c1, c2⟩ := HE35.out.at_ (k := k) (by omega)
          rw [← hd.cells] at c1 c2
          exact ⟨ba, oa, e, c1, c2, by omega⟩
      have HDC : Hid ((zf = 0 → ∃ ba oa, A5 = some ⟨ba, oa, none⟩ ∧ wr.cell? ⟨ba, oa + k * 2, none⟩ = some (.string (M.getD k En.z).nm) ∧ wr.cell? ⟨ba, oa + k * 2 + 1, none⟩ = some (.int .i64 (M.getD k En.z).nd) ∧ (k : Int) < (nb : Int))) := by
        show _ → _
        intro h0
        rcases HDD.out with h | ⟨-, h, -⟩
        · exact absurd h0 h
        · obtain ⟨ba, oa, e, -, c1, c2⟩ := HE5.out.at_ (k := k) (by omega)
          rw [← hd.cells] at c1 c2
          exact ⟨ba, oa, e, c1, c2, by omega⟩
      have hAx : ¬ ze = 0 ∨ (ze = 0 ∧ L.getD k En.z = l2.getD k En.z) ∨ (ze = 0 ∧ (l2.getD k En.z).nd = 0 ∧ (L.getD k En.z).nm = s ∧ ((L.getD k En.z).nm.toList == (l2.getD k En.z).nm.toList) = false) ∨ (ze = 0 ∧ (l2.getD k En.z).nd = 0 ∧ (L.getD k En.z).nm = s ∧ ((L.getD k En.z).nm.toList == (l2.getD k En.z).nm.toList) = true ∧ (L.getD k En.z).nd ≠ (l2.getD k En.z).nd) := by
        rcases HDA.out with h | ⟨h, -, h2⟩
        · exact Or.inl h
        · by_cases he : L.getD k En.z = l2.getD k En.z
          · exact Or.inr (Or.inl ⟨h, he⟩)
          · rcases h2 k hlt with h3 | ⟨h3, h4⟩
            · exact absurd h3 he
            · rcases differ he with h5 | ⟨h5, h6⟩
              · exact Or.inr (Or.inr (Or.inl ⟨h, h3, h4, h5⟩))
              · exact Or.inr (Or.inr (Or.inr ⟨h, h3, h4, h5, h6⟩))
      have hDx : ¬ zf = 0 ∨ (zf = 0 ∧ M.getD k En.z = l2.getD k En.z) ∨ (zf = 0 ∧ (l2.getD k En.z).nm = s ∧ (M.getD k En.z).nd = 0 ∧ ((M.getD k En.z).nm.toList == (l2.getD k En.z).nm.toList) = false) ∨ (zf = 0 ∧ (l2.getD k En.z).nm = s ∧ (M.getD k En.z).nd = 0 ∧ ((M.getD k En.z).nm.toList == (l2.getD k En.z).nm.toList) = true ∧ (M.getD k En.z).nd ≠ (l2.getD k En.z).nd) := by
        rcases HDD.out with h | ⟨h, -, h2⟩
        · exact Or.inl h
        · by_cases he : M.getD k En.z = l2.getD k En.z
          · exact Or.inr (Or.inl ⟨h, he⟩)
          · rcases h2 k hlt with h3 | ⟨h3, h4⟩
            · exact absurd h3 he
            · rcases differ he with h5 | ⟨h5, h6⟩
              · exact Or.inr (Or.inr (Or.inl ⟨h, h3, h4, h5⟩))
              · exact Or.inr (Or.inr (Or.inr ⟨h, h3, h4, h5, h6⟩))
      have KAX := Lib.hid hAx
      have KDX := Lib.hid hDx
      have HD := Lib.hid hd
      clear hd hAx hDx hnc hs hz hal
      generalize l2.getD k En.z = x at *
      generalize L.getD k En.z = y at *
      generalize M.getD k En.z = v at *
      obtain ⟨xs, xz⟩ := x
      obtain ⟨ys, yz⟩ := y
      obtain ⟨vs, vz⟩ := v
      simp only at g1 g2
      have x1 : (0 : Int) ≤ (k : Int) := by omega
      have x2 : (k : Int) < (m : Int) := by omega
      rcases KAX.out with ha | ⟨h0, ha⟩ | ⟨h0, ha, hb, hc⟩ | ⟨h0, ha, hb, hc, hd⟩
      · have d1 : (ze == 0) = false := by simpa using ha
        have d2 : decide (ze = 0) = false := by simpa using ha
        have d2' : (ze != 0) = true := by simpa using ha
        rcases KDX.out with ka | ⟨k0, ka⟩ | ⟨k0, ka, kb, kc⟩ | ⟨k0, ka, kb, kc, kd⟩
        · have f1 : (zf == 0) = false := by simpa using ka
          have f2 : decide (zf = 0) = false := by simpa using ka
          have f2' : (zf != 0) = true := by simpa using ka
          clear HAC HDC KAX KDX
          go_wp2
          go_quiet (fail)
          go_wp2
          go_quiet (fail)
          go_wp2
          go_roundw
          case rel => exact ⟨k + 1, by omega, by go_num, HD.out.trans ⟨_, rfl⟩⟩
          case measure => simp [intOf]; omega
        · subst k0
          obtain ⟨bm, om, rfl, q1, q2, y4⟩ := HDC.out rfl
          obtain ⟨rfl, rfl⟩ := En.mk.inj ka
          clear HAC HDC KAX KDX
          go_wp2
          go_quiet (fail)
          go_wp2
          go_quiet (fail)
          go_wp2
          go_roundw
          case rel => exact ⟨k + 1, by omega, by go_num, HD.out.trans ⟨_, rfl⟩⟩
          case measure => simp [intOf]; omega
        · subst k0
          obtain ⟨bm, om, rfl, q1, q2, y4⟩ := HDC.out rfl
          simp only at q1 q2
          subst ka
          subst kb
          clear HAC HDC KAX KDX
          go_wp2
          go_quiet (fail)
          go_wp2
          go_quiet (fail)
          go_wp2
          go_roundw
          case rel => exact ⟨k + 1, by omega, by go_num, HD.out.trans ⟨_, rfl⟩⟩
          case measure => simp [intOf]; omega
        · subst k0
          obtain ⟨bm, om, rfl, q1, q2, y4⟩ := HDC.out rfl
          simp only at q1 q2
          subst ka
          subst kb
          have f3 := beq_eq_false_iff_ne.2 kd
          clear HAC HDC KAX KDX
          go_wp2
          go_quiet (fail)
          go_wp2
          go_quiet (fail)
          go_wp2
          go_roundw
          case rel => exact ⟨k + 1, by omega, by go_num, HD.out.trans ⟨_, rfl⟩⟩
          case measure => simp [intOf]; omega
      · subst h0
        obtain ⟨ba, oa, rfl, c1, c2, y3⟩ := HAC.out rfl
        obtain ⟨rfl, rfl⟩ := En.mk.inj ha
        rcases KDX.out with ka | ⟨k0, ka⟩ | ⟨k0, ka, kb, kc⟩ | ⟨k0, ka, kb, kc, kd⟩
        · have f1 : (zf == 0) = false := by simpa using ka
          have f2 : decide (zf = 0) = false := by simpa using ka
          have f2' : (zf != 0) = true := by simpa using ka
          clear HAC HDC KAX KDX
          go_wp2
          go_quiet (fail)
          go_wp2
          go_quiet (fail)
          go_wp2
          go_roundw
          case rel => exact ⟨k + 1, by omega, by go_num, HD.out.trans ⟨_, rfl⟩⟩
          case measure => simp [intOf]; omega
        · subst k0
          obtain ⟨bm, om, rfl, q1, q2, y4⟩ := HDC.out rfl
          obtain ⟨rfl, rfl⟩ := En.mk.inj ka
          clear HAC HDC KAX KDX
          go_wp2
          go_quiet (fail)
          go_wp2
          go_quiet (fail)
          go_wp2
          go_roundw
          case rel => exact ⟨k + 1, by omega, by go_num, HD.out.trans ⟨_, rfl⟩⟩
          case measure => simp [intOf]; omega
        · subst k0
          obtain ⟨bm, om, rfl, q1, q2, y4⟩ := HDC.out rfl
          simp only at q1 q2
          subst ka
          subst kb
          clear HAC HDC KAX KDX
          go_wp2
          go_quiet (fail)
          go_wp2
          go_quiet (fail)
          go_wp2
          go_roundw
          case rel => exact ⟨k + 1, by omega, by go_num, HD.out.trans ⟨_, rfl⟩⟩
          case measure => simp [intOf]; omega
        · subst k0
          obtain ⟨bm, om, rfl, q1, q2, y4⟩ := HDC.out rfl
          simp only at q1 q2
          subst ka
          subst kb
          have f3 := beq_eq_false_iff_ne.2 kd
          clear HAC HDC KAX KDX
          go_wp2
          go_quiet (fail)
          go_wp2
          go_quiet (fail)
          go_wp2
          go_roundw
          case rel => exact ⟨k + 1, by omega, by go_num, HD.out.trans ⟨_, rfl⟩⟩
          case measure => simp [intOf]; omega
      · subst h0
        obtain ⟨ba, oa, rfl, c1, c2, y3⟩ := HAC.out rfl
        simp only at c1 c2
        subst ha
        subst hb
        rcases KDX.out with ka | ⟨k0, ka⟩ | ⟨k0, ka, kb, kc⟩ | ⟨k0, ka, kb, kc, kd⟩
        · have f1 : (zf == 0) = false := by simpa using ka
          have f2 : decide (zf = 0) = false := by simpa using ka
          have f2' : (zf != 0) = true := by simpa using ka
          clear HAC HDC KAX KDX
          go_wp2
          go_quiet (fail)
          go_wp2
          go_quiet (fail)
          go_wp2
          go_roundw
          case rel => exact ⟨k + 1, by omega, by go_num, HD.out.trans ⟨_, rfl⟩⟩
          case measure => simp [intOf]; omega
        · subst k0
          obtain ⟨bm, om, rfl, q1, q2, y4⟩ := HDC.out rfl
          obtain ⟨rfl, rfl⟩ := En.mk.inj ka
          clear HAC HDC KAX KDX
          go_wp2
          go_quiet (fail)
          go_wp2
          go_quiet (fail)
          go_wp2
          go_roundw
          case rel => exact ⟨k + 1, by omega, by go_num, HD.out.trans ⟨_, rfl⟩⟩
          case measure => simp [intOf]; omega
        · subst k0
          obtain ⟨bm, om, rfl, q1, q2, y4⟩ := HDC.out rfl
          simp only at q1 q2
          subst ka
          exact absurd hc (by subst kb; simp)
        · exact absurd (show (0 : Int) = 0 from rfl) (by subst k0; subst kb; exact kd)
      · subst h0
        obtain ⟨ba, oa, rfl, c1, c2, y3⟩ := HAC.out rfl
        simp only at c1 c2
        subst ha
        subst hb
        have d3 := beq_eq_false_iff_ne.2 hd
        rcases KDX.out with ka | ⟨k0, ka⟩ | ⟨k0, ka, kb, kc⟩ | ⟨k0, ka, kb, kc, kd⟩
        · have f1 : (zf == 0) = false := by simpa using ka
          have f2 : decide (zf = 0) = false := by simpa using ka
          have f2' : (zf != 0) = true := by simpa using ka
          clear HAC HDC KAX KDX
          go_wp2
          go_quiet (fail)
          go_wp2
          go_quiet (fail)
          go_wp2
          go_roundw
          case rel => exact ⟨k + 1, by omega, by go_num, HD.out.trans ⟨_, rfl⟩⟩
          case measure => simp [intOf]; omega
        · subst k0
          obtain ⟨bm, om, rfl, q1, q2, y4⟩ := HDC.out rfl
          obtain ⟨rfl, rfl⟩ := En.mk.inj ka
          clear HAC HDC KAX KDX
          go_wp2
          go_quiet (fail)
          go_wp2
          go_quiet (fail)
          go_wp2
          go_roundw
          case rel => exact ⟨k + 1, by omega, by go_num, HD.out.trans ⟨_, rfl⟩⟩
          case measure => simp [intOf]; omega
        · subst k0
          obtain ⟨bm, om, rfl, q1, q2, y4⟩ := HDC.out rfl
          simp only at q1 q2
          subst ka
          subst kb
          clear HAC HDC KAX KDX
          go_wp2
          go_quiet (fail)
          go_wp2
          go_quiet (fail)
          go_wp2
          go_roundw
          case rel => exact ⟨k + 1, by omega, by go_num, HD.out.trans ⟨_, rfl⟩⟩
          case measure => simp [intOf]; omega
        · exact absurd (show (0 : Int) = 0 from rfl) (by subst k0; subst kb; exact kd)
    · have HFIN : Hid (Below w.heap.size w wr) := Below.drews (HB1.out.trans HB5.out) hd
      have hAe : ¬ ze = 0 ∨ (ze = 0 ∧ m ≤ na) := by
        rcases HDA.out with h | ⟨h, h2, -⟩
        · exact Or.inl h
        · exact Or.inr ⟨h, h2⟩
      have hDe : ¬ zf = 0 ∨ (zf = 0 ∧ nb = m) := by
        rcases HDD.out with h | ⟨h, h2, -⟩
        · exact Or.inl h
        · exact Or.inr ⟨h, h2⟩
      clear HDA HDD hd
      rcases hAe with ha | ⟨rfl, ha⟩
      all_goals rcases hDe with ka | ⟨rfl, rfl⟩
      · have d1 := beq_eq_false_iff_ne.2 ha
        have f1 := beq_eq_false_iff_ne.2 ka
        go_wp2
        go_ret
        exact ⟨rfl, HFIN.out⟩
      · have d1 := beq_eq_false_iff_ne.2 ha
        go_wp2
        go_ret
        exact ⟨rfl, HFIN.out⟩
      · have f1 := beq_eq_false_iff_ne.2 ka
        have y1 : (m : Int) ≤ (na : Int) := by omega
        have y2 : (na : Int) ≤ (m : Int) + 8 := by omega
        go_wp2
        go_ret
        exact ⟨rfl, HFIN.out⟩
      · have y1 : (nb : Int) ≤ (na : Int) := by omega
        have y2 : (na : Int) ≤ (nb : Int) + 8 := by omega
        go_wp2
        go_ret
        exact ⟨rfl, HFIN.out⟩

set_option maxRecDepth 100000 in
theorem lifted (os : Os) (started : os.Started) (H : Type) (enc : TypeId × Value → H) :
    ReturnsInHanded {} Try.checked os 7 .any (Rows.rollsStaySpec.pre6 enc Try.prog Try.f7 Rows.rollsStayRow.domain false) (Rows.rollsStaySpec.post enc Try.prog Try.f7 false true false false) := by
  refine returnsInHanded_of_change_sized (C := Try.checked) own started (by kernel_rfl) Try.func7
    (ChangeSpec.witness6 (enc := enc) (C := Try.checked) false ⟨#[], #[.slice none 0 0, .string ByteArray.empty, .int .i64 0], []⟩ 8 (by kernel_rfl) (by kernel_rfl) (by kernel_rfl) (by kernel_rfl)) ?_
  intro W base args ds gs before hval0 hW hcnd hsz0 _
  have hval : ∀ (j : Nat) t v, Try.f7.params[j]? = some t → args[j]? = some v → Value.okWide Try.prog W .any base t v := hval0
  have hsz : (DataW.weightsEach Try.prog (Try.f7.params.toList ++ Rows.rollsStaySpec.plain.varTypes Try.prog) (ds ++ gs)).all (· ≤ reachBytes) = true := hsz0
  have hW' := hW
  obtain ⟨p, q, hA0, hV, rfl, hfz, hnd⟩ := hW
  have hA : DataW.TrodAll enc Try.prog W 0 (fun _ => true) true Try.f7.params.toList args.toList ds p := hA0
  rw [Try.params7] at hA hval hsz
  obtain ⟨v0, vs0, d0, ds0, p0, q0, hargs, rfl, rfl, h0, r0⟩ := trodAll_cons hA
  obtain ⟨v1, vs1, d1, ds1, p1, q1, rfl, rfl, rfl, h1, r1⟩ := trodAll_cons r0
  obtain ⟨v2, vs2, d2, ds2, p2, q2, rfl, rfl, rfl, h2, r2⟩ := trodAll_cons r1
  obtain ⟨rfl, rfl, rfl⟩ := trodAll_nil r2
  obtain rfl : args = #[v0, v1, v2] := by cases args; simp_all
  obtain ⟨rfl, rfl⟩ := trodVars_none hV
  have lt0 : ∀ x ∈ p0, x.block < W.heap.size := by obtain ⟨m, hm⟩ := h0; exact DataW.trod_lt m _ _ _ hm
  obtain ⟨a0, len0, cap0, rfl⟩ := okWide_slice Try.underlying22 (hval 0 22 v0 rfl rfl)
  obtain ⟨l0, w0⟩ := ens_open h0 (fun n hn => by simpa using List.all_eq_true.1 hsz _ (DataW.weights_mem_each (j := 0) rfl rfl n hn))
  obtain ⟨s1, rfl, rfl, rfl, hs1⟩ := open_string Try.underlying9 (hval 1 9 v1 rfl rfl) h1
  have b1 : s1.size ≤ 140737488355328 := by
    have := sized_string hsz (j := 1) (t := 9) rfl rfl
    rw [Array.length_toList] at this
    simp only [reachBytes] at this
    exact Nat.le_trans this (by decide)
  obtain ⟨n2, rfl, rfl, rfl, wn2⟩ := open_int Try.underlying3 (hval 2 3 v2 rfl rfl) h2
  clear hA0 hval0
  refine (walk a0 len0 cap0 l0 s1 n2 W w0 b1 (i64_of_wf wn2)).mono fun e W' ⟨he, bel⟩ => ?_
  subst he
  exact ⟨_, rfl, _, _, _, [], _, [], hW', trodAll_mk1 (shut_bool Try.underlying4 _), (trodAll_cons_mk (Below.trod laidOut (by kernel_rfl) (of_decide_eq_true (by kernel_rfl)) h0 bel lt0) (trodAll_cons_mk (shut_string Try.underlying9 hs1) (trodAll_cons_mk (shut_int Try.underlying3 wn2) trodAll_mk0))), rfl, bel.frame _, fun h => by cases h⟩

theorem over : Rows.rollsStayRow.holds Try.pinned (OpenSpec.ofChange Rows.rollsStaySpec) :=
  OpenClaim.holds_of_wide 7 Try.f7 rfl rfl rfl rfl rfl rfl rfl ⟨rfl, rfl, rfl, rfl, rfl⟩ rfl rfl rfl rfl rfl (by kernel_rfl) Try.func7 (by kernel_rfl)
    (of_decide_eq_true (by kernel_rfl)) (by unfold Func.isWrapper; first | (rw [if_pos (by decide +kernel)]; kernel_rfl) | (rw [if_neg (by decide +kernel)]; exact ⟨rfl, rfl⟩))
    (fun os started H enc _ => lifted os started H enc)

end Go.Proofs.Ytmmjpdggneagdaa.rollsStay
namespace Go.Proofs.Ytmmjpdggneagdaa
theorem rollsStay_proved : Rows.RollsStaySaid := rollsStay.over
#print axioms rollsStay_proved
end Go.Proofs.Ytmmjpdggneagdaa
