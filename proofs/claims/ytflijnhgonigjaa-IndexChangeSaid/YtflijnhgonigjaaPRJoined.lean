/-
  WALK: the reference's joined. Conditions: at most 10000 pages of at most 10000 entries each; page i and the next one are there.
-/
import Derived.Test.YtflijnhgonigjaaPRDropM
import Derived.Test.YtflijnhgonigjaaPRAddG
namespace Go.Proofs.Ytflijnhgonigjaa
open Go.RowKit
set_option linter.unusedVariables false

/-- a row of entries of the call's own lies apart from an elder row of pages. -/
theorem own_slE {w w' : World} {base : Nat} {v x : Value} {p : Pg} {l : List En} (hown : w'.ownsRow w.heap.size 47 2 x l.length (ensCells l)) (hf : ∀ s ∈ l, s.fit) (ho : OwnPg w base v p) :
    ∃ A c, x = .slice A l.length c ∧ SlE w' w'.heap.size v x l := by
  obtain ⟨A, c, rfl, hc⟩ := own_slice hown
  refine ⟨A, c, rfl, A, c, rfl, hc, EnsAt.of_own hown rfl hf, fun hn a ha hv => ?_⟩
  obtain ⟨vs, hov, -⟩ := ho
  have h1 := (hov.lt a.block hv).2
  obtain ⟨g, cap, e, hg, -⟩ := hown.form hn
  injection e with e1 e2
  rw [e1] at ha
  injection ha with ha
  rw [← ha] at h1
  simp only at h1
  omega

set_option maxRecDepth 100000 in
set_option maxHeartbeats 16000000 in
theorem joined_any (A : Option Addr) (n c B i : Nat) (p : Pg) (w : World) (hA : PgsAt w B A n p) (hB : B ≤ w.heap.size) (hn : n ≤ 10000) (hm : ∀ l ∈ p, l.length ≤ 10000) (hi : i + 1 < n) :
    Calls Try.prog 50 #[.slice A n c, .int .i64 (i : Int)] w (RetPgs w (joinP p i)) := by
  have hlen := hA.len
  have HF := Lib.hid hA.fits
  have HM : Hid (∀ k, k < n → (p.getD k []).length ≤ 10000) := fun k hk => by
    rw [pg_getD (by rw [hlen]; exact hk)]; exact hm _ (List.getElem_mem _)
  have HFK : Hid (∀ k, k < n → ∀ e ∈ p.getD k [], e.fit) := fun k hk => by
    rw [pg_getD (by rw [hlen]; exact hk)]; exact hA.fits _ (List.getElem_mem _)
  have HJO := Lib.hid (fun k (hk : k < n) => joinTo_other (p := p) (i := i) (k := k) (by rw [hlen]; exact hk))
  have HJA : Hid (joinTo p i (i + 1) = joinTo p i i ++ [p.getD i [] ++ p.getD (i + 1) []]) := joinTo_at (by omega)
  have HJS : Hid (joinTo p i (i + 1 + 1) = joinTo p i (i + 1)) := joinTo_skip
  have HJE : Hid (joinTo p i n = joinP p i) := by show _ = _; rw [← hlen]; exact joinTo_end (by omega)
  have HJL := Lib.hid (joinTo_len p i)
  have HA := Lib.hid hA
  clear hA hm hlen
  have i1 : IntKind.i64.wrap ((i : Int) + 1) = (i : Int) + 1 := by rw [IntKind.wrap_i64]; omega
  go_enter Try.func50, Try.ntmps50
  go_wp2
  go_loopw [5, 6, 7] (fun v q _ wr => ∃ k : Nat, k ≤ n ∧ q = .int .i64 (k : Int) ∧ OwnPg wr w.heap.size v (joinTo p i k) ∧ Below w.heap.size w wr) (fun _ q _ _ => n - (intOf q).toNat)
  case atStart => exact ⟨0, by omega, rfl, by rw [joinTo_zero]; exact OwnPg.nil _ _, Below.refl _ _⟩
  case round =>
    obtain ⟨k, hk, rfl, hown, hb⟩ := hrel
    obtain ⟨A5, c5, rfl⟩ := hown.slice
    have hsz := hb.size
    by_cases hlt : k < n
    · have x1 : (k : Int) < (n : Int) := by omega
      have x2 : (0 : Int) ≤ (k : Int) := by omega
      have hjl := HJL.out k
      have HAL : Hid ((joinTo p i k).length ≤ 20000) := by show _ ≤ _; omega
      by_cases h1 : k = i + 1
      · have HJ : Hid (joinTo p i (k + 1) = joinTo p i k) := by show _ = _; rw [h1]; exact HJS.out
        have y1 : ((k : Int) == (i : Int) + 1) = true := by rw [beq_iff_eq]; omega
        have y2 : decide ((k : Int) = (i : Int) + 1) = true := by simp; omega
        have y3 : (k : Int) = (i : Int) + 1 := by omega
        have HOWN := Lib.hid hown
        have HB := Lib.hid hb
        clear hown hb
        generalize hacc : joinTo p i k = acc at *
        clear hacc
        go_wp2
        go_roundw
        case rel => exact ⟨k + 1, by omega, by go_num, by rw [HJ.out]; exact HOWN.out, HB.out⟩
        case measure => simp [intOf]; omega
      · have y1 : ((k : Int) == (i : Int) + 1) = false := by rw [beq_eq_false_iff_ne]; omega
        have y2 : decide ((k : Int) = (i : Int) + 1) = false := by simp; omega
        have y3 : ¬ (k : Int) = (i : Int) + 1 := by omega
        obtain ⟨b, o, A1, c1, rfl, hbB, hcell, hlc, hE1⟩ := HA.out.at_ hlt
        have d0 := bcell hb hcell (by show b < _; omega)
        have HE : Hid (EnsAt wr B A1 (p.getD k []).length (p.getD k [])) := hE1.below hb hB
        have hBr : B ≤ wr.heap.size := Nat.le_trans hB hsz
        have hml := HM.out k hlt
        have hfk := Lib.hid (HFK.out k hlt)
        by_cases h2 : k = i
        · subst h2
          obtain ⟨b', o', A2, c2, e', hbB2, hcell2, hlc2, hE2⟩ := HA.out.at_ (k := k + 1) (by omega)
          injection e' with e'
          injection e' with e1 e2
          subst e1 e2
          have d1 := bcell hb hcell2 (by show b < _; omega)
          have HE2 : Hid (EnsAt wr B A2 (p.getD (k + 1) []).length (p.getD (k + 1) [])) := hE2.below hb hB
          have hml2 := HM.out (k + 1) (by omega)
          have hfk2 := Lib.hid (HFK.out (k + 1) (by omega))
          have HJ := Lib.hid HJA.out
          have z4 : (k : Int) + 1 < (n : Int) := by omega
          have z5 : IntKind.i64.wrap ((k : Int) + 1) = (k : Int) + 1 := by rw [IntKind.wrap_i64]; omega
          have z6 : ((k : Int) + 1).toNat = k + 1 := by omega
          have z7 : (0 : Int) ≤ (k : Int) + 1 := by omega
          have HOWN := Lib.hid hown
          have HB := Lib.hid hb
          clear hown hb hcell hE1 hlc hcell2 hE2 hlc2 HJA HJS HJE HJO HJL
          generalize (p.getD k []).length = len at *
          generalize p.getD k [] = pg at *
          generalize (p.getD (k + 1) []).length = len2 at *
          generalize p.getD (k + 1) [] = pg2 at *
          generalize hacc : joinTo p k k = acc at *
          clear hacc
          have hpl2 := Lib.hid HE.out.len
          go_wp2_with (at_builtin; refine join_law rfl (.const (.slice none 0 0)) (.tmp 21) rfl wr.heap.size wr (.slice none 0 0) [] rfl B A1 len c1 pg rfl (World.ownsRow_nil _ _ _ _) HE.out (by simp; omega) (Nat.le_refl _) ?_)
          intro v1 w1 ho1 b1
          have HO1 := Lib.hid ho1
          have HB1 := Lib.hid b1
          have HE2b : Hid (EnsAt w1 B A2 len2 pg2) := HE2.out.below b1 hBr
          have d2 := bcell b1 d1 (by show b < _; omega)
          have hs1 := b1.size
          clear ho1 b1 d0 d1 HE HE2
          go_wp2_with (at_builtin; refine join_law rfl (.tmp 26) (.tmp 31) rfl wr.heap.size w1 v1 pg rfl B A2 len2 c2 pg2 rfl HO1.out HE2b.out (by rw [hpl2.out]; omega) hs1 ?_)
          intro v2 w2 ho2 b2
          have HB2 : Hid (Below wr.heap.size wr w2) := HB1.out.trans (b2.mono (Nat.le_refl _))
          rw [← List.length_append] at ho2
          obtain ⟨A6, c6, rfl, hsl⟩ := own_slE ho2 (fun e he => by exact (List.mem_append.1 he).elim (hfk.out e) (hfk2.out e)) HOWN.out
          have HV := Lib.hid hsl
          have HOD := Lib.hid (HOWN.out.below HB2.out)
          have HB3 := Lib.hid (HB.out.trans (HB2.out.mono hsz))
          have hsz2 : w.heap.size ≤ w2.heap.size := HB3.out.size
          clear ho2 b2 hsl HO1 d2
          generalize (pg ++ pg2).length = ll at *
          generalize hal : acc.length = al at *
          have hal2 := HAL.out
          go_wp2_with (at_builtin; refine pushP_law rfl (.tmp 33) (.tmp 35) rfl w.heap.size w2 (.slice A5 al c5) acc [.slice A6 ll c6] [pg ++ pg2] rfl 1 1 rfl HOD.out (PgV.single HV.out) rfl (by omega) (by omega) hsz2 ?_)
          intro v' w7 ho7 b7 hkp
          clear hkp
          rw [← HJ.out] at ho7
          obtain ⟨A7, c7, rfl⟩ := ho7.slice
          have HO7 := Lib.hid ho7
          have HB7 : Hid (Below w.heap.size w w7) := HB3.out.trans (b7.mono (Nat.le_refl _))
          clear ho7 b7
          go_wp2
          go_roundw
          case rel => exact ⟨k + 1, by omega, by go_num, HO7.out, HB7.out⟩
          case measure => simp [intOf]; omega
        · have HJ := Lib.hid (HJO.out k hlt h2 h1)
          have z1 : ((k : Int) == (i : Int)) = false := by rw [beq_eq_false_iff_ne]; omega
          have z2 : decide ((k : Int) = (i : Int)) = false := by simp; omega
          have z3 : ¬ (k : Int) = (i : Int) := by omega
          have HOWN := Lib.hid hown
          have HB := Lib.hid hb
          clear hown hb hcell hE1 hlc HJA HJS HJE HJO HJL
          generalize (p.getD k []).length = len at *
          generalize p.getD k [] = pg at *
          generalize hacc : joinTo p i k = acc at *
          clear hacc
          go_wp2_with (at_builtin; refine join_law rfl (.const (.slice none 0 0)) (.tmp 21) rfl wr.heap.size wr (.slice none 0 0) [] rfl B A1 len c1 pg rfl (World.ownsRow_nil _ _ _ _) HE.out (by simp; omega) (Nat.le_refl _) ?_)
          intro v1 w1 ho1 b1
          obtain ⟨A6, c6, rfl, hsl⟩ := own_slE ho1 hfk.out HOWN.out
          have HV := Lib.hid hsl
          have HOD := Lib.hid (HOWN.out.below b1)
          have HB3 := Lib.hid (HB.out.trans (b1.mono hsz))
          have hsz2 : w.heap.size ≤ w1.heap.size := HB3.out.size
          clear ho1 b1 hsl d0 HE
          generalize pg.length = ll at *
          generalize hal : acc.length = al at *
          have hal2 := HAL.out
          go_wp2_with (at_builtin; refine pushP_law rfl (.tmp 33) (.tmp 35) rfl w.heap.size w1 (.slice A5 al c5) acc [.slice A6 ll c6] [pg] rfl 1 1 rfl HOD.out (PgV.single HV.out) rfl (by omega) (by omega) hsz2 ?_)
          intro v' w7 ho7 b7 hkp
          clear hkp
          rw [← HJ.out] at ho7
          obtain ⟨A7, c7, rfl⟩ := ho7.slice
          have HO7 := Lib.hid ho7
          have HB7 : Hid (Below w.heap.size w w7) := HB3.out.trans (b7.mono (Nat.le_refl _))
          clear ho7 b7
          go_wp2
          go_roundw
          case rel => exact ⟨k + 1, by omega, by go_num, HO7.out, HB7.out⟩
          case measure => simp [intOf]; omega
    · have x1 : ¬ (k : Int) < (n : Int) := by omega
      obtain rfl : k = n := by omega
      have hR := hown.ret hb
      have HR : Hid (RetPgs w (joinP p i) (.returned (.slice A5 (joinTo p i k).length c5)) wr) := by rw [← HJE.out]; exact hR
      clear hR hown
      generalize (joinTo p i k).length = m at *
      go_wp2
      go_ret
      exact HR.out
end Go.Proofs.Ytflijnhgonigjaa
