/-
  WALK: the reference's Add where it adds to pages that are there. Conditions: at most 10000 pages, at most 100000 entries in all.
-/
import Derived.Test.YtflijnhgonigjaaPRAddN
namespace Go.Proofs.Ytflijnhgonigjaa
open Go.RowKit
set_option linter.unusedVariables false

theorem OwnPg.below {w w' : World} {base : Nat} {v : Value} {p : Pg} (h : OwnPg w base v p) (hb : Below w.heap.size w w') : OwnPg w' base v p := by
  obtain ⟨vs, ho, hv⟩ := h
  exact ⟨vs, own_below ho hb (Nat.le_refl _), hv.map (fun x l hx => (hx.below_ hb (Nat.le_refl _)).more hb.size)⟩
/-- an answer that is a row of entries of the call's own lies apart from an elder row of pages. -/
theorem RetOwn.slE {w w' : World} {base : Nat} {v : Value} {p : Pg} {l : List En} {e : Ending} (h : RetOwn w l e w') (hf : ∀ s ∈ l, s.fit) (hn : 0 < l.length) (ho : OwnPg w base v p) :
    ∃ g c, e = .returned (.slice (some ⟨g, 0, none⟩) l.length c) ∧ l.length ≤ c ∧ SlE w' w'.heap.size v (.slice (some ⟨g, 0, none⟩) l.length c) l ∧ OwnPg w' base v p ∧ Below w.heap.size w w' := by
  obtain ⟨x, rfl, hown, hb⟩ := h
  obtain ⟨A, c, rfl, hc⟩ := own_slice hown
  obtain ⟨g, cap, e, hg, -⟩ := hown.form hn
  injection e with e1 e2
  subst e1
  refine ⟨g, c, rfl, hc, ⟨_, c, rfl, hc, EnsAt.of_own hown rfl hf, ?_⟩, ho.below hb, hb⟩
  intro hn a ha hv
  obtain ⟨vs, hov, -⟩ := ho
  have h1 := (hov.lt a.block hv).2
  injection ha with ha
  rw [← ha] at h1
  simp only at h1
  omega
theorem SlE.drew {w : World} {B : Nat} {v x : Value} {l : List En} (h : SlE w B v x l) : SlE w.drew B v x l := by
  obtain ⟨A, c, e, h1, h2, h3⟩ := h
  exact ⟨A, c, e, h1, h2.keep (fun _ _ => rfl), h3⟩
theorem OwnPg.drew {w : World} {base : Nat} {v : Value} {p : Pg} (h : OwnPg w base v p) : OwnPg w.drew base v p := by
  obtain ⟨vs, h1, h2⟩ := h
  exact ⟨vs, h1.drew, h2.map fun x l hx => hx.drew⟩
theorem SlE.halves {w : World} {B b o c : Nat} {v : Value} {l : List En} (h : SlE w B v (.slice (some ⟨b, o, none⟩) 10 c) l) :
    PgV w B v [.slice (some ⟨b, o, none⟩) 5 c, .slice (some ⟨b, o + 5 * 2, none⟩) 5 (c - 5)] [l.take 5, l.drop 5] := by
  obtain ⟨A', c', e, hc, hE, ho⟩ := h
  injection e with e1 e2 e3
  subst e1 e3
  have h1 := hE.take 5 (by omega)
  have h2 := hE.drop 5
  have l1 : (l.take 5).length = 5 := by rw [List.length_take]; omega
  have l2 : (l.drop 5).length = 5 := by rw [List.length_drop]; omega
  have ho' := ho (by omega)
  have hb : v.ownBlock ≠ some b := ho' _ rfl
  refine (PgV.single (x := .slice (some ⟨b, o, none⟩) 5 c) (l := l.take 5) ?_).append (PgV.single (x := .slice (some ⟨b, o + 5 * 2, none⟩) 5 (c - 5)) (l := l.drop 5) ?_)
  · exact ⟨some ⟨b, o, none⟩, c, by rw [l1], by omega, by rw [l1]; exact h1, fun _ => ho'⟩
  · refine ⟨some ⟨b, o + 5 * 2, none⟩, c - 5, by rw [l2], by omega, by rw [l2]; rw [← e2] at h2; exact h2, fun _ a ha => ?_⟩
    injection ha with ha
    rw [← ha]; exact hb
theorem putTo_len (p : Pg) (i : Nat) (l : List En) (k : Nat) : (putTo p i l k).length ≤ k + 2 := by
  unfold putTo putP
  split
  · rw [List.length_take]; omega
  · split <;> (simp; omega)
theorem putL_mem {l : List En} {k : Nat} {x e : En} (h : e ∈ putL l k x) : e = x ∨ e ∈ l := by
  unfold putL at h
  rcases List.mem_append.1 h with h | h
  · exact Or.inr (List.mem_of_mem_take h)
  · rcases List.mem_cons.1 h with h | h
    · exact Or.inl h
    · exact Or.inr (List.mem_of_mem_drop h)
theorem OwnPg.add {w w' : World} {base : Nat} {v : Value} {p : Pg} (h : OwnPg w' base v p) (hb : Below w.heap.size w w') : RetAP w (p, 0) (.returned (.tuple #[v, .int .i64 0])) w' := by
  obtain ⟨A, c, rfl, hc, hP⟩ := h.pgs
  exact ⟨A, c, rfl, hc, hP, hb⟩

set_option maxRecDepth 100000 in
set_option maxHeartbeats 16000000 in
theorem radd_some (A : Option Addr) (n c B : Nat) (p : Pg) (s : ByteArray) (z : Int) (w : World) (hA : PgsAt w B A n p) (hB : B ≤ w.heap.size) (hn : n ≤ 10000) (hm : p.flatten.length ≤ 100000) (hs : s.size ≤ 140737488355328)
    (hr : rightP p = true) (hnz : nodeB z = true) (hsr : rightB s = true) (hh : hasL p.flatten s = false) (hl : p.flatten.length ≠ 160) (hp : p ≠ []) :
    Calls Try.prog 21 #[.slice A n c, .string s, .int .i64 z] w (RetAP w (addP p s z)) := by
  have hlen := hA.len
  have K14 := Lib.hid (rright_anyP A n c B p w hA hB (by omega) hm)
  have K11 := Lib.hid (fun W (hW : Below w.heap.size w W) => rfind_anyP A n c B p s W (hA.below hW hB) (Nat.le_trans hB hW.size) (by omega) hm)
  have K12 := Lib.hid (fun W (hW : Below w.heap.size w W) => rall_any A n c B p W (hA.below hW hB) (Nat.le_trans hB hW.size) (by omega) hm)
  have K29 := Lib.hid (fun W => rright_any s W (by omega))
  have HFIT := Lib.hid hA.fit
  have HA := Lib.hid hA
  have HRL := Lib.hid (fun k (hk : k < n) => right_len' hr (i := k) (by rw [hlen]; exact hk))
  have HASC := Lib.hid (fun k (hk : k < n) => page_asc hr (i := k) (by rw [hlen]; exact hk))
  have HPY := Lib.hid (fun k (hk : k < n) => placeTo_yes hr (s := s) (k := k) (by rw [hlen]; exact hk))
  have HPN := Lib.hid (fun k (hk : k < n) => placeTo_no hr (s := s) (k := k) (by rw [hlen]; exact hk))
  have HPE : Hid (placeTo p s n = atP p s) := by show _ = _; rw [← hlen]; exact placeTo_end p s
  have HAT : Hid (atP p s < n) := by show _ < _; rw [← hlen]; exact atP_lt hp s
  have hPB : ∀ k, k ≤ n → placeTo p s k ≤ n := fun k hk => by unfold placeTo; omega
  have HPB := Lib.hid hPB
  have hXF : En.fit ⟨s, z⟩ := En.fitOf (by omega) hnz
  have hflat : p.flatten.length < 160 := by have := (rightP_iff.1 hr).2.2; omega
  have e2 : findP p s = (0, false) := findP_none hh
  rw [addP_6 hr hnz hsr hh hl hp]
  rw [hr] at K14
  rw [hsr] at K29
  rw [e2] at K11
  obtain ⟨h1, h2⟩ := nodeB_iff.1 hnz
  have z1 : decide (z < 1) = false := by simp; omega
  have z2 : decide (65535 < z) = false := by simp; omega
  have z3 : ¬ z < 1 := by omega
  have z4 : ¬ 65535 < z := by omega
  have hn0 : n ≠ 0 := by have := HAT.out; omega
  have n1 : ((n : Int) == 0) = false := by rw [beq_eq_false_iff_ne]; omega
  have n2 : (n == 0) = false := by rw [beq_eq_false_iff_ne]; omega
  have n3 : decide ((n : Int) = 0) = false := by simp; omega
  have m1 : ¬ (160 : Int) ≤ ((p.flatten.length : Nat) : Int) := by omega
  have m2 : ¬ 160 ≤ p.flatten.length := by omega
  have HLE : Hid ((putL (p.getD (atP p s) []) (kL (p.getD (atP p s) []) s) ⟨s, z⟩).length = (p.getD (atP p s) []).length + 1) := putL_len _ (kL_le _ _) _
  have HLF : Hid (∀ e ∈ putL (p.getD (atP p s) []) (kL (p.getD (atP p s) []) s) ⟨s, z⟩, e.fit) := fun e he => by
    rcases putL_mem he with rfl | he
    · exact hXF
    · exact hA.fits _ (by rw [pg_getD (by rw [hlen]; exact HAT.out)]; exact List.getElem_mem _) e he
  have HLD : Hid (∀ k, k = atP p s → putL (p.getD k []) (kL (p.getD k []) s) ⟨s, z⟩ = putL (p.getD (atP p s) []) (kL (p.getD (atP p s) []) s) ⟨s, z⟩) := fun k hk => by rw [hk]
  have HXF := Lib.hid hXF
  generalize putL (p.getD (atP p s) []) (kL (p.getD (atP p s) []) s) ⟨s, z⟩ = L at *
  generalize atP p s = I at *
  have HQN : Hid (∀ k, k < n → k ≠ I → putTo p I L (k + 1) = putTo p I L k ++ [p.getD k []]) := fun k hk hne => by
    rcases Nat.lt_or_gt_of_ne hne with h | h
    · exact putTo_lt L (by rw [hlen]; exact hk) h
    · exact putTo_gt L (by rw [hlen]; exact hk) h
  have HQ10 : Hid (L.length = 10 → putTo p I L (I + 1) = putTo p I L I ++ [L.take 5, L.drop 5]) := fun h => putTo_at10 (by rw [hlen]; exact HAT.out) h
  have HQA : Hid (L.length ≠ 10 → putTo p I L (I + 1) = putTo p I L I ++ [L]) := fun h => putTo_at (by rw [hlen]; exact HAT.out) h
  have HQE : Hid (putTo p I L n = putP p I L) := by show _ = _; rw [← hlen]; exact putTo_end L (by rw [hlen]; exact HAT.out)
  have HQL := Lib.hid (putTo_len p I L)
  clear hA hsr hnz e2 hh hr hl hp hPB hXF hlen
  generalize p.flatten = fl at *
  have m3 : decide ((160 : Int) ≤ ((fl.length : Nat) : Int)) = false := by simp; omega
  have m4 : decide (160 ≤ fl.length) = false := by simp; omega
  go_enter Try.func21, Try.ntmps21
  go_wp2_with fail
  refine K14.out.mono ?_
  rintro e w1 ⟨rfl, b1⟩
  go_wp2_with fail
  refine (K29.out _).mono ?_
  rintro e w2 ⟨rfl, rfl⟩
  go_wp2_with fail
  refine (K11.out _ b1).mono ?_
  rintro e w2 ⟨rfl, b2⟩
  have B2 := Lib.hid (b1.trans (b2.mono b1.size))
  clear b1 b2
  go_wp2_with fail
  refine (K12.out w2 B2.out).mono ?_
  intro e w3 hr3
  obtain ⟨A3, c3, rfl, -, -, b3⟩ := hr3.ens HFIT.out
  have B3 := Lib.hid (B2.out.trans (b3.mono B2.out.size))
  clear b3 hr3
  have B4 : Hid (Below w.heap.size w (w3.alloc (.cells #[.string s, .int .i64 z] 47))) := B3.out.alloc B3.out.size _
  have E0 : Hid ((w3.alloc (.cells #[.string s, .int .i64 z] 47)).cell? ⟨w3.heap.size, 0, none⟩ = some (.string s)) := cell_new w3 _ 47 0 rfl
  have E1 : Hid ((w3.alloc (.cells #[.string s, .int .i64 z] 47)).cell? ⟨w3.heap.size, 1, none⟩ = some (.int .i64 z)) := cell_new w3 _ 47 1 rfl
  have hbx : w3.heap.size < (w3.alloc (.cells #[.string s, .int .i64 z] 47)).heap.size := by simp
  go_wp2
  generalize w3.alloc (.cells #[.string s, .int .i64 z] 47) = w4 at *
  generalize w3.heap.size = X at *
  go_loopw [11, 12] (fun pl i wr => ∃ k : Nat, k ≤ n ∧ i = .int .i64 (k : Int) ∧ pl = .int .i64 ((placeTo p s k : Nat) : Int) ∧ Drew w4 wr) (fun _ i _ => n - (intOf i).toNat)
  case atStart => exact ⟨0, by omega, rfl, by rw [placeTo_zero]; rfl, Drew.refl _⟩
  case round =>
    obtain ⟨k, hk, rfl, rfl, hd⟩ := hrel
    by_cases hlt : k < n
    · obtain ⟨b, o, A1, c1, rfl, hbB, hcell, hlc, hE1⟩ := HA.out.at_ hlt
      have hlk := HRL.out k hlt
      have HYk := Lib.hid (HPY.out k hlt)
      have HNk := Lib.hid (HPN.out k hlt)
      have hF : firstN (p.getD k []) = ((p.getD k []).getD 0 En.z).nm := rfl
      rw [hF] at HYk HNk
      obtain ⟨b1, o1, rfl, hb1, g1, -⟩ := hE1.at_ (k := 0) (by omega)
      have hbw := Below.drews B4.out hd
      have d0 := bcell hbw hcell (by show b < _; omega)
      have d1 := bcell hbw g1 (by show b1 < _; omega)
      simp only [Nat.zero_mul, Nat.add_zero] at d1
      have hpb := HPB.out k hk
      have hpb1 := HPB.out (k + 1) (by omega)
      clear hcell g1 hE1 hF hbw
      generalize (p.getD k []).length = len at *
      generalize ((p.getD k []).getD 0 En.z).nm = t at *
      have x1 : (k : Int) < (n : Int) := by omega
      have x2 : (0 : Int) ≤ (k : Int) := by omega
      have x3 : (0 : Int) < (len : Int) := by omega
      have x4 : 0 < len := by omega
      cases hc : ltB s t with
      | false =>
        have HN := Lib.hid (HYk.out hc)
        generalize placeTo p s k = pl at *
        have HC : Hid (∀ W, Calls Try.prog 36 #[.string s, .string t] W fun e w' => e = .returned (.bool false) ∧ Drew W w') := fun W => by rw [← hc]; exact ahead_any s t W hs
        clear hc HYk HNk
        go_wp2_with fail
        refine (HC.out _).mono ?_
        rintro e w5 ⟨rfl, hd5⟩
        go_wp2
        go_roundw
        case rel => exact ⟨k + 1, by omega, by go_num, by rw [HN.out], hd.trans hd5⟩
        case measure => simp [intOf]; omega
      | true =>
        have HN := Lib.hid (HNk.out hc)
        have HC : Hid (∀ W, Calls Try.prog 36 #[.string s, .string t] W fun e w' => e = .returned (.bool true) ∧ Drew W w') := fun W => by rw [← hc]; exact ahead_any s t W hs
        clear hc HYk HNk
        go_wp2_with fail
        refine (HC.out _).mono ?_
        rintro e w5 ⟨rfl, hd5⟩
        go_wp2
        go_roundw
        case rel => exact ⟨k + 1, by omega, by go_num, by rw [HN.out], hd.trans hd5⟩
        case measure => simp [intOf]; omega
    · have x1 : ¬ (k : Int) < (n : Int) := by omega
      obtain rfl : k = n := by omega
      rw [HPE.out]
      clear HPY HPN HPB HPE
      go_wp2
      go_loopw [13, 14, 15] (fun v i _ wq => ∃ j : Nat, j ≤ k ∧ i = .int .i64 (j : Int) ∧ OwnPg wq w4.heap.size v (putTo p I L j) ∧ Below w4.heap.size w4 wq) (fun _ i _ _ => k - (intOf i).toNat)
      case atStart => exact ⟨0, by omega, rfl, by rw [putTo_zero]; exact OwnPg.nil _ _, Below.drews (Below.refl _ _) hd⟩
      case round =>
        clear hd
        obtain ⟨j, hj, rfl, hown, hb⟩ := hrel
        obtain ⟨A5, c5, rfl⟩ := hown.slice
        by_cases hjk : j < k
        · have hlj := HRL.out j hjk
          have hqN := Lib.hid (HQN.out j hjk)
          have hasc := Lib.hid (HASC.out j hjk)
          obtain ⟨b, o, A1, c1, rfl, hbB, hcell, hlc, hE1⟩ := HA.out.at_ hjk
          have hbw : Below w.heap.size w wr := B4.out.trans (hb.mono B4.out.size)
          have d0 := bcell hbw hcell (by show b < _; omega)
          have hEj := hE1.below hbw hB
          have hBr : B ≤ wr.heap.size := Nat.le_trans hB hbw.size
          have hsz := hb.size
          have c0 := bcell hb E0.out hbx
          have c1' := bcell hb E1.out hbx
          have hql := HQL.out j
          have y1 : (j : Int) < (k : Int) := by omega
          have y2 : (0 : Int) ≤ (j : Int) := by omega
          have HE := Lib.hid hEj
          have HB := Lib.hid hb
          have HOWN := Lib.hid hown
          have HLC := Lib.hid hlc
          clear hcell hE1 hEj hb hown hlc
          by_cases hji : j = I
          · have hle := HLE.out
            have HLDj := Lib.hid (HLD.out j hji)
            rw [← hji] at hle HQ10 HQA
            subst hji
            have y3 : ((j : Int) == (j : Int)) = true := by simp
            have HQ10' := Lib.hid HQ10.out
            have HQA' := Lib.hid HQA.out
            clear HLD HLE HQN HQ10 HQA HQE HRL HASC
            generalize (p.getD j []).length = len at *
            generalize p.getD j [] = pg at *
            generalize hacc : putTo p j L (j + 1) = acc' at *
            have HACC := Lib.hid hacc
            clear hacc
            generalize putTo p j L j = acc at *
            go_wp2_with fail
            refine (with_any A1 len c1 B pg s z wr HE.out hBr HLC.out (by omega) hasc.out HXF.out).mono ?_
            intro e w6 hr6
            rw [HLDj.out] at hr6
            obtain ⟨g, c6, rfl, hc6, hsl, hown6, hb6⟩ := hr6.slE HLF.out (by omega) HOWN.out
            have HB6 := Lib.hid (HB.out.trans (hb6.mono hsz))
            have hsz6 : w4.heap.size ≤ w6.heap.size := HB6.out.size
            clear hr6 hb6 HE HLDj c0 c1' d0
            by_cases h10 : L.length = 10
            · have HQ := Lib.hid (HQ10'.out h10)
              rw [h10] at hsl hc6 ⊢
              have HV := Lib.hid hsl.drew.halves
              have HOD := Lib.hid hown6.drew
              clear hsl hown6 HQ10' HQA'
              have q1 : (5 : Int) ≤ (c6 : Int) := by omega
              have q2 : ¬ c6 = 5 := by omega
              have HAL : Hid (acc.length ≤ 20000) := by show _ ≤ _; omega
              generalize hal : acc.length = al at *
              have hal2 := HAL.out
              go_wp2
              go_region_law (refine step_pushP rfl (.tmp 86) (.tmp 91) rfl w4.heap.size w6.drew (.slice A5 al c5) acc [.slice (some ⟨g, 0, none⟩) 5 c6, .slice (some ⟨g, 0 + 5 * 2, none⟩) 5 (c6 - 5)] [L.take 5, L.drop 5] (by simp [Act.eval]) 2 2 (by simp [Act.eval]) HOD.out HV.out rfl (by omega) (by omega) hsz6 ?_; intro v' w7 ho7 b7 hkp; clear hkp)
              all_goals
                rw [← HQ.out] at ho7
                obtain ⟨A7, c7, rfl⟩ := ho7.slice
                have HO7 := Lib.hid ho7
                have HB7 : Hid (Below w4.heap.size w4 w7) := HB6.out.trans ((undrew' b7).mono (Nat.le_refl _))
                clear ho7 b7
                go_wp2
                go_roundw
                case rel => exact ⟨j + 1, by omega, by go_num, by rw [HACC.out]; exact HO7.out, HB7.out⟩
                case measure => simp [intOf]; omega
            · have HQ := Lib.hid (HQA'.out h10)
              have HV := Lib.hid hsl
              have HOD := Lib.hid hown6
              have HAL : Hid (acc.length ≤ 20000) := by show _ ≤ _; omega
              have HLEN := Lib.hid hle
              have q1 : ((L.length : Int) == 10) = false := by rw [beq_eq_false_iff_ne]; omega
              have q2 : decide ((L.length : Int) = 10) = false := by simp; omega
              have q3 : (L.length == 10) = false := by rw [beq_eq_false_iff_ne]; omega
              clear hsl hown6 HQ10' HQA' hle h10
              generalize hal : acc.length = al at *
              have hal2 := HAL.out
              generalize L.length = ll at *
              go_wp2_with (at_builtin; refine pushP_law rfl (.tmp 93) (.tmp 95) rfl w4.heap.size w6 (.slice A5 al c5) acc [.slice (some ⟨g, 0, none⟩) ll c6] [L] rfl 1 1 rfl HOD.out (PgV.single HV.out) rfl (by omega) (by omega) hsz6 ?_)
              intro v' w7 ho7 b7 hkp
              clear hkp
              rw [← HQ.out] at ho7
              obtain ⟨A7, c7, rfl⟩ := ho7.slice
              have HO7 := Lib.hid ho7
              have HB7 : Hid (Below w4.heap.size w4 w7) := HB6.out.trans (b7.mono (Nat.le_refl _))
              clear ho7 b7
              go_wp2
              go_roundw
              case rel => exact ⟨j + 1, by omega, by go_num, by rw [HACC.out]; exact HO7.out, HB7.out⟩
              case measure => simp [intOf]; omega
          · have HQ := Lib.hid (hqN.out hji)
            have y3 : ((j : Int) == (I : Int)) = false := by rw [beq_eq_false_iff_ne]; omega
            have y4 : decide ((j : Int) = (I : Int)) = false := by simp; omega
            have hsl : SlE wr wr.heap.size (.slice A5 (putTo p I L j).length c5) (.slice A1 (p.getD j []).length c1) (p.getD j []) :=
              ⟨_, _, rfl, HLC.out, HE.out.more hBr, fun _ => HOWN.out.off HE.out (Nat.le_trans hB (Nat.le_trans B4.out.size (Nat.le_refl _))) (by omega)⟩
            have HV := Lib.hid hsl
            have HAL : Hid ((putTo p I L j).length ≤ 20000) := by show _ ≤ _; omega
            clear hsl HLD HLE HQN HQ10 HQA HQE HRL HASC hqN hasc
            generalize hlen : (p.getD j []).length = len at *
            generalize p.getD j [] = pg at *
            generalize hacc : putTo p I L (j + 1) = acc' at *
            have HACC := Lib.hid hacc
            clear hacc
            generalize putTo p I L j = acc at *
            generalize hal : acc.length = al at *
            have hal2 := HAL.out
            have q1 : ((len : Int) == 10) = false := by rw [beq_eq_false_iff_ne]; omega
            have q2 : decide ((len : Int) = 10) = false := by simp; omega
            have q3 : (len == 10) = false := by rw [beq_eq_false_iff_ne]; omega
            go_wp2_with (at_builtin; refine pushP_law rfl (.tmp 93) (.tmp 95) rfl w4.heap.size wr (.slice A5 al c5) acc [.slice A1 len c1] [pg] rfl 1 1 rfl HOWN.out (PgV.single HV.out) rfl (by omega) (by omega) hsz ?_)
            intro v' w7 ho7 b7 hkp
            clear hkp
            rw [← HQ.out] at ho7
            obtain ⟨A7, c7, rfl⟩ := ho7.slice
            have HO7 := Lib.hid ho7
            have HB7 : Hid (Below w4.heap.size w4 w7) := HB.out.trans (b7.mono (Nat.le_refl _))
            clear ho7 b7
            go_wp2
            go_roundw
            case rel => exact ⟨j + 1, by omega, by go_num, by rw [HACC.out]; exact HO7.out, HB7.out⟩
            case measure => simp [intOf]; omega
        · have x2 : ¬ (j : Int) < (k : Int) := by omega
          obtain rfl : j = k := by omega
          have hR : RetAP w (putP p I L, 0) (.returned (.tuple #[.slice A5 (putTo p I L j).length c5, .int .i64 0])) wr := by rw [HQE.out] at hown ⊢; exact hown.add (B4.out.trans (hb.mono B4.out.size))
          have HR := Lib.hid hR
          clear hR hown
          generalize (putTo p I L j).length = al at *
          go_wp2
          go_ret2
          exact HR.out
end Go.Proofs.Ytflijnhgonigjaa
