/-
  WALKS: the reference's Add and Drop. Conditions: at most 40000 entries, a name of at most 140737488355328 bytes.
-/
import Derived.Test.YtmmjpdggneagdaaEAdd
import Derived.Test.YtmmjpdggneagdaaERefRight
namespace Go.Proofs.Ytmmjpdggneagdaa
open Go.RowKit

theorem free_at {l : List En} (h : rightR l = true) {k : Nat} (hk : k < l.length) : freeB (l.getD k En.z) = ((l.getD k En.z).nd == 0) := by
  rw [getD_lt hk]; exact right_free h (List.getElem_mem hk)

set_option maxHeartbeats 8000000 in
theorem radd_any (A : Option Addr) (n c B : Nat) (l : List En) (s : ByteArray) (z : Int) (w : World) (hA : EnsAt w B A n l) (hB : B ≤ w.heap.size) (hn : n ≤ 40000) (hs : s.size ≤ 140737488355328) (hz : Fit z) :
    Calls Try.prog 20 #[.slice A n c, .string s, .int .i64 z] w (RetAdd w (addR l s z)) := by
  have HL := Lib.hid hA.len
  have HA := Lib.hid hA
  have HRT := Lib.hid (rrightE_any A n c B l w hA hB (by omega))
  have HND := Lib.hid (fun w => rnode_any z w)
  have HRN := Lib.hid (fun w => rright_any s w (by omega))
  clear hA
  cases h0 : rightR l with
  | false =>
    have HR := Lib.hid (addR_1 (l := l) (s := s) (n := z) (by rw [h0]; simp))
    rw [h0] at HRT
    clear h0
    go_enter Try.func20, Try.ntmps20
    go_wp2_with fail
    refine HRT.out.mono ?_
    rintro e w1 ⟨rfl, b1⟩
    go_wp2
    go_ret2
    exact RetAdd.err HR.out b1
  | true =>
  rw [h0] at HRT
  cases h1 : nodeB z with
  | false =>
    have HR := Lib.hid (addR_1 (l := l) (s := s) (n := z) (by rw [h1]; simp))
    rw [h1] at HND
    clear h0 h1
    go_enter Try.func20, Try.ntmps20
    go_wp2_with fail
    refine HRT.out.mono ?_
    rintro e w1 ⟨rfl, b1⟩
    go_wp2_with fail
    refine (HND.out _).mono ?_
    rintro e w2 ⟨rfl, rfl⟩
    go_wp2
    go_ret2
    exact RetAdd.err HR.out b1
  | true =>
  rw [h1] at HND
  have H01 : Hid (rightR l = true ∧ nodeB z = true) := ⟨h0, h1⟩
  clear h0 h1
  cases h2 : rightB s with
  | false =>
    have HR := Lib.hid (addR_4 H01.out h2)
    rw [h2] at HRN
    clear h2
    go_enter Try.func20, Try.ntmps20
    go_wp2_with fail
    refine HRT.out.mono ?_
    rintro e w1 ⟨rfl, b1⟩
    go_wp2_with fail
    refine (HND.out _).mono ?_
    rintro e w2 ⟨rfl, rfl⟩
    go_wp2_with fail
    refine (HRN.out _).mono ?_
    rintro e w3 ⟨rfl, rfl⟩
    go_wp2
    go_ret2
    exact RetAdd.err HR.out b1
  | true =>
  rw [h2] at HRN
  have HRS := Lib.hid h2
  clear h2
  have HFD := Lib.hid (fun W (h : EnsAt W B A n l) => rfind_any A n c B l s W h (by omega) (by omega))
  have HLV := Lib.hid (fun W (h : EnsAt W B A n l) (hB : B ≤ W.heap.size) => rlive_any A n c B l W h hB (by omega))
  have hlv := live_len l
  have hcnt := right_cnt H01.out.1
  by_cases h3 : placeR l s < 0
  · rw [findR_neg h3] at HFD
    by_cases h4 : (liveR l).length < 160
    · have HSET := Lib.hid (fun k => addR_set (k := k) H01.out HRS.out h3 h4)
      have HOF := Lib.hid (addR_of H01.out HRS.out h3 h4)
      have d4 : decide ((160 : Int) ≤ ((liveR l).length : Int)) = false := by simp; omega
      have d4' : decide (160 ≤ (liveR l).length) = false := by simp; omega
      have HFITS := Lib.hid HA.out.2.1
      have HFR := Lib.hid (fun k hk => free_at (l := l) H01.out.1 (k := k) hk)
      clear h3 h4
      generalize liveR l = L at *
      go_enter Try.func20, Try.ntmps20
      go_wp2_with fail
      refine HRT.out.mono ?_
      rintro e w1 ⟨rfl, b1⟩
      have HB1 := Lib.hid b1
      clear b1
      go_wp2_with fail
      refine (HND.out _).mono ?_
      rintro e w2 ⟨rfl, rfl⟩
      go_wp2_with fail
      refine (HRN.out _).mono ?_
      rintro e w3 ⟨rfl, rfl⟩
      go_wp2_with fail
      refine (HFD.out _ (HA.out.below HB1.out hB)).mono ?_
      rintro e w4 ⟨rfl, rfl⟩
      go_wp2_with fail
      refine (HLV.out _ (HA.out.below HB1.out hB) (Nat.le_trans hB HB1.out.size)).mono ?_
      rintro e w5 ⟨v5, rfl, ho5, b5⟩
      have HB5 := Lib.hid (HB1.out.trans (b5.mono HB1.out.size))
      obtain ⟨A5, c5, rfl, hc5⟩ := own_slice ho5
      clear b5 ho5
      have HA5 := Lib.hid (HA.out.below HB5.out hB)
      go_wp2_with (at_builtin; refine join_law rfl (.const (.slice none 0 0)) (.tmp 34) rfl w.heap.size w5 (.slice none 0 0) [] rfl B A n c l rfl (World.ownsRow_nil _ _ _ _) HA5.out (by simp; omega) HB5.out.size ?_; intro v6 w6 ho6 b6; rw [List.nil_append] at ho6; obtain ⟨A6, c6, rfl, hc6⟩ := own_slice ho6)
      have HO6 := Lib.hid ho6
      have HB6 := Lib.hid (HB5.out.trans b6)
      clear ho6 b6 d4 d4' hc5 hc6 hcnt hlv
      have hL := HL.out
      rw [hL]
      rw [hL] at HO6
      go_loop [11] (fun i => ∃ k : Nat, k ≤ n ∧ i = .int .i64 (k : Int) ∧ Hid (∀ j, j < k → freeB (l.getD j En.z) = false)) (fun i => n - (intOf i).toNat)
      case atStart => exact ⟨0, by omega, rfl, fun j hj => absurd hj (Nat.not_lt_zero _)⟩
      case round =>
        obtain ⟨k, hk, rfl, hok⟩ := hrel
        by_cases hlt : k < n
        · have hkl : k < l.length := by omega
          obtain ⟨g, cap, e9, hbg, hgl, g1, g2, f1, f2⟩ := own_at (w := w6) (base := w.heap.size) (v := .slice A6 n c6) (l := l) (by rw [hL]; exact HO6.out) hkl
          rw [hL] at e9
          obtain ⟨rfl, rfl⟩ : A6 = some ⟨g, 0, none⟩ ∧ c6 = cap := by injection e9 with a b c; exact ⟨a, c⟩
          have hfr := HFR.out k hkl
          have HFND : Hid (freeB (l.getD k En.z) = true → idx freeB l = k) := fun h => idx_found hkl hok.out h
          have x1 : (0 : Int) ≤ (k : Int) := by omega
          have x2 : (k : Int) < (n : Int) := by omega
          by_cases hz0 : (l.getD k En.z).nd = 0
          · have HR := Lib.hid (HSET.out k (HFND.out (by rw [hfr, hz0]; rfl)))
            have HO10 : Hid (((w6.setCell ⟨g, k * 2, none⟩ (.string s)).setCell ⟨g, k * 2 + 1, none⟩ (.int .i64 z)).ownsRow w.heap.size 43 2 (.slice (some ⟨g, 0, none⟩) n c6) l.length (ensCells (l.set k ⟨s, z⟩))) := by
              have := own_set (w := w6) (base := w.heap.size) (g := g) (cap := c6) (l := l) (by rw [hL]; exact HO6.out) (k := k) hkl ⟨s, z⟩
              rw [hL] at this ⊢
              exact this
            have HB10 : Hid (Below w.heap.size w ((w6.setCell ⟨g, k * 2, none⟩ (.string s)).setCell ⟨g, k * 2 + 1, none⟩ (.int .i64 z))) := (HB6.out.setCell hbg _).setCell hbg _
            have hfin : RetAdd w (addR l s z) (.returned (.tuple #[.slice (some ⟨g, 0, none⟩) n c6, .int .i64 0])) ((w6.setCell ⟨g, k * 2, none⟩ (.string s)).setCell ⟨g, k * 2 + 1, none⟩ (.int .i64 z)) := by
              rw [HR.out]
              exact ⟨_, rfl, by rw [List.length_set]; exact HO10.out, HB10.out⟩
            have HF := Lib.hid hfin
            rw [hz0] at g2
            clear hfin e9 hfr hz0 hL
            generalize (l.getD k En.z).nm = y at *
            go_wp2
            go_ret2
            exact HF.out
          · have d0 : ((l.getD k En.z).nd == 0) = false := by simpa using hz0
            have HV := Lib.hid (hfr.trans d0)
            clear e9 hfr hL
            generalize (l.getD k En.z).nm = y at *
            generalize hy : (l.getD k En.z).nd = yz at *
            clear hy
            go_wp2
            go_round
            case rel => exact ⟨k + 1, by omega, by go_num, fun j hj => by
              rcases Nat.lt_or_ge j k with h' | h'
              · exact hok.out j h'
              · obtain rfl : j = k := by omega
                exact HV.out⟩
            case measure => simp [intOf]; omega
        · have HR := Lib.hid (HOF.out (idx_none fun j hj => hok.out j (by omega)))
          have HFT : Hid (∀ e ∈ l ++ [(⟨s, z⟩ : En)], e.fit) := fun e he => by
            rcases List.mem_append.1 he with h | h
            · exact HFITS.out e h
            · obtain rfl := List.mem_singleton.1 h
              exact ⟨hs, hz⟩
          clear hL
          go_wp2_with (at_builtin; refine push_law rfl (.tmp 55) (.tmp 59) rfl w.heap.size w6 (.slice A6 n c6) l s z rfl rfl (by rw [HL.out]; exact HO6.out) (by rw [HL.out]; omega) HB6.out.size ?_; intro v' w10 hown10 b10; obtain ⟨A10, c10, rfl, hc10⟩ := own_slice hown10)
          have HE10 : Hid (EnsAt w10 w10.heap.size A10 (l.length + 1) (l ++ [⟨s, z⟩])) := by
            show EnsAt _ _ _ _ _
            have := EnsAt.of_own hown10 rfl HFT.out
            rw [List.length_append] at this
            exact this
          have HB10 := Lib.hid (HB6.out.trans b10)
          clear b10 hown10
          refine (rof_any A10 _ c10 w10.heap.size (l ++ [⟨s, z⟩]) w10 HE10.out (by rw [HL.out]; omega)).mono ?_
          rintro e w11 ⟨v11, rfl, ho11, b11⟩
          have hfin : RetAdd w (addR l s z) (.returned (.tuple #[v11, .int .i64 0])) w11 := by
            rw [HR.out]
            exact ⟨v11, rfl, own_base ho11 HB10.out.size, HB10.out.trans (b11.mono HB10.out.size)⟩
          have HF := Lib.hid hfin
          clear hfin ho11 b11
          go_wp2
          go_ret2
          exact HF.out
    · have HR := Lib.hid (addR_12 H01.out HRS.out h3 h4)
      have HEQ : Hid ((liveR l).length = 160) := by show _ = _; omega
      clear h3 h4 hcnt hlv
      go_enter Try.func20, Try.ntmps20
      go_wp2_with fail
      refine HRT.out.mono ?_
      rintro e w1 ⟨rfl, b1⟩
      have HB1 := Lib.hid b1
      clear b1
      go_wp2_with fail
      refine (HND.out _).mono ?_
      rintro e w2 ⟨rfl, rfl⟩
      go_wp2_with fail
      refine (HRN.out _).mono ?_
      rintro e w3 ⟨rfl, rfl⟩
      go_wp2_with fail
      refine (HFD.out _ (HA.out.below HB1.out hB)).mono ?_
      rintro e w4 ⟨rfl, rfl⟩
      go_wp2_with fail
      refine (HLV.out _ (HA.out.below HB1.out hB) (Nat.le_trans hB HB1.out.size)).mono ?_
      rintro e w5 ⟨v5, rfl, ho5, b5⟩
      have HB5 := Lib.hid (HB1.out.trans (b5.mono HB1.out.size))
      rw [HEQ.out] at ho5
      obtain ⟨A5, c5, rfl, hc5⟩ := own_slice ho5
      clear b5 ho5
      go_wp2
      go_ret2
      exact RetAdd.err HR.out HB5.out
  · have HR := Lib.hid (addR_6 H01.out HRS.out h3)
    obtain ⟨k, hk, hpk, -⟩ := place_pos h3
    rw [findR_pos hpk] at HFD
    clear h3 hcnt hlv hpk
    generalize (l.getD k En.z).nd = zz at *
    go_enter Try.func20, Try.ntmps20
    go_wp2_with fail
    refine HRT.out.mono ?_
    rintro e w1 ⟨rfl, b1⟩
    have HB1 := Lib.hid b1
    clear b1
    go_wp2_with fail
    refine (HND.out _).mono ?_
    rintro e w2 ⟨rfl, rfl⟩
    go_wp2_with fail
    refine (HRN.out _).mono ?_
    rintro e w3 ⟨rfl, rfl⟩
    go_wp2_with fail
    refine (HFD.out _ (HA.out.below HB1.out hB)).mono ?_
    rintro e w4 ⟨rfl, rfl⟩
    go_wp2
    go_ret2
    exact RetAdd.err HR.out HB1.out

/-- a copy in which the entry at place k is struck out once the loop has passed it. -/
def struck (l : List En) (k j : Nat) : List En := if j ≤ k then l else l.set k En.z
theorem struck_len (l : List En) (k j : Nat) : (struck l k j).length = l.length := by unfold struck; split <;> simp
theorem struck_zero (l : List En) (k : Nat) : struck l k 0 = l := by unfold struck; rw [if_pos (by omega)]
theorem struck_end {l : List En} {k : Nat} (h : k < l.length) : struck l k l.length = l.set k En.z := by unfold struck; rw [if_neg (by omega)]
theorem struck_next {l : List En} {k j : Nat} (h : j ≠ k) : struck l k (j + 1) = struck l k j := by
  unfold struck
  by_cases h1 : j ≤ k
  · rw [if_pos h1, if_pos (by omega)]
  · rw [if_neg h1, if_neg (by omega)]
theorem struck_at (l : List En) (k : Nat) : struck l k (k + 1) = (struck l k k).set k En.z := by
  unfold struck; rw [if_neg (by omega), if_pos (by omega)]
theorem struck_getD (l : List En) (k j : Nat) : (struck l k j).getD j En.z = l.getD j En.z := by
  unfold struck
  split
  · rfl
  · simp only [List.getD]
    rw [List.getElem?_set_ne (by omega)]
theorem other_name {l : List En} {s : ByteArray} {k j : Nat} (h : rightR l = true) (hs : rightB s = true) (hks : (l.getD k En.z).nm = s) (hb : ∀ j, j < k → (l.getD j En.z).nm ≠ s) (hj : j < l.length) (hne : j ≠ k) : eqB (l.getD j En.z).nm s = false := by
  rw [eqB_ne]
  rcases Nat.lt_or_ge j k with h1 | h1
  · exact hb j h1
  · cases hf : freeB (l.getD j En.z) with
    | true =>
      rw [freeB_iff.1 hf]
      exact fun e => rightB_ne hs e.symm
    | false =>
      have := right_apart h (i := k) (j := j) (by omega) hj hf
      rw [hks] at this
      exact fun e => this e.symm

set_option maxHeartbeats 8000000 in
theorem rdrop_any (A : Option Addr) (n c B : Nat) (l : List En) (s : ByteArray) (w : World) (hA : EnsAt w B A n l) (hB : B ≤ w.heap.size) (hn : n ≤ 40000) (hs : s.size ≤ 9223372036854775807) :
    Calls Try.prog 22 #[.slice A n c, .string s] w (RetDrop w (dropR l s)) := by
  have HL := Lib.hid hA.len
  have HA := Lib.hid hA
  have HRT := Lib.hid (rrightE_any A n c B l w hA hB (by omega))
  clear hA
  cases h0 : rightR l with
  | false =>
    have HR := Lib.hid (dropR_1 (s := s) h0)
    rw [h0] at HRT
    clear h0
    go_enter Try.func22, Try.ntmps22
    go_wp2_with fail
    refine HRT.out.mono ?_
    rintro e w1 ⟨rfl, b1⟩
    go_wp2
    go_ret3
    exact RetDrop.err HR.out b1
  | true =>
  rw [h0] at HRT
  have H0 := Lib.hid h0
  clear h0
  have HFD := Lib.hid (fun W (h : EnsAt W B A n l) => rfind_any A n c B l s W h (by omega) hs)
  by_cases h3 : placeR l s < 0
  · have HR := Lib.hid (dropR_5 H0.out h3)
    rw [findR_neg h3] at HFD
    clear h3
    go_enter Try.func22, Try.ntmps22
    go_wp2_with fail
    refine HRT.out.mono ?_
    rintro e w1 ⟨rfl, b1⟩
    have HB1 := Lib.hid b1
    clear b1
    go_wp2_with fail
    refine (HFD.out _ (HA.out.below HB1.out hB)).mono ?_
    rintro e w4 ⟨rfl, rfl⟩
    go_wp2
    go_ret3
    exact RetDrop.err HR.out HB1.out
  · obtain ⟨k, hk, hpk, hrs, hks, hbf⟩ := place_pos h3
    have HR := Lib.hid (dropR_0 H0.out hpk)
    have hkn : k < n := by rw [← HL.out]; exact hk
    rw [findR_pos hpk] at HFD
    have HNM : Hid (∀ j, j < n → j ≠ k → eqB (l.getD j En.z).nm s = false) := fun j hj hne => other_name H0.out hrs hks hbf (by rw [HL.out]; exact hj) hne
    have HEQ : Hid (eqB (l.getD k En.z).nm s = true) := eqB_iff.2 hks
    clear h3 hpk hks hbf hrs
    generalize (l.getD k En.z).nd = zz at *
    go_enter Try.func22, Try.ntmps22
    go_wp2_with fail
    refine HRT.out.mono ?_
    rintro e w1 ⟨rfl, b1⟩
    have HB1 := Lib.hid b1
    clear b1
    go_wp2_with fail
    refine (HFD.out _ (HA.out.below HB1.out hB)).mono ?_
    rintro e w4 ⟨rfl, rfl⟩
    have HA5 := Lib.hid (HA.out.below HB1.out hB)
    go_wp2_with (at_builtin; refine join_law rfl (.const (.slice none 0 0)) (.tmp 22) rfl w.heap.size w1 (.slice none 0 0) [] rfl B A n c l rfl (World.ownsRow_nil _ _ _ _) HA5.out (by simp; omega) HB1.out.size ?_; intro v6 w6 ho6 b6; rw [List.nil_append] at ho6; obtain ⟨A6, c6, rfl, hc6⟩ := own_slice ho6)
    have HO6 := Lib.hid ho6
    have HB6 := Lib.hid (HB1.out.trans b6)
    clear ho6 b6 hc6
    have hL := HL.out
    rw [hL]
    rw [hL] at HO6
    go_loopw [10] (fun i wr => ∃ j : Nat, j ≤ n ∧ i = .int .i64 (j : Int) ∧ wr.ownsRow w.heap.size 43 2 (.slice A6 n c6) n (ensCells (struck l k j)) ∧ Below w.heap.size w wr) (fun i _ => n - (intOf i).toNat)
    case atStart => exact ⟨0, by omega, rfl, by rw [struck_zero]; exact HO6.out, HB6.out⟩
    case round =>
      obtain ⟨j, hj, rfl, hown, hb⟩ := hrel
      clear HO6 HB6
      by_cases hlt : j < n
      · have hsl : (struck l k j).length = n := (struck_len l k j).trans hL
        have hjl : j < (struck l k j).length := by omega
        have HOWN := Lib.hid hown
        have HB := Lib.hid hb
        clear hown hb
        obtain ⟨g, cap, e9, hbg, hgl, g1, g2, f1, f2⟩ := own_at (w := wr) (base := w.heap.size) (v := .slice A6 n c6) (l := struck l k j) (by rw [hsl]; exact HOWN.out) hjl
        rw [hsl] at e9
        obtain ⟨rfl, rfl⟩ : A6 = some ⟨g, 0, none⟩ ∧ c6 = cap := by injection e9 with a b c; exact ⟨a, c⟩
        rw [struck_getD] at g1 g2
        have x1 : (0 : Int) ≤ (j : Int) := by omega
        have x2 : (j : Int) < (n : Int) := by omega
        by_cases hjk : j = k
        · subst hjk
          have hv : ((l.getD j En.z).nm.toList == s.toList) = true := HEQ.out
          have HO10 : Hid (((wr.setCell ⟨g, j * 2, none⟩ (.string ⟨#[]⟩)).setCell ⟨g, j * 2 + 1, none⟩ (.int .i64 0)).ownsRow w.heap.size 43 2 (.slice (some ⟨g, 0, none⟩) n c6) n (ensCells (struck l j (j + 1)))) := by
            have := own_set (w := wr) (base := w.heap.size) (g := g) (cap := c6) (l := struck l j j) (by rw [hsl]; exact HOWN.out) (k := j) hjl En.z
            rw [hsl] at this
            rw [struck_at]
            exact this
          have HB10 : Hid (Below w.heap.size w ((wr.setCell ⟨g, j * 2, none⟩ (.string ⟨#[]⟩)).setCell ⟨g, j * 2 + 1, none⟩ (.int .i64 0))) := (HB.out.setCell hbg _).setCell hbg _
          clear e9 hsl hL hjl
          generalize (l.getD j En.z).nm = y at *
          generalize (l.getD j En.z).nd = yz at *
          go_wp2
          go_roundw
          case rel => exact ⟨j + 1, by omega, by go_num, HO10.out, HB10.out⟩
          case measure => simp [intOf]; omega
        · have hv : ((l.getD j En.z).nm.toList == s.toList) = false := HNM.out j hlt hjk
          have HNX := Lib.hid (struck_next (l := l) hjk)
          clear e9 hsl hL hjl
          generalize (l.getD j En.z).nm = y at *
          generalize (l.getD j En.z).nd = yz at *
          go_wp2
          go_roundw
          case rel => exact ⟨j + 1, by omega, by go_num, by rw [HNX.out]; exact HOWN.out, HB.out⟩
          case measure => simp [intOf]; omega
      · have hfin : RetDrop w (dropR l s) (.returned (.tuple #[.slice A6 n c6, .int .i64 zz, .int .i64 0])) wr := by
          have hjn : j = l.length := by omega
          subst hjn
          rw [struck_end hk] at hown
          rw [HR.out]
          refine ⟨_, rfl, ?_, hb⟩
          rw [List.length_set, hL]; exact hown
        have HF := Lib.hid hfin
        clear hfin hown hb
        go_wp2
        go_ret3
        exact HF.out
end Go.Proofs.Ytmmjpdggneagdaa
