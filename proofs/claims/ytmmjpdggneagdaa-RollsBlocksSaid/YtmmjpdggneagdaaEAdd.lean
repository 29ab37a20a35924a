/-
  WALKS: Add, Drop. Conditions: at most 40000 entries, a name of at most 140737488355328 bytes.
-/
import Derived.Test.YtmmjpdggneagdaaEOf
import Derived.Test.YtmmjpdggneagdaaERight
import Derived.Test.YtmmjpdggneagdaaEFind
import Derived.Deep.QuietTactic
import Derived.BigQuiet
namespace Go.Proofs.Ytmmjpdggneagdaa
open Go.RowKit

/-- what Add answers. -/
def RetAdd (w : World) (r : List En × Int) (e : Ending) (w' : World) : Prop := ∃ v, e = .returned (.tuple #[v, .int .i64 r.2]) ∧ w'.ownsRow w.heap.size 43 2 v r.1.length (ensCells r.1) ∧ Below w.heap.size w w'
/-- what Drop answers. -/
def RetDrop (w : World) (r : List En × Int × Int) (e : Ending) (w' : World) : Prop := ∃ v, e = .returned (.tuple #[v, .int .i64 r.2.1, .int .i64 r.2.2]) ∧ w'.ownsRow w.heap.size 43 2 v r.1.length (ensCells r.1) ∧ Below w.heap.size w w'
theorem RetAdd.err {w w' : World} {r : List En × Int} {z : Int} (h : r = ([], z)) (hb : Below w.heap.size w w') : RetAdd w r (.returned (.tuple #[.slice none 0 0, .int .i64 z])) w' := by
  subst h; exact ⟨_, rfl, World.ownsRow_nil _ _ _ _, hb⟩
theorem RetDrop.err {w w' : World} {r : List En × Int × Int} {z : Int} (h : r = ([], 0, z)) (hb : Below w.heap.size w w') : RetDrop w r (.returned (.tuple #[.slice none 0 0, .int .i64 0, .int .i64 z])) w' := by
  subst h; exact ⟨_, rfl, World.ownsRow_nil _ _ _ _, hb⟩

theorem addR_1 {l : List En} {s : ByteArray} {n : Int} (h : ¬ (rightR l = true ∧ nodeB n = true)) : addR l s n = ([], 1) := by unfold addR; rw [if_neg h]
theorem addR_4 {l : List En} {s : ByteArray} {n : Int} (h : rightR l = true ∧ nodeB n = true) (h1 : rightB s = false) : addR l s n = ([], 4) := by unfold addR; rw [if_pos h, if_neg (by rw [h1]; decide)]
theorem addR_6 {l : List En} {s : ByteArray} {n : Int} (h : rightR l = true ∧ nodeB n = true) (h1 : rightB s = true) (h2 : ¬ placeR l s < 0) : addR l s n = ([], 6) := by unfold addR; rw [if_pos h, if_pos h1, if_neg h2]
theorem addR_12 {l : List En} {s : ByteArray} {n : Int} (h : rightR l = true ∧ nodeB n = true) (h1 : rightB s = true) (h2 : placeR l s < 0) (h3 : ¬ (liveR l).length < 160) : addR l s n = ([], 12) := by unfold addR; rw [if_pos h, if_pos h1, if_pos h2, if_neg h3]
theorem addR_set {l : List En} {s : ByteArray} {n : Int} (h : rightR l = true ∧ nodeB n = true) (h1 : rightB s = true) (h2 : placeR l s < 0) (h3 : (liveR l).length < 160) {k : Nat} (h4 : idx freeB l = k) : addR l s n = (l.set k ⟨s, n⟩, 0) := by
  unfold addR; rw [if_pos h, if_pos h1, if_pos h2, if_pos h3, h4, if_pos (by omega)]; rfl
theorem addR_of {l : List En} {s : ByteArray} {n : Int} (h : rightR l = true ∧ nodeB n = true) (h1 : rightB s = true) (h2 : placeR l s < 0) (h3 : (liveR l).length < 160) (h4 : idx freeB l = -1) : addR l s n = (ofR (l ++ [⟨s, n⟩]), 0) := by
  unfold addR; rw [if_pos h, if_pos h1, if_pos h2, if_pos h3, h4, if_neg (by omega)]

set_option maxHeartbeats 8000000 in
theorem add_any (A : Option Addr) (n c B : Nat) (l : List En) (s : ByteArray) (z : Int) (w : World) (hA : EnsAt w B A n l) (hB : B ≤ w.heap.size) (hn : n ≤ 40000) (hs : s.size ≤ 140737488355328) (hz : Fit z) :
    Calls Try.prog 19 #[.slice A n c, .string s, .int .i64 z] w (RetAdd w (addR l s z)) := by
  have HL := Lib.hid hA.len
  have HA := Lib.hid hA
  have HRT := Lib.hid (rightE_any A n c B l w hA hB (by omega))
  have HND := Lib.hid (fun w => isNode_any z w)
  have HRN := Lib.hid (fun w => right_any s w)
  clear hA
  cases h0 : rightR l with
  | false =>
    have HR := Lib.hid (addR_1 (l := l) (s := s) (n := z) (by rw [h0]; simp))
    rw [h0] at HRT
    clear h0
    go_enter Try.func19, Try.ntmps19
    go_wp2_with fail
    refine HRT.out.mono ?_
    rintro e w1 ⟨rfl, b1⟩
    go_wp2
    go_ret2
    exact RetAdd.err HR.out b1
  | true =>
  rw [h0] at HRT
  cases h1 : nodeB z with
  | false =>
    have HR := Lib.hid (addR_1 (l := l) (s := s) (n := z) (by rw [h1]; simp))
    rw [h1] at HND
    clear h0 h1
    go_enter Try.func19, Try.ntmps19
    go_wp2_with fail
    refine HRT.out.mono ?_
    rintro e w1 ⟨rfl, b1⟩
    go_wp2_with fail
    refine (HND.out _).mono ?_
    rintro e w2 ⟨rfl, rfl⟩
    go_wp2
    go_ret2
    exact RetAdd.err HR.out b1
  | true =>
  rw [h1] at HND
  have H01 : Hid (rightR l = true ∧ nodeB z = true) := ⟨h0, h1⟩
  clear h0 h1
  cases h2 : rightB s with
  | false =>
    have HR := Lib.hid (addR_4 H01.out h2)
    rw [h2] at HRN
    clear h2
    go_enter Try.func19, Try.ntmps19
    go_wp2_with fail
    refine HRT.out.mono ?_
    rintro e w1 ⟨rfl, b1⟩
    go_wp2_with fail
    refine (HND.out _).mono ?_
    rintro e w2 ⟨rfl, rfl⟩
    go_wp2_with fail
    refine (HRN.out _).mono ?_
    rintro e w3 ⟨rfl, b3⟩
    have b13 := b1.trans (b3.mono b1.size)
    go_wp2
    go_ret2
    exact RetAdd.err HR.out b13
  | true =>
  rw [h2] at HRN
  have HRS := Lib.hid h2
  clear h2
  have HPL := Lib.hid (fun W (h : EnsAt W B A n l) (hB : B ≤ W.heap.size) => place_any A n c B l s W h hB (by omega))
  have HLV := Lib.hid (fun W (h : EnsAt W B A n l) (hB : B ≤ W.heap.size) => live_any A n c B l W h hB (by omega))
  have hpb := place_bd l s
  have hlv := live_len l
  have hcnt := right_cnt H01.out.1
  by_cases h3 : placeR l s < 0
  · by_cases h4 : (liveR l).length < 160
    · have HCE := Lib.hid (fun W (h : EnsAt W B A n l) (hB : B ≤ W.heap.size) => cloneE_any A n c B l W h hB (by omega))
      have HIF := Lib.hid (fun (A' : Option Addr) (c' : Nat) (W : World) (h : EnsAt W W.heap.size A' n l) => indexFree_any A' n c' W.heap.size l W h (Nat.le_refl _) (by omega))
      have HSET := Lib.hid (fun k => addR_set (k := k) H01.out HRS.out h3 h4)
      have HOF := Lib.hid (addR_of H01.out HRS.out h3 h4)
      have d3 : decide (0 ≤ placeR l s) = false := by simp; omega
      have d4 : (((liveR l).length : Int) == 160) = false := by simp; omega
      have d4' : ¬ ((liveR l).length : Int) = 160 := by omega
      have HFITS := Lib.hid HA.out.2.1
      clear h3 h4
      generalize placeR l s = p at *
      generalize liveR l = L at *
      go_enter Try.func19, Try.ntmps19
      go_wp2_with fail
      refine HRT.out.mono ?_
      rintro e w1 ⟨rfl, b1⟩
      have HB1 := Lib.hid b1
      clear b1
      go_wp2_with fail
      refine (HND.out _).mono ?_
      rintro e w2 ⟨rfl, rfl⟩
      go_wp2_with fail
      refine (HRN.out _).mono ?_
      rintro e w3 ⟨rfl, b3⟩
      have HB3 := Lib.hid (HB1.out.trans (b3.mono HB1.out.size))
      clear b3
      go_wp2_with fail
      refine (HPL.out _ (HA.out.below HB3.out hB) (Nat.le_trans hB HB3.out.size)).mono ?_
      rintro e w4 ⟨rfl, b4⟩
      have HB4 := Lib.hid (HB3.out.trans (b4.mono HB3.out.size))
      clear b4
      go_wp2_with fail
      refine (HLV.out _ (HA.out.below HB4.out hB) (Nat.le_trans hB HB4.out.size)).mono ?_
      rintro e w5 ⟨v5, rfl, ho5, b5⟩
      have HB5 := Lib.hid (HB4.out.trans (b5.mono HB4.out.size))
      obtain ⟨A5, c5, rfl, hc5⟩ := own_slice ho5
      clear b5 ho5
      go_wp2_with fail
      refine (clone_any s _ hs).mono ?_
      rintro e w6 ⟨rfl, b6⟩
      have HB6 := Lib.hid (HB5.out.trans (b6.mono HB5.out.size))
      clear b6 d3 d4 d4'
      have n1 : (w6.alloc (.cells #[.string s, .int .i64 z] 43)).cell? ⟨w6.heap.size, 0, none⟩ = some (.string s) := cell_new w6 _ 43 0 rfl
      have n2 : (w6.alloc (.cells #[.string s, .int .i64 z] 43)).cell? ⟨w6.heap.size, 1, none⟩ = some (.int .i64 z) := cell_new w6 _ 43 1 rfl
      have HB7 : Hid (Below w.heap.size w (w6.alloc (.cells #[.string s, .int .i64 z] 43))) := HB6.out.alloc HB6.out.size _
      have HZ : Hid ((w6.alloc (.cells #[.string s, .int .i64 z] 43)).heap.size = w6.heap.size + 1) := by show _ = _; simp
      go_wp2_with fail
      refine (HCE.out _ (HA.out.below HB7.out hB) (Nat.le_trans hB HB7.out.size)).mono ?_
      rintro e w8 ⟨v8, rfl, ho8, b8⟩
      have m1 := bcell b8 n1 (by simp)
      have m2 := bcell b8 n2 (by simp)
      have HB8 := Lib.hid (HB7.out.trans (b8.mono HB7.out.size))
      have HO8 := Lib.hid (own_base ho8 HB7.out.size)
      have hq8 : w6.heap.size < w8.heap.size := by have := b8.size; rw [HZ.out] at this; omega
      have HE8 : Hid (∃ A8 c8, v8 = .slice A8 n c8 ∧ EnsAt w8 w8.heap.size A8 n l) := by
        obtain ⟨A8, c8, e8, -⟩ := own_slice ho8
        have := EnsAt.of_own ho8 e8 HFITS.out
        rw [HL.out] at this e8
        exact ⟨A8, c8, e8, this⟩
      have HG8 : Hid (∀ g cap, v8 = .slice (some ⟨g, 0, none⟩) n cap → w6.heap.size < g) := by
        intro g cap e
        subst e
        have := (ho8.lt g rfl).1
        rw [HZ.out] at this
        omega
      clear b8 ho8 n1 n2
      obtain ⟨A8, c8, rfl, hE8⟩ := HE8.out
      have HE9 := Lib.hid hE8
      clear hE8 HE8
      rcases idx_cases freeB l with ⟨hi, -⟩ | ⟨k, hk, hi, -, -⟩
      · have HI := Lib.hid (HIF.out A8 c8 w8 HE9.out)
        rw [hi] at HI
        have HR := Lib.hid (HOF.out hi)
        have HFT : Hid (∀ e ∈ l ++ [(⟨s, z⟩ : En)], e.fit) := fun e he => by
          rcases List.mem_append.1 he with h | h
          · exact HFITS.out e h
          · obtain rfl := List.mem_singleton.1 h
            exact ⟨hs, hz⟩
        clear hi
        go_wp2_with fail
        refine HI.out.mono ?_
        rintro e w9 ⟨rfl, b9⟩
        have k1 := bcell b9 m1 hq8
        have k2 := bcell b9 m2 hq8
        have HO9 := Lib.hid (own_below HO8.out b9 (Nat.le_refl _))
        have HB9 := Lib.hid (HB8.out.trans (b9.mono HB8.out.size))
        clear b9 m1 m2
        go_wp2_with (at_builtin; refine push_law rfl (.tmp 49) (.tmp 51) rfl w.heap.size w9 (.slice A8 n c8) l s z rfl rfl HO9.out (by rw [HL.out]; omega) HB9.out.size ?_; intro v' w10 hown10 b10; obtain ⟨A10, c10, rfl, hc10⟩ := own_slice hown10)
        have HE10 : Hid (EnsAt w10 w10.heap.size A10 (l.length + 1) (l ++ [⟨s, z⟩])) := by
          show EnsAt _ _ _ _ _
          have := EnsAt.of_own hown10 rfl HFT.out
          rw [List.length_append] at this
          exact this
        have HB10 := Lib.hid (HB9.out.trans b10)
        clear b10 hown10
        refine (of_any A10 _ c10 w10.heap.size (l ++ [⟨s, z⟩]) w10 HE10.out (Nat.le_refl _) (by rw [HL.out]; omega)).mono ?_
        rintro e w11 ⟨v11, rfl, ho11, b11⟩
        have hfin : RetAdd w (addR l s z) (.returned (.tuple #[v11, .int .i64 0])) w11 := by
          rw [HR.out]
          exact ⟨v11, rfl, own_base ho11 HB10.out.size, HB10.out.trans (b11.mono HB10.out.size)⟩
        have HF := Lib.hid hfin
        clear hfin ho11 b11
        go_wp2
        go_ret2
        exact HF.out
      · have HI := Lib.hid (HIF.out A8 c8 w8 HE9.out)
        rw [hi] at HI
        have HR := Lib.hid (HSET.out k hi)
        have hkn : k < n := by rw [← HL.out]; exact hk
        clear hi
        go_wp2_with fail
        refine HI.out.mono ?_
        rintro e w9 ⟨rfl, b9⟩
        have k1 := bcell b9 m1 hq8
        have k2 := bcell b9 m2 hq8
        have HO9 := Lib.hid (own_below HO8.out b9 (Nat.le_refl _))
        have HB9 := Lib.hid (HB8.out.trans (b9.mono HB8.out.size))
        clear b9 m1 m2
        rw [← HL.out] at HO9
        obtain ⟨g, cap, e9, hbg, hgl, g1, g2, f1, f2⟩ := own_at HO9.out hk
        rw [HL.out] at e9 HO9
        obtain ⟨rfl, rfl⟩ : A8 = some ⟨g, 0, none⟩ ∧ c8 = cap := by injection e9 with a b c; exact ⟨a, c⟩
        have HO10 : Hid (((w9.setCell ⟨g, k * 2, none⟩ (.string s)).setCell ⟨g, k * 2 + 1, none⟩ (.int .i64 z)).ownsRow w.heap.size 43 2 (.slice (some ⟨g, 0, none⟩) n c8) l.length (ensCells (l.set k ⟨s, z⟩))) := by
          have := own_set (w := w9) (base := w.heap.size) (g := g) (cap := c8) (l := l) (by rw [HL.out]; exact HO9.out) (k := k) hk ⟨s, z⟩
          rw [HL.out] at this ⊢
          exact this
        have HB10 : Hid (Below w.heap.size w ((w9.setCell ⟨g, k * 2, none⟩ (.string s)).setCell ⟨g, k * 2 + 1, none⟩ (.int .i64 z))) := (HB9.out.setCell hbg _).setCell hbg _
        have hfin : RetAdd w (addR l s z) (.returned (.tuple #[.slice (some ⟨g, 0, none⟩) n c8, .int .i64 0])) ((w9.setCell ⟨g, k * 2, none⟩ (.string s)).setCell ⟨g, k * 2 + 1, none⟩ (.int .i64 z)) := by
          rw [HR.out]
          exact ⟨_, rfl, by rw [List.length_set]; exact HO10.out, HB10.out⟩
        have HF := Lib.hid hfin
        have x1 : (0 : Int) ≤ (k : Int) := by omega
        have x2 : (k : Int) < (n : Int) := by omega
        clear hfin e9
        go_wp2
        go_ret2
        exact HF.out
    · have HR := Lib.hid (addR_12 H01.out HRS.out h3 h4)
      have d3 : decide (0 ≤ placeR l s) = false := by simp; omega
      have HEQ : Hid ((liveR l).length = 160) := by show _ = _; omega
      clear h3 h4 hcnt hlv
      generalize placeR l s = p at *
      go_enter Try.func19, Try.ntmps19
      go_wp2_with fail
      refine HRT.out.mono ?_
      rintro e w1 ⟨rfl, b1⟩
      have HB1 := Lib.hid b1
      clear b1
      go_wp2_with fail
      refine (HND.out _).mono ?_
      rintro e w2 ⟨rfl, rfl⟩
      go_wp2_with fail
      refine (HRN.out _).mono ?_
      rintro e w3 ⟨rfl, b3⟩
      have HB3 := Lib.hid (HB1.out.trans (b3.mono HB1.out.size))
      clear b3
      go_wp2_with fail
      refine (HPL.out _ (HA.out.below HB3.out hB) (Nat.le_trans hB HB3.out.size)).mono ?_
      rintro e w4 ⟨rfl, b4⟩
      have HB4 := Lib.hid (HB3.out.trans (b4.mono HB3.out.size))
      clear b4
      go_wp2_with fail
      refine (HLV.out _ (HA.out.below HB4.out hB) (Nat.le_trans hB HB4.out.size)).mono ?_
      rintro e w5 ⟨v5, rfl, ho5, b5⟩
      have HB5 := Lib.hid (HB4.out.trans (b5.mono HB4.out.size))
      rw [HEQ.out] at ho5
      obtain ⟨A5, c5, rfl, hc5⟩ := own_slice ho5
      clear b5 ho5
      go_wp2
      go_ret2
      exact RetAdd.err HR.out HB5.out
  · have HR := Lib.hid (addR_6 H01.out HRS.out h3)
    have d3 : decide (0 ≤ placeR l s) = true := by simp; omega
    clear h3 hcnt hlv
    generalize placeR l s = p at *
    go_enter Try.func19, Try.ntmps19
    go_wp2_with fail
    refine HRT.out.mono ?_
    rintro e w1 ⟨rfl, b1⟩
    have HB1 := Lib.hid b1
    clear b1
    go_wp2_with fail
    refine (HND.out _).mono ?_
    rintro e w2 ⟨rfl, rfl⟩
    go_wp2_with fail
    refine (HRN.out _).mono ?_
    rintro e w3 ⟨rfl, b3⟩
    have HB3 := Lib.hid (HB1.out.trans (b3.mono HB1.out.size))
    clear b3
    go_wp2_with fail
    refine (HPL.out _ (HA.out.below HB3.out hB) (Nat.le_trans hB HB3.out.size)).mono ?_
    rintro e w4 ⟨rfl, b4⟩
    have HB4 := Lib.hid (HB3.out.trans (b4.mono HB3.out.size))
    clear b4
    go_wp2
    go_ret2
    exact RetAdd.err HR.out HB4.out

theorem dropR_1 {l : List En} {s : ByteArray} (h : rightR l = false) : dropR l s = ([], 0, 1) := by unfold dropR; rw [if_neg (by rw [h]; decide)]
theorem dropR_5 {l : List En} {s : ByteArray} (h : rightR l = true) (h1 : placeR l s < 0) : dropR l s = ([], 0, 5) := by unfold dropR; rw [if_pos h, if_pos h1]
theorem dropR_0 {l : List En} {s : ByteArray} (h : rightR l = true) {k : Nat} (h1 : placeR l s = k) : dropR l s = (l.set k En.z, (l.getD k En.z).nd, 0) := by unfold dropR; rw [if_pos h, if_neg (by omega), h1]; rfl

set_option maxHeartbeats 8000000 in
theorem drop_any (A : Option Addr) (n c B : Nat) (l : List En) (s : ByteArray) (w : World) (hA : EnsAt w B A n l) (hB : B ≤ w.heap.size) (hn : n ≤ 40000) :
    Calls Try.prog 21 #[.slice A n c, .string s] w (RetDrop w (dropR l s)) := by
  have HL := Lib.hid hA.len
  have HA := Lib.hid hA
  have HRT := Lib.hid (rightE_any A n c B l w hA hB (by omega))
  clear hA
  cases h0 : rightR l with
  | false =>
    have HR := Lib.hid (dropR_1 (s := s) h0)
    rw [h0] at HRT
    clear h0
    go_enter Try.func21, Try.ntmps21
    go_wp2_with fail
    refine HRT.out.mono ?_
    rintro e w1 ⟨rfl, b1⟩
    go_wp2
    go_ret3
    exact RetDrop.err HR.out b1
  | true =>
  rw [h0] at HRT
  have H0 := Lib.hid h0
  clear h0
  have HPL := Lib.hid (fun W (h : EnsAt W B A n l) (hB : B ≤ W.heap.size) => place_any A n c B l s W h hB (by omega))
  by_cases h3 : placeR l s < 0
  · have HR := Lib.hid (dropR_5 H0.out h3)
    have d3 : decide (placeR l s < 0) = true := by simpa using h3
    clear h3
    generalize placeR l s = p at *
    go_enter Try.func21, Try.ntmps21
    go_wp2_with fail
    refine HRT.out.mono ?_
    rintro e w1 ⟨rfl, b1⟩
    have HB1 := Lib.hid b1
    clear b1
    go_wp2_with fail
    refine (HPL.out _ (HA.out.below HB1.out hB) (Nat.le_trans hB HB1.out.size)).mono ?_
    rintro e w4 ⟨rfl, b4⟩
    have HB4 := Lib.hid (HB1.out.trans (b4.mono HB1.out.size))
    clear b4
    go_wp2
    go_ret3
    exact RetDrop.err HR.out HB4.out
  · obtain ⟨k, hk, hpk, -⟩ := place_pos h3
    have HR := Lib.hid (dropR_0 H0.out hpk)
    have HCE := Lib.hid (fun W (h : EnsAt W B A n l) (hB : B ≤ W.heap.size) => cloneE_any A n c B l W h hB (by omega))
    have hkn : k < n := by rw [← HL.out]; exact hk
    have HFITS := Lib.hid HA.out.2.1
    rw [hpk] at HPL
    clear h3 hpk
    obtain ⟨b, o, rfl, hbB, a1, a2⟩ := HA.out.at_ hkn
    have HC2 := Lib.hid a2
    clear a1 a2
    have x1 : (0 : Int) ≤ (k : Int) := by omega
    have x2 : (k : Int) < (n : Int) := by omega
    go_enter Try.func21, Try.ntmps21
    go_wp2_with fail
    refine HRT.out.mono ?_
    rintro e w1 ⟨rfl, b1⟩
    have HB1 := Lib.hid b1
    clear b1
    go_wp2_with fail
    refine (HPL.out _ (HA.out.below HB1.out hB) (Nat.le_trans hB HB1.out.size)).mono ?_
    rintro e w4 ⟨rfl, b4⟩
    have HB4 := Lib.hid (HB1.out.trans (b4.mono HB1.out.size))
    clear b4
    go_wp2_with fail
    refine (HCE.out _ (HA.out.below HB4.out hB) (Nat.le_trans hB HB4.out.size)).mono ?_
    rintro e w8 ⟨v8, rfl, ho8, b8⟩
    have HB8 := Lib.hid (HB4.out.trans (b8.mono HB4.out.size))
    obtain ⟨g, cap, e9, hbg0, hgl, g1, g2, f1, f2⟩ := own_at ho8 hk
    subst e9
    have hbg : w.heap.size ≤ g := Nat.le_trans HB4.out.size hbg0
    have HO10 : Hid (((w8.setCell ⟨g, k * 2, none⟩ (.string ⟨#[]⟩)).setCell ⟨g, k * 2 + 1, none⟩ (.int .i64 0)).ownsRow w.heap.size 43 2 (.slice (some ⟨g, 0, none⟩) l.length cap) l.length (ensCells (l.set k En.z))) :=
      own_base (own_set ho8 hk En.z) HB4.out.size
    have HB10 : Hid (Below w.heap.size w ((w8.setCell ⟨g, k * 2, none⟩ (.string ⟨#[]⟩)).setCell ⟨g, k * 2 + 1, none⟩ (.int .i64 0))) := (HB8.out.setCell hbg _).setCell hbg _
    have a2 : ((w8.setCell ⟨g, k * 2, none⟩ (.string ⟨#[]⟩)).setCell ⟨g, k * 2 + 1, none⟩ (.int .i64 0)).cell? ⟨b, o + k * 2 + 1, none⟩ = some (.int .i64 (l.getD k En.z).nd) := bcell HB10.out HC2.out (by show b < _; omega)
    rw [HL.out] at HO10
    have HFIN : Hid (∀ m, RetDrop w (dropR l s) (.returned (.tuple #[.slice (some ⟨g, 0, none⟩) n cap, .int .i64 (l.getD k En.z).nd, .int .i64 0])) (((w8.setCell ⟨g, k * 2, none⟩ (.string ⟨#[]⟩)).setCell ⟨g, k * 2 + 1, none⟩ (.int .i64 0)).drewN m)) := by
      intro m
      rw [HR.out]
      refine ⟨_, rfl, ?_, Below.drews HB10.out ⟨m, rfl⟩⟩
      rw [List.length_set, HL.out]
      exact HO10.out
    rw [HL.out]
    clear ho8 b8 hgl hbg0 HO10 HB10 HB8
    generalize (l.getD k En.z).nd = zz at *
    go_upto_region 8 with fail
    generalize (w8.setCell ⟨g, k * 2, none⟩ (.string ⟨#[]⟩)).setCell ⟨g, k * 2 + 1, none⟩ (.int .i64 0) = W9 at *
    go_quiet (fail)
    go_wp2
    go_ret3
    exact HFIN.out _
end Go.Proofs.Ytmmjpdggneagdaa
