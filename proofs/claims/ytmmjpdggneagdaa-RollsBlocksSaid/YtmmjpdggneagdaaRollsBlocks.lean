/-
  PROVED: 'wainwrightlaw07.RollsBlocks' returns true for every input (a slice of entries, a slice of strings), and its arguments read afterwards as before. Conditions: none beside those that the row itself says (the form's own reach).
-/
import Derived.Test.YtmmjpdggneagdaaEFrame
import Derived.Test.YtmmjpdggneagdaaEWrite
import Derived.Test.YtmmjpdggneagdaaERefRead
namespace Go.Proofs.Ytmmjpdggneagdaa.rollsBlocks
open Go.ChangeShapes Go.WideShapes Go.ChangeAt Go.RowKit
open Go.ChangeMaps (open_string shut_string)
set_option linter.unusedVariables false

section
variable {H : Type} {enc : TypeId × Value → H} {W : World} {a : Option Addr} {len cap : Nat} {d : DataW H} {p : List MemPlace}
theorem strs_open (h : DataW.Trod enc Try.prog W 0 (fun _ => true) true 36 (.slice a len cap) d p) (hsz : ∀ n ∈ d.weights Try.prog 36, n ≤ reachBytes) : ∃ l : List ByteArray, StrsAt W W.heap.size a len l ∧ len ≤ cap := by
  obtain ⟨fuel, hf⟩ := h
  rcases Go.Deep.open_slice1 Try.underlying36 cells9 hf with ⟨hcs, _⟩ | ⟨a', len', cap', m, n, V, D, Pl, hcs, _, hl, hmx, hm, hd, hx⟩
  · simp [Value.cells] at hcs
    obtain ⟨rfl, rfl, rfl⟩ := hcs
    exact ⟨[], StrsAt.nil _ _ _, by omega⟩
  · simp [Value.cells] at hcs
    obtain ⟨rfl, rfl, rfl⟩ := hcs
    simp only [if_true] at hm
    obtain ⟨hd1, -⟩ := Prod.mk.inj hd
    have hspot : 0 < len → a'.spot = none := fun h0 => by
      obtain ⟨h1, _⟩ := hx 0 (by omega)
      simpa [Addr.add] using World.cell?_spot h1
    have each : ∀ k, k < len → ∃ s : ByteArray, s.size ≤ 140737488355328 ∧ ∃ b o, some a' = some ⟨b, o, none⟩ ∧ W.cell? ⟨b, o + k, none⟩ = some (.string s) := fun k hk => by
      obtain ⟨h1, h2⟩ := hx k (by omega)
      obtain ⟨s, e0, d0, _⟩ := DataW.trod_string Try.underlying9 h2
      obtain ⟨b, o, spot⟩ := a'
      have hs : spot = none := hspot (by omega)
      subst hs
      have hdk : (D k) = .lit (.string s.data.toList) := by injection d0
      have hle := hsz s.size (by
        rw [hd1]
        simp only [DataW.weights, Try.underlying36, List.mem_cons, List.mem_append]
        refine Or.inr (Or.inl (weights_all (List.mem_map.2 ⟨k, List.mem_range.2 hk, rfl⟩) ?_))
        rw [hdk]
        simp only [DataW.weights]
        rw [data_len]
        exact List.mem_singleton.2 rfl)
      refine ⟨s, Nat.le_trans hle (by decide), b, o, rfl, ?_⟩
      rw [add_plain] at h1
      simp at e0
      rw [h1, e0]
    obtain ⟨f, hf2⟩ := Go.Deep.choose_lt (α := ByteArray) each
    refine ⟨(List.range len).map f, ⟨by simp, ?_, fun k hk => ?_⟩, hl⟩
    · intro s hs
      obtain ⟨k, hk, rfl⟩ := List.mem_map.1 hs
      exact (hf2 k (List.mem_range.1 hk)).1
    · obtain ⟨_, b, o, e, h1⟩ := hf2 k hk
      have : ((List.range len).map f).getD k ⟨#[]⟩ = f k := by simp [List.getD, hk]
      rw [this]
      exact ⟨b, o, e, World.block_lt_of_cell? W _ h1, h1⟩
end

theorem writeB_len (l : List En) : (writeB l).1.length ≤ l.length / 8 := by
  unfold writeB; split
  · unfold blocksR; rw [blocksTo_len]; exact Nat.le_refl _
  · simp
theorem writeB_sz (l : List En) : ∀ s ∈ (writeB l).1, s.size ≤ 140737488355328 := by
  unfold writeB; split
  · rename_i h
    intro s hs
    unfold blocksR blocksTo at hs
    obtain ⟨i, hi, rfl⟩ := List.mem_map.1 hs
    have := List.mem_range.1 hi
    have hg := blk_good h (i := i) (by omega)
    unfold blkB at hg
    simp only [Bool.and_eq_true, decide_eq_true_eq] at hg
    omega
  · intro s hs; cases hs
theorem writeB_back (l : List En) (h : (writeB l).2 = 0) : readB (writeB l).1 = (l, 0) := by
  unfold writeB at h ⊢
  split at h
  · rename_i hr; rw [if_pos hr]; exact read_write hr
  · simp at h
theorem readB_len (bl : List ByteArray) : (readB bl).1.length ≤ 8 * bl.length := by
  unfold readB; split
  · rw [entsAll_len]; exact Nat.le_refl _
  · simp
theorem readB_fit (bl : List ByteArray) : ∀ e ∈ (readB bl).1, e.fit := by
  unfold readB; split
  · rename_i h
    refine ents_fit fun j hj => ?_
    have := List.all_eq_true.1 h.1 bl[j] (List.getElem_mem hj)
    simpa [List.getD, hj] using this
  · intro e he; cases he
theorem retW_strs {w w' : World} {r : List ByteArray × Int} {e : Ending} (h : RetW w r e w') (hf : ∀ s ∈ r.1, s.size ≤ 140737488355328) : ∃ A c, e = .returned (.tuple #[.slice A r.1.length c, .int .i64 r.2]) ∧ r.1.length ≤ c ∧ StrsAt w' w'.heap.size A r.1.length r.1 ∧ Below w.heap.size w w' := by
  obtain ⟨v, rfl, ho, hb⟩ := h
  obtain ⟨A, c, rfl, hc⟩ := own_slice ho
  exact ⟨A, c, rfl, hc, StrsAt.of_own ho rfl hf, hb⟩
theorem retR_ens {w w' : World} {r : List En × Int} {e : Ending} (h : RetR w r e w') (hf : ∀ s ∈ r.1, s.fit) : ∃ A c, e = .returned (.tuple #[.slice A r.1.length c, .int .i64 r.2]) ∧ r.1.length ≤ c ∧ EnsAt w' w'.heap.size A r.1.length r.1 ∧ Below w.heap.size w w' := by
  obtain ⟨v, rfl, ho, hb⟩ := h
  obtain ⟨A, c, rfl, hc⟩ := own_slice ho
  exact ⟨A, c, rfl, hc, EnsAt.of_own ho rfl hf, hb⟩

set_option maxRecDepth 100000 in
set_option maxHeartbeats 8000000 in
theorem walk (A : Option Addr) (n c : Nat) (l : List En) (A' : Option Addr) (n' c' : Nat) (bl : List ByteArray) (w : World) (h1 : EnsAt w w.heap.size A n l ∧ n ≤ c) (h2 : StrsAt w w.heap.size A' n' bl ∧ n' ≤ c') :
    Calls Try.prog 5 #[.slice A n c, .slice A' n' c'] w fun e w' => e = .returned (.bool true) ∧ Below w.heap.size w w' := by
  obtain ⟨hE, hnc⟩ := h1
  obtain ⟨hS, hnc'⟩ := h2
  have HE := Lib.hid hE
  have HS := Lib.hid hS
  clear hE hS
  go_enter Try.func5, Try.ntmps5
  go_wp2_with fail
  refine (lives_any w).mono ?_
  rintro e w1 ⟨rfl, b1⟩
  have HB1 := Lib.hid b1
  have HE1 := Lib.hid (HE.out.below b1 (Nat.le_refl _))
  have HS1 := Lib.hid (HS.out.below b1 (Nat.le_refl _))
  clear b1
  go_wp2_with fail
  refine (early_any A n c w1 hnc).mono ?_
  rintro e w2 ⟨rfl, rfl⟩
  obtain ⟨m, hm⟩ : ∃ m : Nat, m = min n 200 := ⟨_, rfl⟩
  have HEM := Lib.hid (HE1.out.take m (by omega))
  have hm2 : m ≤ 200 := by omega
  have hmc : m ≤ c := by omega
  rw [← hm]
  clear hm HE1
  obtain ⟨k, hk⟩ : ∃ k : Nat, min (n' : Int) 25 = (k : Int) := ⟨min n' 25, by omega⟩
  have hkn : k ≤ n' := by omega
  have hk25 : k ≤ 25 := by omega
  have HSM := Lib.hid (HS1.out.take k hkn)
  have y1 : (k : Int) ≤ (n' : Int) := by omega
  have y2 : (k : Int) ≤ (c' : Int) := by omega
  have y3 : k ≤ c' := by omega
  clear HS1 HE HS
  generalize l.take m = l2 at *
  generalize bl.take k = bk at *
  have HL := Lib.hid HEM.out.len
  have HK := Lib.hid HSM.out.len
  have hwl := writeB_len l2
  rw [HL.out] at hwl
  have hrl := readB_len bk
  rw [HK.out] at hrl
  have HWS := Lib.hid (writeB_sz l2)
  have HWB := Lib.hid (writeB_back l2)
  have HRF := Lib.hid (readB_fit bk)
  have HRB := Lib.hid (fun h => write_read_B (bl := bk) h)
  have KW := Lib.hid (fun W (h : Below w.heap.size w1 W) (hw : w.heap.size ≤ W.heap.size) => writeB_any A m c w.heap.size l2 W (HEM.out.below h (Nat.le_refl _)) hw (by omega) hmc)
  have KX := Lib.hid (fun W (h : Below w.heap.size w1 W) (hw : w.heap.size ≤ W.heap.size) => rwriteB_any A m c w.heap.size l2 W (HEM.out.below h (Nat.le_refl _)) hw (by omega))
  have KR := Lib.hid (fun W (h : Below w.heap.size w1 W) (hw : w.heap.size ≤ W.heap.size) => readB_any A' k c' w.heap.size bk W (HSM.out.below h (Nat.le_refl _)) hw (by omega))
  have KS := Lib.hid (fun W (h : Below w.heap.size w1 W) (hw : w.heap.size ≤ W.heap.size) => rreadB_any A' k c' w.heap.size bk W (HSM.out.below h (Nat.le_refl _)) hw (by omega))
  generalize writeB l2 = R at *
  generalize readB bk = D at *
  obtain ⟨P, ze⟩ := R
  obtain ⟨M, zg⟩ := D
  simp only at hwl hrl HWS HWB HRF HRB
  have HW1 := Lib.hid HB1.out.size
  go_wp2_with fail
  refine (KW.out w1 (Below.refl _ _) HW1.out).mono ?_
  intro e w3 hr3
  obtain ⟨A3, c3, rfl, -, hE3, b3⟩ := retW_strs hr3 HWS.out
  simp only at hE3 ⊢
  have HE3 := Lib.hid hE3
  have HB3 := Lib.hid (b3.mono HW1.out)
  have HW3 := Lib.hid (Nat.le_trans HW1.out b3.size)
  clear b3 hr3 hE3
  go_wp2_with fail
  refine (KX.out w3 HB3.out HW3.out).mono ?_
  intro e w4 hr4
  obtain ⟨A4, c4, rfl, -, hE4, b4⟩ := retW_strs hr4 HWS.out
  simp only at hE4 ⊢
  have HE4 := Lib.hid hE4
  have HB4 := Lib.hid (HB3.out.trans (b4.mono HW3.out))
  have HW4 := Lib.hid (Nat.le_trans HW3.out b4.size)
  have HU4 := Lib.hid b4
  clear b4 hr4 hE4
  go_wp2_with fail
  refine (KR.out w4 HB4.out HW4.out).mono ?_
  intro e w5 hr5
  obtain ⟨A5, c5, rfl, hc5, hE5, b5⟩ := retR_ens hr5 HRF.out
  simp only at hE5 hc5 ⊢
  have HE5 := Lib.hid hE5
  have HB5 := Lib.hid (HB4.out.trans (b5.mono HW4.out))
  have HW5 := Lib.hid (Nat.le_trans HW4.out b5.size)
  have HU5 := Lib.hid b5
  clear b5 hr5 hE5
  go_wp2_with fail
  refine (KS.out w5 HB5.out HW5.out).mono ?_
  intro e w6 hr6
  obtain ⟨A6, c6, rfl, -, hE6, b6⟩ := retR_ens hr6 HRF.out
  simp only at hE6 ⊢
  have HE6 := Lib.hid hE6
  have HB6 := Lib.hid (HB5.out.trans (b6.mono HW5.out))
  have HW6 := Lib.hid (Nat.le_trans HW5.out b6.size)
  have HU6 := Lib.hid b6
  clear b6 hr6 hE6
  have HA36 := Lib.hid (((HE3.out.below HU4.out (Nat.le_refl _)).below HU5.out HU4.out.size).below HU6.out (Nat.le_trans HU4.out.size HU5.out.size))
  have HA46 := Lib.hid ((HE4.out.below HU5.out (Nat.le_refl _)).below HU6.out HU5.out.size)
  have HA56 := Lib.hid (HE5.out.below HU6.out (Nat.le_refl _))
  have hs36 := Nat.le_trans HU4.out.size (Nat.le_trans HU5.out.size HU6.out.size)
  have hs56 := HU6.out.size
  have KY := Lib.hid (readB_any A3 P.length c3 _ P w6 HA36.out hs36 (by omega))
  have KZ := Lib.hid (fun W (h : Below w6.heap.size w6 W) => writeB_any A5 M.length c5 _ M W (HA56.out.below h hs56) (Nat.le_trans hs56 h.size) (by omega) hc5)
  have hxl := readB_len P
  have hyl := writeB_len M
  have HXF := Lib.hid (readB_fit P)
  have HYS := Lib.hid (writeB_sz M)
  generalize readB P = RX at *
  generalize writeB M = RY at *
  obtain ⟨X, zi⟩ := RX
  obtain ⟨Y, zj⟩ := RY
  simp only at hxl hyl HXF HYS HWB HRB
  go_wp2_with fail
  refine KY.out.mono ?_
  intro e w7 hr7
  obtain ⟨A7, c7, rfl, -, hE7, b7⟩ := retR_ens hr7 HXF.out
  simp only at hE7 ⊢
  have HE7 := Lib.hid hE7
  have HU7 := Lib.hid b7
  have HB7 := Lib.hid (HB6.out.trans (b7.mono HW6.out))
  have HW7 := Lib.hid (Nat.le_trans HW6.out b7.size)
  clear b7 hr7 hE7
  go_wp2_with fail
  refine (KZ.out w7 HU7.out).mono ?_
  intro e w8 hr8
  obtain ⟨A8, c8, rfl, -, hE8, b8⟩ := retW_strs hr8 HYS.out
  simp only at hE8 ⊢
  have HE8 := Lib.hid hE8
  have HB8 := Lib.hid (HB7.out.trans (b8.mono HW7.out))
  have HU8 := Lib.hid (HU7.out.trans (b8.mono HU7.out.size))
  have HE78 := Lib.hid (HE7.out.below b8 (Nat.le_refl _))
  clear b8 hr8 hE8
  have HA38 := Lib.hid (HA36.out.below HU8.out hs36)
  have HA48 := Lib.hid (HA46.out.below HU8.out (Nat.le_trans HU5.out.size HU6.out.size))
  have HA58 := Lib.hid (HA56.out.below HU8.out hs56)
  have HA68 := Lib.hid (HE6.out.below HU8.out (Nat.le_refl _))
  have HEM8 := Lib.hid (HEM.out.below HB8.out (Nat.le_refl _))
  have HSM8 := Lib.hid (HSM.out.below HB8.out (Nat.le_refl _))
  clear hs36 hs56 KY KZ KW KX KR KS
  have T1 := Lib.hid (fun W (d : Drew w8 W) => texts_any A3 A4 P.length c3 c4 _ _ P W (HA38.out.keep fun p _ => d.cells p) (HA48.out.keep fun p _ => d.cells p) (by omega))
  have T2 := Lib.hid (fun W (d : Drew w8 W) => same_any A5 A6 M.length c5 c6 _ _ M W (HA58.out.keep fun p _ => d.cells p) (HA68.out.keep fun p _ => d.cells p) (by omega))
  have T3 : Hid (X = l2 → ∀ W (d : Drew w8 W), Calls Try.prog 14 #[.slice A7 X.length c7, .slice A m c] W fun e w' => e = .returned (.bool true) ∧ Drew W w') := by
    intro hX W d
    have h7 := HE78.out
    rw [hX, HL.out] at h7
    rw [hX, HL.out]
    exact same_any A7 A m c7 c _ _ l2 W (h7.keep fun p _ => d.cells p) (HEM8.out.keep fun p _ => d.cells p) (by omega)
  have T4 : Hid (Y = bk → ∀ W (d : Drew w8 W), Calls Try.prog 27 #[.slice A8 Y.length c8, .slice A' k c'] W fun e w' => e = .returned (.bool true) ∧ Drew W w') := by
    intro hY W d
    have h8 := HE8.out
    rw [hY, HK.out] at h8
    rw [hY, HK.out]
    exact texts_any A8 A' k c8 c' _ _ bk W (h8.keep fun p _ => d.cells p) (HSM8.out.keep fun p _ => d.cells p) (by omega)
  have HBF : Hid (∀ W, Drew w8 W → Below w.heap.size w W) := fun W d => Below.drews (HB1.out.trans HB8.out) d
  have HCE : Hid (ze = 0 → X = l2 ∧ zi = 0) := fun h => by have := HWB.out h; injection this with a b; exact ⟨a, b⟩
  have HCG : Hid (zg = 0 → Y = bk ∧ zj = 0) := fun h => by have := HRB.out h; injection this with a b; exact ⟨a, b⟩
  clear HA38 HA48 HA58 HA68 HEM8 HSM8 HE8 HE78 HWB HRB hwl hrl hxl hyl hm2 hmc hkn hk25 y1 y2 y3 hk
  generalize X.length = nx at *
  generalize Y.length = ny at *
  generalize P.length = np at *
  generalize M.length = nm at *
  by_cases h0 : ze = 0
  · obtain ⟨hX, rfl⟩ := HCE.out h0
    subst h0
    have T3' := Lib.hid (T3.out hX)
    clear T3 HCE hX
    by_cases g0 : zg = 0
    · obtain ⟨hY, rfl⟩ := HCG.out g0
      subst g0
      have T4' := Lib.hid (T4.out hY)
      clear T4 HCG hY
      go_wp2_with fail
      refine (T1.out w8 (Drew.refl _)).mono ?_
      rintro e v1 ⟨rfl, e1⟩
      have D1 := Lib.hid e1
      clear e1
      go_wp2_with fail
      refine (T2.out _ D1.out).mono ?_
      rintro e v2 ⟨rfl, e2⟩
      have D2 := Lib.hid (D1.out.trans e2)
      clear e2
      go_wp2_with fail
      refine (T3'.out _ D2.out).mono ?_
      rintro e v3 ⟨rfl, e3⟩
      have D3 := Lib.hid (D2.out.trans e3)
      clear e3
      go_wp2_with fail
      refine (T4'.out _ D3.out).mono ?_
      rintro e v4 ⟨rfl, e4⟩
      have D4 := Lib.hid (D3.out.trans e4)
      clear e4
      go_wp2
      go_ret
      exact ⟨rfl, HBF.out _ D4.out⟩
    · have d1 : (zg == 0) = false := beq_eq_false_iff_ne.2 g0
      clear T4 HCG
      go_wp2_with fail
      refine (T1.out w8 (Drew.refl _)).mono ?_
      rintro e v1 ⟨rfl, e1⟩
      have D1 := Lib.hid e1
      clear e1
      go_wp2_with fail
      refine (T2.out _ D1.out).mono ?_
      rintro e v2 ⟨rfl, e2⟩
      have D2 := Lib.hid (D1.out.trans e2)
      clear e2
      go_wp2_with fail
      refine (T3'.out _ D2.out).mono ?_
      rintro e v3 ⟨rfl, e3⟩
      have D3 := Lib.hid (D2.out.trans e3)
      clear e3
      go_wp2
      go_ret
      exact ⟨rfl, HBF.out _ D3.out⟩
  · have d0 : (ze == 0) = false := beq_eq_false_iff_ne.2 h0
    clear T3 HCE
    by_cases g0 : zg = 0
    · obtain ⟨hY, rfl⟩ := HCG.out g0
      subst g0
      have T4' := Lib.hid (T4.out hY)
      clear T4 HCG hY
      go_wp2_with fail
      refine (T1.out w8 (Drew.refl _)).mono ?_
      rintro e v1 ⟨rfl, e1⟩
      have D1 := Lib.hid e1
      clear e1
      go_wp2_with fail
      refine (T2.out _ D1.out).mono ?_
      rintro e v2 ⟨rfl, e2⟩
      have D2 := Lib.hid (D1.out.trans e2)
      clear e2
      go_wp2_with fail
      refine (T4'.out _ D2.out).mono ?_
      rintro e v4 ⟨rfl, e4⟩
      have D4 := Lib.hid (D2.out.trans e4)
      clear e4
      go_wp2
      go_ret
      exact ⟨rfl, HBF.out _ D4.out⟩
    · have d1 : (zg == 0) = false := beq_eq_false_iff_ne.2 g0
      clear T4 HCG
      go_wp2_with fail
      refine (T1.out w8 (Drew.refl _)).mono ?_
      rintro e v1 ⟨rfl, e1⟩
      have D1 := Lib.hid e1
      clear e1
      go_wp2_with fail
      refine (T2.out _ D1.out).mono ?_
      rintro e v2 ⟨rfl, e2⟩
      have D2 := Lib.hid (D1.out.trans e2)
      clear e2
      go_wp2
      go_ret
      exact ⟨rfl, HBF.out _ D2.out⟩

set_option maxRecDepth 100000 in
theorem lifted (os : Os) (started : os.Started) (H : Type) (enc : TypeId × Value → H) :
    ReturnsInHanded {} Try.checked os 5 .any (Rows.rollsBlocksSpec.pre6 enc Try.prog Try.f5 Rows.rollsBlocksRow.domain false) (Rows.rollsBlocksSpec.post enc Try.prog Try.f5 false true false false) := by
  refine returnsInHanded_of_change_sized (C := Try.checked) own started (by kernel_rfl) Try.func5
    (ChangeSpec.witness6 (enc := enc) (C := Try.checked) false ⟨#[], #[.slice none 0 0, .slice none 0 0], []⟩ 8 (by kernel_rfl) (by kernel_rfl) (by kernel_rfl) (by kernel_rfl)) ?_
  intro W base args ds gs before hval0 hW hcnd hsz0 _
  have hval : ∀ (j : Nat) t v, Try.f5.params[j]? = some t → args[j]? = some v → Value.okWide Try.prog W .any base t v := hval0
  have hsz : (DataW.weightsEach Try.prog (Try.f5.params.toList ++ Rows.rollsBlocksSpec.plain.varTypes Try.prog) (ds ++ gs)).all (· ≤ reachBytes) = true := hsz0
  have hW' := hW
  obtain ⟨p, q, hA0, hV, rfl, hfz, hnd⟩ := hW
  have hA : DataW.TrodAll enc Try.prog W 0 (fun _ => true) true Try.f5.params.toList args.toList ds p := hA0
  rw [Try.params5] at hA hval hsz
  obtain ⟨v0, vs0, d0, ds0, p0, q0, hargs, rfl, rfl, h0, r0⟩ := trodAll_cons hA
  obtain ⟨v1, vs1, d1, ds1, p1, q1, rfl, rfl, rfl, h1, r1⟩ := trodAll_cons r0
  obtain ⟨rfl, rfl, rfl⟩ := trodAll_nil r1
  obtain rfl : args = #[v0, v1] := by cases args; simp_all
  obtain ⟨rfl, rfl⟩ := trodVars_none hV
  have lt0 : ∀ x ∈ p0, x.block < W.heap.size := by obtain ⟨m, hm⟩ := h0; exact DataW.trod_lt m _ _ _ hm
  obtain ⟨a0, len0, cap0, rfl⟩ := okWide_slice Try.underlying22 (hval 0 22 v0 rfl rfl)
  obtain ⟨l0, w0⟩ := ens_open h0 (fun n hn => by simpa using List.all_eq_true.1 hsz _ (DataW.weights_mem_each (j := 0) rfl rfl n hn))
  have lt1 : ∀ x ∈ p1, x.block < W.heap.size := by obtain ⟨m, hm⟩ := h1; exact DataW.trod_lt m _ _ _ hm
  obtain ⟨a1, len1, cap1, rfl⟩ := okWide_slice Try.underlying36 (hval 1 36 v1 rfl rfl)
  obtain ⟨l1, w1⟩ := strs_open h1 (fun n hn => by simpa using List.all_eq_true.1 hsz _ (DataW.weights_mem_each (j := 1) rfl rfl n hn))
  clear hA0 hval0
  refine (walk a0 len0 cap0 l0 a1 len1 cap1 l1 W w0 w1).mono fun e W' ⟨he, bel⟩ => ?_
  subst he
  exact ⟨_, rfl, _, _, _, [], _, [], hW', trodAll_mk1 (shut_bool Try.underlying4 _), (trodAll_cons_mk (Below.trod laidOut (by kernel_rfl) (of_decide_eq_true (by kernel_rfl)) h0 bel lt0) (trodAll_cons_mk (Below.trod laidOut (by kernel_rfl) (of_decide_eq_true (by kernel_rfl)) h1 bel lt1) trodAll_mk0)), rfl, bel.frame _, fun h => by cases h⟩

theorem over : Rows.rollsBlocksRow.holds Try.pinned (OpenSpec.ofChange Rows.rollsBlocksSpec) :=
  OpenClaim.holds_of_wide 5 Try.f5 rfl rfl rfl rfl rfl rfl rfl ⟨rfl, rfl, rfl, rfl, rfl⟩ rfl rfl rfl rfl rfl (by kernel_rfl) Try.func5 (by kernel_rfl)
    (of_decide_eq_true (by kernel_rfl)) (by unfold Func.isWrapper; first | (rw [if_pos (by decide +kernel)]; kernel_rfl) | (rw [if_neg (by decide +kernel)]; exact ⟨rfl, rfl⟩))
    (fun os started H enc _ => lifted os started H enc)

end Go.Proofs.Ytmmjpdggneagdaa.rollsBlocks
namespace Go.Proofs.Ytmmjpdggneagdaa
theorem rollsBlocks_proved : Rows.RollsBlocksSaid := rollsBlocks.over
#print axioms rollsBlocks_proved
end Go.Proofs.Ytmmjpdggneagdaa
