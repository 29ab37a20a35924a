/-
  PROVED: 'wainwrightlaw03.MarksTaken' returns true for every input (a string and an array of three ints), and its arguments read afterwards as before. Conditions: none beside those that the row itself says (the form's own reach).
-/
import Derived.Test.YtcoahdifjkmelaaFrame
namespace Go.Proofs.Ytcoahdifjkmelaa.marksTaken
open Go.ChangeShapes Go.WideShapes Go.ChangeAt Go.RowKit
open Go.ChangeMaps (open_string shut_string)
set_option linter.unusedVariables false

/-- The array of three ints lies in the block behind those of w, and nothing of w has turned. -/
structure Box (w v : World) (a b c : Int) : Prop where
  below : Below w.heap.size w v
  size : w.heap.size < v.heap.size
  c0 : v.cell? ⟨w.heap.size, 0, none⟩ = some (.int .i64 a)
  c1 : v.cell? ⟨w.heap.size, 1, none⟩ = some (.int .i64 b)
  c2 : v.cell? ⟨w.heap.size, 2, none⟩ = some (.int .i64 c)
theorem Box.drews {w v u : World} {a b c : Int} (h : Box w v a b c) (d : Drew v u) : Box w u a b c := by
  obtain ⟨n, rfl⟩ := d
  exact ⟨⟨h.below.os, h.below.tape, h.below.output, h.below.size, h.below.block⟩, h.size, h.c0, h.c1, h.c2⟩
theorem Box.next {w v u : World} {a b c : Int} (h : Box w v a b c) (d : Below v.heap.size v u) : Box w u a b c :=
  ⟨h.below.trans (d.mono h.below.size), Nat.lt_of_lt_of_le h.size d.size, (d.cell (p := ⟨w.heap.size, 0, none⟩) h.size).trans h.c0, (d.cell (p := ⟨w.heap.size, 1, none⟩) h.size).trans h.c1, (d.cell (p := ⟨w.heap.size, 2, none⟩) h.size).trans h.c2⟩
theorem Box.new (w : World) (a b c : Int) (T : TypeId) : Box w (w.alloc (.cells #[.int .i64 a, .int .i64 b, .int .i64 c] T)) a b c :=
  ⟨(Below.refl _ _).alloc (Nat.le_refl _) _, by simp, by simp, by simp, by simp⟩

/-- m with k bits from bit i on set. -/
def takeN (m : ByteArray) (i : Nat) : Nat → ByteArray
  | 0 => m
  | k + 1 => setN (takeN m i k) (i + k) true
theorem take_size (m : ByteArray) (i : Nat) : ∀ k, (takeN m i k).size = m.size
  | 0 => rfl
  | k + 1 => by rw [takeN, size_setN, take_size m i k]
theorem take_bit (m : ByteArray) (i t : Nat) : ∀ k, i + k ≤ 8 * m.size → bitN (takeN m i k) t = if i ≤ t ∧ t < i + k then true else bitN m t
  | 0, _ => by rw [takeN, if_neg (by omega)]
  | k + 1, h => by
    rw [takeN, bit_setN _ _ _ _ (by rw [take_size]; omega), take_bit m i t k (by omega)]
    by_cases e : t = i + k
    · rw [if_pos e, if_pos (by omega)]
    · rw [if_neg e]
      by_cases e2 : i ≤ t ∧ t < i + k
      · rw [if_pos e2, if_pos (by omega)]
      · rw [if_neg e2, if_neg (by omega)]
theorem take_cnt (m : ByteArray) (i n : Nat) : ∀ k, i + k ≤ 8 * m.size → i + k ≤ n → (∀ t, t < k → bitN m (i + t) = false) → cnt (takeN m i k) n = cnt m n + k
  | 0, _, _, _ => rfl
  | k + 1, h, hn, hb => by
    rw [takeN, cnt_set _ _ (by rw [take_size]; omega) (by rw [take_bit _ _ _ _ (by omega), if_neg (by omega)]; exact hb k (by omega)), take_cnt m i n k (by omega) (by omega) (fun t ht => hb t (by omega)), if_pos (by omega)]
    omega
theorem run_found {m : ByteArray} {a b : Int} {L i : Nat} (hL : 1 ≤ L) (h : runR m a b L = some i) : a ≤ i ∧ i + L ≤ endN m b ∧ ∀ t, t < L → bitN m (i + t) = false := by
  unfold runR at h
  rw [if_neg (by omega), Int.toNat_natCast] at h
  have := runGo_some m a.toNat L i hL _ 0 0 (by omega) (by omega) (by intro t _ h; omega) h
  exact ⟨by omega, by omega, this.2.2⟩
theorem run_after {m : ByteArray} {a b : Int} {L i j : Nat} (hL : 1 ≤ L) (h : runR m a b L = some i) (h' : runR (takeN m i L) a b L = some j) : i < j := by
  have hf := run_found hL h
  have he : endN m b ≤ 8 * m.size := endN_le m b
  have hf' := run_found hL h'
  have hz : ∀ t, t < L → bitN m (j + t) = false := by
    intro t ht
    have := hf'.2.2 t ht
    rw [take_bit _ _ _ _ (by omega)] at this
    split at this
    · cases this
    · exact this
  have hne : i ≠ j := by
    rintro rfl
    have := hf'.2.2 0 (by omega)
    rw [take_bit _ _ _ _ (by omega), if_pos (by omega)] at this
    cases this
  unfold runR at h
  rw [if_neg (by omega), Int.toNat_natCast] at h
  have := runGo_least m a.toNat L i j hz _ 0 0 (by omega) (by omega) (by omega) h
  omega
theorem run_none {m : ByteArray} {a b c : Int} (h : runR m a b c = none) (ha : a ≤ 0) (hc : 1 ≤ c) : ((lonR m b).2 : Int) < c := by
  unfold runR at h
  rw [if_neg (by omega), show a.toNat = 0 by omega, Nat.sub_zero] at h
  have := lon_lt m c.toNat (endN m b) 0 0 0 0 (by omega) (by omega) h
  unfold lonR
  omega
theorem cnt_found {m : ByteArray} {a b : Int} {L i : Nat} (hm : m.size ≤ 60) (hL : 1 ≤ L) (h : runR m a b L = some i) : cntR (takeN m i L) b = cntR m b + L := by
  have hf := run_found hL h
  have he : endN m b ≤ 8 * m.size := endN_le m b
  have he2 : endN m b ≤ b.toNat := by unfold endN; omega
  unfold cntR
  rw [take_cnt m i _ L (by omega) (by omega) hf.2.2]
  omega
theorem count_is (v : Int) (m : ByteArray) (n : Int) (w : World) (hm : m.size ≤ 1000000000000000) (hn : -9223372036854775808 ≤ n ∧ n ≤ 9223372036854775807) (h : cntR m n = v) :
    Calls Try.prog 12 #[.string m, .int .i64 n] w fun e w' => e = .returned (.int .i64 v) ∧ Drew w w' := by rw [← h]; exact count_any m n w hm hn
theorem quiet_drew {P : Program} {f : FuncId} {args : Array Value} {w : World} {n : Nat} {v : Value}
    (h : Calls P f args (w.drewN n) fun e w' => e = .returned v ∧ Drew (w.drewN n) w') : Calls P f args (w.drewN n) fun e w'' => e = .returned v ∧ ∃ m, w'' = w.drewN m :=
  h.mono fun _ _ ⟨he, m, hm⟩ => ⟨he, n + m, by rw [hm, World.drewN_drewN]⟩
theorem cntR_bd (m : ByteArray) (n : Int) : 0 ≤ cntR m n ∧ cntR m n ≤ 100000 := by
  unfold cntR
  have := cnt_le m (min n 100000).toNat
  omega

set_option maxRecDepth 100000 in
set_option maxHeartbeats 2000000 in
theorem walk (s : ByteArray) (a b c : Int) (w : World) (hs : s.size ≤ 140737488355328) (hn : (-9223372036854775808 ≤ a ∧ a ≤ 9223372036854775807) ∧ (-9223372036854775808 ≤ b ∧ b ≤ 9223372036854775807) ∧ (-9223372036854775808 ≤ c ∧ c ≤ 9223372036854775807)) :
    Calls Try.prog 5 #[.string s, .agg #[.int .i64 a, .int .i64 b, .int .i64 c]] w fun e w' => e = .returned (.bool true) ∧ Below w.heap.size w w' := by
  have hm := early_size s
  have HE := Lib.hid (fun w' => early_any s w' (by omega))
  generalize earlyS s = m at *
  obtain ⟨ha, hb, hc⟩ := hn
  cases hr : runR m a b c with
  | none =>
    have HN := Lib.hid (run_none hr)
    have HR := Lib.hid hr
    clear hr
    go_enter Try.func5, Try.ntmps5
    go_wp2_with fail
    have B0 := Box.new w a b c 28
    refine (lives_any _).mono ?_
    rintro e w1 ⟨rfl, d1⟩
    have B1 := B0.drews d1
    clear d1 B0
    go_wp2_with fail
    refine (HE.out w1).mono ?_
    rintro e w2 ⟨rfl, rfl⟩
    have c0 := B1.c0
    have c1 := B1.c1
    have c2 := B1.c2
    go_wp2_with fail
    refine (run_any m a b c w1 (by omega) ha hb hc).mono ?_
    rintro e w2 ⟨rfl, d2⟩
    have B2 := B1.drews d2
    rw [HR.out]
    simp only [runI, runB, Option.isSome]
    clear d2 B1 c0 c1 c2
    have c0 := B2.c0
    have c1 := B2.c1
    have c2 := B2.c2
    go_wp2_with fail
    refine (longest_any m b w2 (by omega) hb).mono ?_
    rintro e w3 ⟨rfl, d3⟩
    have B3 := B2.drews d3
    clear d3 B2 c0 c1 c2
    have hl := HN.out
    generalize (lonR m b).2 = l at *
    generalize (lonR m b).1 = l1 at *
    have c0 := B3.c0
    have c1 := B3.c1
    have c2 := B3.c2
    have HL := Lib.hid hl
    clear hl
    by_cases h1 : 0 < a
    · have k1 : decide (0 < a) = true := by simpa using h1
      go_wp2
      go_ret
      exact ⟨rfl, B3.below⟩
    · have k1 : decide (0 < a) = false := by simpa using h1
      by_cases h2 : c < 1
      · have k2 : decide (c < 1) = true := by simpa using h2
        go_wp2
        go_ret
        exact ⟨rfl, B3.below⟩
      · have k2 : decide (c < 1) = false := by simpa using h2
        have k3 : decide ((l : Int) < c) = true := by simp only [decide_eq_true_eq]; exact HL.out (by omega) (by omega)
        go_wp2
        go_ret
        exact ⟨rfl, B3.below⟩
  | some i =>
    have hL1 : 1 ≤ c := by
      unfold runR at hr
      split at hr
      · cases hr
      · omega
    obtain ⟨L, rfl⟩ : ∃ L : Nat, c = (L : Int) := ⟨c.toNat, by omega⟩
    have hL : 1 ≤ L := by omega
    have hf := run_found hL hr
    have he : endN m b ≤ 8 * m.size := endN_le m b
    have he2 : endN m b ≤ b.toNat := by unfold endN; omega
    have hb1 : (i : Int) + (L : Int) ≤ b := by omega
    have hi1 : i + L ≤ 8 * m.size := by omega
    have hai := hf.1
    have HZ := Lib.hid hf.2.2
    have HC := Lib.hid (cnt_found hm hL hr)
    have HA := Lib.hid (fun j => run_after (j := j) hL hr)
    have HR := Lib.hid hr
    clear hr hf he he2
    go_enter Try.func5, Try.ntmps5
    go_wp2_with fail
    have B0 := Box.new w a b L 28
    refine (lives_any _).mono ?_
    rintro e w1 ⟨rfl, d1⟩
    have B1 := B0.drews d1
    clear d1 B0
    go_wp2_with fail
    refine (HE.out w1).mono ?_
    rintro e w2 ⟨rfl, rfl⟩
    have c0 := B1.c0
    have c1 := B1.c1
    have c2 := B1.c2
    go_wp2_with fail
    refine (run_any m a b L w1 (by omega) ha hb hc).mono ?_
    rintro e w2 ⟨rfl, d2⟩
    have B2 := B1.drews d2
    rw [HR.out]
    simp only [runI, runB, Option.isSome]
    clear d2 B1 c0 c1 c2
    have c0 := B2.c0
    have c1 := B2.c1
    have c2 := B2.c2
    have k1 : decide ((i : Int) < a) = false := by simp; omega
    have k2 : decide (b < (i : Int) + (L : Int)) = false := by simp; omega
    go_wp2
    clear k1 k2 c0 c1 c2
    have hcb := cntR_bd m b
    go_loopw [9, 10] (fun x k wr => ∃ t : Nat, t ≤ L ∧ k = .int .i64 (t : Int) ∧ x = .string (takeN m i t) ∧ Box w wr a b L) (fun _ k _ => L - (intOf k).toNat)
    case atStart => exact ⟨0, by omega, rfl, rfl, B2⟩
    case round =>
      obtain ⟨t, ht, rfl, rfl, B⟩ := hrel
      clear B2
      have c0 := B.c0
      have c1 := B.c1
      have c2 := B.c2
      have HS := Lib.hid (take_size m i t)
      by_cases hlt : t < L
      · have h2 : decide (t < L) = true := by simpa using hlt
        have h2' : decide ((t : Int) < (L : Int)) = true := by simpa using hlt
        have HB : Hid (bitN (takeN m i t) (i + t) = false) := by show _ = _; rw [take_bit _ _ _ _ (by omega), if_neg (by omega)]; exact HZ.out t hlt
        have HT : Hid (setR (takeN m i t) ((i + t : Nat) : Int) true = takeN m i (t + 1)) := by show _ = _; rw [setR_nat]; rfl
        have HI := Lib.hid (fun W => is_nat false (takeN m i t) (i + t) W (by rw [HS.out]; omega) (by omega) HB.out)
        have HW := Lib.hid (fun W => set_any (takeN m i t) ((i + t : Nat) : Int) true W (by rw [HS.out]; omega) (by omega))
        rw [HT.out] at HW
        have hFk : ((i + t : Nat) : Int) = (i : Int) + (t : Int) := by omega
        rw [hFk] at HI HW
        clear hFk HB HT
        generalize takeN m i t = x at *
        go_wp2_with fail
        refine (HI.out wr).mono ?_
        rintro e w3 ⟨rfl, d3⟩
        have B3 := B.drews d3
        clear d3 B c0 c1 c2
        go_wp2_with fail
        refine (HW.out w3).mono ?_
        rintro e w4 ⟨rfl, b4⟩
        have B4 := B3.next b4
        clear b4 B3
        go_wp2
        go_roundw
        case rel => exact ⟨t + 1, by omega, by go_num, rfl, B4⟩
        case measure => simp [intOf]; omega
      · have h2 : decide (t < L) = false := by simpa using hlt
        obtain rfl : L = t := by omega
        have HQ := Lib.hid (HA.out)
        have HRX := Lib.hid (fun W => run_any (takeN m i L) a b L W (by rw [HS.out]; omega) ha hb hc)
        generalize hxx : takeN m i L = x at *
        clear hxx
        go_wp2_with fail
        refine (HRX.out wr).mono ?_
        rintro e w3 ⟨rfl, d3⟩
        have B3 := B.drews d3
        clear d3 B c0 c1 c2
        have c0 := B3.c0
        have c1 := B3.c1
        have c2 := B3.c2
        have hsm := HS.out
        have HCX := Lib.hid (fun W => count_is (cntR m b + L) x b W (by rw [HS.out]; omega) hb HC.out)
        have HCM := Lib.hid (fun W => count_is (cntR m b) m b W (by omega) hb rfl)
        clear hsm
        generalize cntR m b = C at *
        have hw : IntKind.i64.wrap (C + (L : Int)) = C + (L : Int) := IntWalk.i64_in _ (by omega)
        have hqq : ((C + (L : Int)) == (C + (L : Int))) = true := by simp
        cases hj : runR x a b L with
        | none =>
          simp only [runI, runB, Option.isSome]
          go_wp2
          go_quiet ((go_at_call 12; first | with_reducible exact quiet_drew (HCX.out _) | with_reducible exact quiet_drew (HCM.out _)))
          go_wp2
          go_ret
          exact ⟨rfl, (B3.drews ⟨_, rfl⟩).below⟩
        | some j =>
          have hij := HQ.out j hj
          have HJ := Lib.hid hj
          clear hj
          simp only [runI, runB, Option.isSome]
          have k5 : decide (i < j) = true := by simpa using hij
          have k6 : decide ((i : Int) < (j : Int)) = true := by simpa using hij
          go_wp2
          go_quiet ((go_at_call 12; first | with_reducible exact quiet_drew (HCX.out _) | with_reducible exact quiet_drew (HCM.out _)))
          go_wp2
          go_ret
          exact ⟨rfl, (B3.drews ⟨_, rfl⟩).below⟩

set_option maxRecDepth 100000 in
theorem lifted (os : Os) (started : os.Started) (H : Type) (enc : TypeId × Value → H) :
    ReturnsInHanded {} Try.checked os 5 .any (Rows.marksTakenSpec.pre6 enc Try.prog Try.f5 Rows.marksTakenRow.domain false) (Rows.marksTakenSpec.post enc Try.prog Try.f5 false true false false) := by
  refine returnsInHanded_of_change_sized (C := Try.checked) own started (by kernel_rfl) Try.func5
    (ChangeSpec.witness6 (enc := enc) (C := Try.checked) false ⟨#[], #[.string ByteArray.empty, .agg #[.int .i64 0, .int .i64 0, .int .i64 0]], []⟩ 8 (by kernel_rfl) (by kernel_rfl) (by kernel_rfl) (by kernel_rfl)) ?_
  intro W base args ds gs before hval0 hW hcnd hsz0 _
  have hval : ∀ (j : Nat) t v, Try.f5.params[j]? = some t → args[j]? = some v → Value.okWide Try.prog W .any base t v := hval0
  have hsz : (DataW.weightsEach Try.prog (Try.f5.params.toList ++ Rows.marksTakenSpec.plain.varTypes Try.prog) (ds ++ gs)).all (· ≤ reachBytes) = true := hsz0
  have hW' := hW
  obtain ⟨p, q, hA0, hV, rfl, hfz, hnd⟩ := hW
  have hA : DataW.TrodAll enc Try.prog W 0 (fun _ => true) true Try.f5.params.toList args.toList ds p := hA0
  rw [Try.params5] at hA hval hsz
  obtain ⟨v0, vs0, d0, ds0, p0, q0, hargs, rfl, rfl, h0, r0⟩ := trodAll_cons hA
  obtain ⟨v1, vs1, d1, ds1, p1, q1, rfl, rfl, rfl, h1, r1⟩ := trodAll_cons r0
  obtain ⟨rfl, rfl, rfl⟩ := trodAll_nil r1
  obtain rfl : args = #[v0, v1] := by cases args; simp_all
  obtain ⟨rfl, rfl⟩ := trodVars_none hV
  obtain ⟨s0, rfl, rfl, rfl, hs0⟩ := open_string Try.underlying9 (hval 0 9 v0 rfl rfl) h0
  have b0 : s0.size ≤ 140737488355328 := by
    have := sized_string hsz (j := 0) (t := 9) rfl rfl
    rw [Array.length_toList] at this
    simp only [reachBytes] at this
    exact Nat.le_trans this (by decide)
  have lt1 : ∀ x ∈ p1, x.block < W.heap.size := by obtain ⟨m, hm⟩ := h1; exact DataW.trod_lt m _ _ _ hm
  obtain ⟨x1, y1, z1, rfl, w1⟩ := arr_open (hval 1 28 v1 rfl rfl) h1
  clear hA0 hval0
  refine (walk s0 x1 y1 z1 W b0 w1).mono fun e W' ⟨he, bel⟩ => ?_
  subst he
  exact ⟨_, rfl, _, _, _, [], _, [], hW', trodAll_mk1 (shut_bool Try.underlying4 _), (trodAll_cons_mk (shut_string Try.underlying9 hs0) (trodAll_cons_mk (Below.trod laidOut (by kernel_rfl) (of_decide_eq_true (by kernel_rfl)) h1 bel lt1) trodAll_mk0)), rfl, bel.frame _, fun h => by cases h⟩

theorem over : Rows.marksTakenRow.holds Try.pinned (OpenSpec.ofChange Rows.marksTakenSpec) :=
  OpenClaim.holds_of_wide 5 Try.f5 rfl rfl rfl rfl rfl rfl rfl ⟨rfl, rfl, rfl, rfl, rfl⟩ rfl rfl rfl rfl rfl (by kernel_rfl) Try.func5 (by kernel_rfl)
    (of_decide_eq_true (by kernel_rfl)) (by unfold Func.isWrapper; first | (rw [if_pos (by decide +kernel)]; kernel_rfl) | (rw [if_neg (by decide +kernel)]; exact ⟨rfl, rfl⟩))
    (fun os started H enc _ => lifted os started H enc)

end Go.Proofs.Ytcoahdifjkmelaa.marksTaken
namespace Go.Proofs.Ytcoahdifjkmelaa
theorem marksTaken_proved : Rows.MarksTakenSaid := marksTaken.over
#print axioms marksTaken_proved
end Go.Proofs.Ytcoahdifjkmelaa
