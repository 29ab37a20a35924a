/-
  WALKS: the reference's Right and Calls. Condition: at most 100000000 changes.
-/
import Derived.Test.YtpljifeebbeakaaLLog
namespace Go.Proofs.Ytpljifeebbeakaa
open Go.RowKit

theorem take_contains {l : List Int} {i : Nat} (hi : i ≤ l.length) (y : Int) : (l.take i).contains y = false ↔ ∀ j, j < i → l.getD j 0 ≠ y := by
  induction i with
  | zero => simp
  | succ i ih =>
    rw [contains_take (by omega), Bool.or_eq_false_iff, ih (by omega)]
    constructor
    · rintro ⟨h1, h2⟩ j hj
      by_cases e : j = i
      · subst e; intro e2; rw [e2] at h2; simp at h2
      · exact h1 j (by omega)
    · intro h
      refine ⟨fun j hj => h j (by omega), ?_⟩
      have := h i (by omega)
      simpa using fun e => this e.symm

set_option maxRecDepth 100000 in
set_option maxHeartbeats 4000000 in
theorem rright_any (A : Option Addr) (n c B N : Nat) (l : List Ch) (w : World) (hA : ChsAt w B A n l) (hB : B ≤ w.heap.size) (hn : n ≤ 100000000) :
    Calls Try.prog 15 #[.slice A n c, .int .i64 N] w fun e w' => e = .returned (.int .i64 (rightC l N)) ∧ Below w.heap.size w w' := by
  have hln := hA.len
  by_cases h40 : 40 < n
  · have HR := Lib.hid (rightC_big (l := l) (N := N) (by omega))
    have hg : decide ((40 : Int) < (n : Int)) = true := by simp; omega
    generalize rightC l N = rr at *
    clear hA
    go_enter Try.func15, Try.ntmps15
    go_wp2
    go_ret
    exact ⟨by rw [HR.out]; rfl, Below.refl _ _⟩
  · have hg : decide ((40 : Int) < (n : Int)) = false := by simp; omega
    have HA := Lib.hid hA
    have HLL := Lib.hid hln
    have HRO : Hid (okL N l = true → rightC l N = 0) := rightC_ok (by omega)
    have HRN : Hid (okL N l = false → rightC l N = 1) := rightC_no (by omega)
    have HNO : Hid (∀ k, k < n → okC N l k = false → okL N l = false) := fun k hk h => okL_no (by omega) h
    have HYES : Hid ((∀ k, k < n → okC N l k = true) → okL N l = true) := fun h => okL_t.2 fun k hk => h k (by omega)
    have HIFF : Hid (∀ k, k < n → (okC N l k = true ↔ (0 ≤ (l.getD k Ch.z).bk ∧ (l.getD k Ch.z).bk < (N : Int) ∧ ownB (l.getD k Ch.z).bk = false ∧ (l.getD k Ch.z).dt.size = 128 ∧ ∀ j, j < k → (l.getD j Ch.z).bk ≠ (l.getD k Ch.z).bk))) := fun k hk => by
      rw [okC_t, okAt_t, take_contains (by rw [bks_len]; omega), ownB_f]
      simp only [bks_get]
      constructor
      · rintro ⟨⟨a, b, c, d⟩, e⟩; exact ⟨a, b, c, e, d⟩
      · rintro ⟨a, b, c, e, d⟩; exact ⟨⟨a, b, c, d⟩, e⟩
    generalize rightC l N = rr at *
    generalize okL N l = ok at *
    clear hA hln
    go_enter Try.func15, Try.ntmps15
    go_wp2
    go_loopw [5, 6] (fun i _ wr => ∃ k : Nat, k ≤ n ∧ i = .int .i64 (k : Int) ∧ (∀ j, j < k → okC N l j = true) ∧ Below w.heap.size w wr) (fun i _ _ => n - (intOf i).toNat)
    case atStart => exact ⟨0, by omega, rfl, fun i hi => by omega, Below.refl _ _⟩
    case round =>
      obtain ⟨k, hk, rfl, hok, hb⟩ := hrel
      have HOK := Lib.hid hok
      have HB := Lib.hid hb
      by_cases h1 : k < n
      · have hlt : (k : Int) < (n : Int) := by omega
        have x0 : (0 : Int) ≤ (k : Int) := by omega
        have HI := Lib.hid (HIFF.out k h1)
        have HF : Hid (¬ okC N l k = true → rr = 1) := fun h => HRN.out (HNO.out k h1 (by simpa using h))
        obtain ⟨b, o, rfl, hbB, d0, d1⟩ := HA.out.at_ h1
        have d0' := bcell hb d0 (by show b < _; omega)
        have d1' := bcell hb d1 (by show b < _; omega)
        have HCJ : Hid (∀ v : World, Below w.heap.size w v → ∀ j, j < n → v.cell? ⟨b, o + j * 2, none⟩ = some (.int .i64 (l.getD j Ch.z).bk)) := fun v hbv j hj => by
          obtain ⟨b', o', e, hb', e0, _⟩ := HA.out.at_ hj
          cases e
          exact bcell hbv e0 (by show b < _; omega)
        have HZK : Hid (∀ v : World, Below w.heap.size w v → v.cell? ⟨b, o + k * 2, none⟩ = some (.int .i64 (l.getD k Ch.z).bk)) := fun v hbv => HCJ.out v hbv k h1
        generalize (l.getD k Ch.z).bk = z at *
        generalize (l.getD k Ch.z).dt = s at *
        clear d0 d1 hok hb
        by_cases hbad : ¬ (0 ≤ z ∧ z < (N : Int) ∧ ownB z = false ∧ s.size = 128)
        · have HR := Lib.hid (HF.out (fun h => hbad (by
            have := HI.out.1 h
            exact ⟨this.1, this.2.1, this.2.2.1, this.2.2.2.1⟩)))
          cases g0 : decide (z < 0) <;> cases gN : decide ((N : Int) ≤ z) <;> cases gw : ownB z <;> cases gs : ((s.size : Int) == 128)
          all_goals try (exfalso; apply hbad; simp only [decide_eq_false_iff_not] at g0 gN; simp only [beq_iff_eq] at gs; exact ⟨by omega, by omega, gw, by omega⟩)
          all_goals
            have GW := Lib.hid gw
            clear gw hbad
            go_wp2_with (go_at_call 32; refine (own_any z _).mono ?_; rintro e w3 ⟨rfl, rfl⟩; rw [GW.out])
            go_ret
            exact ⟨by rw [HR.out]; rfl, HB.out⟩
        · have hgood : 0 ≤ z ∧ z < (N : Int) ∧ ownB z = false ∧ s.size = 128 := by simpa using hbad
          obtain ⟨p0, p1, p2, p3⟩ := hgood
          have g0 : decide (z < 0) = false := by simp; omega
          have gN : decide ((N : Int) ≤ z) = false := by simp; omega
          have gs : ((s.size : Int) == 128) = true := by simp; omega
          have GW := Lib.hid p2
          have P3 := Lib.hid p3
          clear hbad p2 p3
          go_wp2_with (go_at_call 32; refine (own_any z _).mono ?_; rintro e w3 ⟨rfl, rfl⟩; rw [GW.out])
          go_loopw [6] (fun j wr2 => ∃ m : Nat, m ≤ k ∧ j = .int .i64 (m : Int) ∧ (∀ j, j < m → (l.getD j Ch.z).bk ≠ z) ∧ Below w.heap.size w wr2) (fun j _ => k - (intOf j).toNat)
          case atStart => exact ⟨0, by omega, rfl, fun i hi => by omega, HB.out⟩
          case round =>
            obtain ⟨m, hm, rfl, hne, hb2⟩ := hrel
            have HNE := Lib.hid hne
            have HB2 := Lib.hid hb2
            by_cases h2 : m < k
            · have hlt2 : (m : Int) < (k : Int) := by omega
              have hlt3 : (m : Int) < (n : Int) := by omega
              have y0 : (0 : Int) ≤ (m : Int) := by omega
              have cm : wr.drew.cell? ⟨b, o + m * 2, none⟩ = some (.int .i64 (l.getD m Ch.z).bk) := HCJ.out wr hb2 m (by omega)
              have ck : wr.drew.cell? ⟨b, o + k * 2, none⟩ = some (.int .i64 z) := HZK.out wr hb2
              have HBD := Lib.hid (Below.drew hb2)
              have HNM : Hid ((l.getD m Ch.z).bk ≠ z → ∀ j, j < m + 1 → (l.getD j Ch.z).bk ≠ z) := fun h j hj => by
                by_cases e : j = m
                · rw [e]; exact h
                · exact HNE.out j (by omega)
              have HBAD : Hid ((l.getD m Ch.z).bk = z → rr = 1) := fun h => HF.out fun hk => (HI.out.1 hk).2.2.2.2 m h2 h
              generalize (l.getD m Ch.z).bk = y at *
              clear hne hb2 d0' d1'
              cases gy : (y == z) with
              | true =>
                have HR := Lib.hid (HBAD.out (by simpa using gy))
                go_wp2_with fail
                go_region
                all_goals
                  go_wp2
                  go_ret
                  exact ⟨by rw [HR.out]; rfl, HBD.out⟩
              | false =>
                have HNX := Lib.hid (HNM.out (by simpa using gy))
                go_wp2_with fail
                go_region
                all_goals
                  go_wp2
                  go_roundw
                  case rel => exact ⟨m + 1, h2, by push_cast; rfl, HNX.out, HBD.out⟩
                  case measure => simp only [intOf]; omega
            · have hnlt2 : ¬ (m : Int) < (k : Int) := by omega
              have HOKK : Hid (okC N l k = true) := HI.out.2 ⟨p0, p1, GW.out, P3.out, fun j hj => HNE.out j (by omega)⟩
              have HNX : Hid (∀ j, j < k + 1 → okC N l j = true) := fun j hj => by
                by_cases e : j = k
                · rw [e]; exact HOKK.out
                · exact HOK.out j (by omega)
              clear hne hb2 d0' d1'
              go_wp2
              go_roundw
              case rel => exact ⟨k + 1, h1, by push_cast; rfl, HNX.out, HB2.out⟩
              case measure => simp only [intOf]; omega
      · have hnlt : ¬ (k : Int) < (n : Int) := by omega
        have e : k = n := by omega
        have HR := Lib.hid (HRO.out (HYES.out (fun j hj => HOK.out j (by omega))))
        clear hok hb e
        go_wp2
        go_ret
        exact ⟨by rw [HR.out]; rfl, HB.out⟩
end Go.Proofs.Ytpljifeebbeakaa
