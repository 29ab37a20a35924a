/-
  WALK: the reference's Same. Condition: at most 1000 blocks.
-/
import Derived.Test.YtpljifeebbeakaaLRef
namespace Go.Proofs.Ytpljifeebbeakaa
open Go.RowKit

/-- two images say the same, but for the log's own blocks. -/
def sameB (a b : List ByteArray) : Bool := decide (a.length = b.length) && (List.range a.length).all fun i : Nat => ownB (i : Int) || decide (a.getD i ⟨#[]⟩ = b.getD i ⟨#[]⟩)
theorem sameB_t {a b : List ByteArray} : sameB a b = true ↔ a.length = b.length ∧ ∀ i, i < a.length → ownB (i : Int) = false → a.getD i ⟨#[]⟩ = b.getD i ⟨#[]⟩ := by
  simp only [sameB, Bool.and_eq_true, decide_eq_true_eq, List.all_eq_true, List.mem_range, Bool.or_eq_true]
  constructor
  · rintro ⟨h1, h2⟩
    refine ⟨h1, fun i hi ho => ?_⟩
    rcases h2 i hi with h | h
    · rw [h] at ho; cases ho
    · exact h
  · rintro ⟨h1, h2⟩
    refine ⟨h1, fun i hi => ?_⟩
    cases ho : ownB (i : Int) with
    | true => exact Or.inl rfl
    | false => exact Or.inr (h2 i hi ho)
theorem quiet_drew {P : Program} {f : FuncId} {args : Array Value} {w : World} {n : Nat} {v : Value}
    (h : Calls P f args (w.drewN n) fun e w' => e = .returned v ∧ Drew (w.drewN n) w') : Calls P f args (w.drewN n) fun e w'' => e = .returned v ∧ ∃ m, w'' = w.drewN m :=
  h.mono fun _ _ ⟨he, m, hm⟩ => ⟨he, n + m, by rw [hm, World.drewN_drewN]⟩
theorem own_drew (i : Int) (b : Bool) (w : World) (h : ownB i = b) : Calls Try.prog 32 #[.int .i64 i] w fun e w' => e = .returned (.bool b) ∧ Drew w w' :=
  (own_any i w).mono fun _ _ ⟨he, hw⟩ => ⟨by rw [he, h], by rw [hw]; exact Drew.refl _⟩

set_option maxRecDepth 100000 in
set_option maxHeartbeats 4000000 in
theorem same_any (A A' : Option Addr) (n c m c' B : Nat) (a b : List ByteArray) (w : World) (hA : SsAt w B A n a) (hC : SsAt w B A' m b) (hB : B ≤ w.heap.size) (hn : n ≤ 1000) :
    Calls Try.prog 19 #[.slice A n c, .slice A' m c'] w fun e w' => e = .returned (.bool (sameB a b)) ∧ Below w.heap.size w w' := by
  have HT := Lib.hid (sameB_t (a := a) (b := b))
  have HLA := Lib.hid hA.len
  have HLB := Lib.hid hC.len
  have HA := Lib.hid hA
  have HC := Lib.hid hC
  generalize sameB a b = r at *
  clear hA hC
  by_cases hnm : n = m
  · subst hnm
    go_enter Try.func19, Try.ntmps19
    go_wp2
    go_loopw [5] (fun j wr => ∃ k : Nat, k ≤ n ∧ j = .int .i64 (k : Int) ∧ (∀ i, i < k → ownB (i : Int) = false → a.getD i ⟨#[]⟩ = b.getD i ⟨#[]⟩) ∧ Below w.heap.size w wr) (fun j _ => n - (intOf j).toNat)
    case atStart => exact ⟨0, by omega, rfl, fun i hi => by omega, Below.refl _ _⟩
    case round =>
      obtain ⟨k, hk, rfl, hok, hb⟩ := hrel
      have HOK := Lib.hid hok
      have HB := Lib.hid hb
      by_cases h1 : k < n
      · have hlt : (k : Int) < (n : Int) := by omega
        have x0 : (0 : Int) ≤ (k : Int) := by omega
        obtain ⟨g, o, rfl, hg, d0⟩ := HA.out.at_ h1
        obtain ⟨g', o', rfl, hg', d1⟩ := HC.out.at_ h1
        have e0 := bcell hb d0 (by show g < _; omega)
        have e1 := bcell hb d1 (by show g' < _; omega)
        have HNX : Hid ((ownB (k : Int) = false → a.getD k ⟨#[]⟩ = b.getD k ⟨#[]⟩) → ∀ i, i < k + 1 → ownB (i : Int) = false → a.getD i ⟨#[]⟩ = b.getD i ⟨#[]⟩) := fun h i hi => by
          by_cases e : i = k
          · subst e; exact h
          · exact HOK.out i (by omega)
        have HBAD : Hid (ownB (k : Int) = false → ¬ a.getD k ⟨#[]⟩ = b.getD k ⟨#[]⟩ → r = false) := fun h1' h2 => by
          cases r with
          | false => rfl
          | true => exact absurd ((HT.out.1 rfl).2 k (by rw [HLA.out]; exact h1) h1') h2
        generalize a.getD k ⟨#[]⟩ = s at *
        generalize b.getD k ⟨#[]⟩ = t at *
        clear d0 d1 hok hb
        cases ho : ownB (k : Int) with
        | true =>
          have HO := Lib.hid ho
          have HN2 := Lib.hid (HNX.out (fun h => by rw [HO.out] at h; cases h))
          clear ho HNX
          have HOW := Lib.hid (fun v => own_drew (k : Int) true v HO.out)
          go_wp2_with fail
          go_quiet ((go_at_call 32; with_reducible exact quiet_drew (HOW.out _)))
          go_wp2
          go_roundw
          case rel => exact ⟨k + 1, h1, by push_cast; rfl, HN2.out, Below.drews HB.out ⟨_, rfl⟩⟩
          case measure => simp only [intOf]; omega
        | false =>
          have HO := Lib.hid ho
          have HOW := Lib.hid (fun v => own_drew (k : Int) false v HO.out)
          by_cases hst : s = t
          · have q1 : (s.toList == t.toList) = true := by rw [hst]; simp
            have q2 : (s.toList != t.toList) = false := by rw [hst]; simp
            have HN2 := Lib.hid (HNX.out (fun _ => hst))
            clear ho hst HNX
            go_wp2_with fail
            go_quiet ((go_at_call 32; with_reducible exact quiet_drew (HOW.out _)))
            go_wp2
            go_roundw
            case rel => exact ⟨k + 1, h1, by push_cast; rfl, HN2.out, Below.drews HB.out ⟨_, rfl⟩⟩
            case measure => simp only [intOf]; omega
          · have q1 : (s.toList == t.toList) = false := by rw [lists_eq]; exact decide_eq_false hst
            have q2 : (s.toList != t.toList) = true := by unfold bne; rw [q1]; rfl
            have HR := Lib.hid (HBAD.out HO.out hst)
            clear ho hst HNX
            go_wp2_with fail
            go_quiet ((go_at_call 32; with_reducible exact quiet_drew (HOW.out _)))
            go_wp2
            go_ret
            exact ⟨by rw [HR.out]; rfl, Below.drews HB.out ⟨_, rfl⟩⟩
      · have hnlt : ¬ (k : Int) < (n : Int) := by omega
        have HR : Hid (r = true) := HT.out.2 ⟨by rw [HLA.out, HLB.out], fun i hi => HOK.out i (by rw [HLA.out] at hi; omega)⟩
        clear hok hb
        go_wp2
        go_ret
        exact ⟨by rw [HR.out]; rfl, HB.out⟩
  · have hg : ((n : Int) == (m : Int)) = false := by simp; omega
    have HR : Hid (r = false) := by
      cases r with
      | false => exact rfl
      | true => exact absurd (HT.out.1 rfl).1 (by rw [HLA.out, HLB.out]; exact hnm)
    go_enter Try.func19, Try.ntmps19
    go_wp2
    go_ret
    exact ⟨by rw [HR.out]; rfl, Below.refl _ _⟩
end Go.Proofs.Ytpljifeebbeakaa
