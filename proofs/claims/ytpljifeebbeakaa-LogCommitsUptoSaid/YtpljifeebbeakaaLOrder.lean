/-
  WALKS: inOrder: steps that end well, one behind the other; writeAll, where the slab does not stop. Conditions: at most 10 steps, at most 1000 changes.
-/
import Derived.Test.YtpljifeebbeakaaLMoved
namespace Go.Proofs.Ytpljifeebbeakaa
open Go.RowKit
open Sl (St SlabAt Turns)

set_option maxHeartbeats 2000000 in
theorem inOrder_any (g n c : Nat) (f : Nat → FuncId) (cap : Nat → Array Value) (I : Nat → World → Prop) (w : World) (hn : n ≤ 10)
    (hc : ∀ k w', k < n → I k w' → w'.cell? ⟨g, k, none⟩ = some (.func (.func (f k)) #[] (cap k)))
    (hf : ∀ k, k < n → ∀ w', (callFunc (f k) (cap k)).run Try.prog w' = .ok (.enter (f k) (cap k)) w')
    (hs : ∀ k w', k < n → I k w' → Calls Try.prog (f k) (cap k) w' fun e w'' => e = .returned (.int .i64 0) ∧ I (k + 1) w'')
    (h0 : I 0 w) : Calls Try.prog 43 #[.slice (some ⟨g, 0, none⟩) n c] w fun e w' => e = .returned (.int .i64 0) ∧ I n w' := by
  have HC := Lib.hid hc
  have HS := Lib.hid hs
  have HF := Lib.hid hf
  have H0 := Lib.hid h0
  clear hc hs h0 hf
  go_enter Try.func43, Try.ntmps43
  go_wp2
  go_loopw [4, 5, 8] (fun _ _ j wr => ∃ k : Nat, k ≤ n ∧ j = .int .i64 (k : Int) ∧ I k wr) (fun _ _ j _ => n - (intOf j).toNat)
  case atStart => exact ⟨0, by omega, rfl, H0.out⟩
  case round =>
    obtain ⟨k, hk, rfl, hi⟩ := hrel
    by_cases h1 : k < n
    · have hlt : (k : Int) < (n : Int) := by omega
      have x0 : (0 : Int) ≤ (k : Int) := by omega
      have hcell := HC.out k wr h1 hi
      have HST := Lib.hid (HS.out k wr h1 hi)
      have hcf := HF.out k h1
      clear hi HC HS HF H0
      generalize f k = fk at *
      generalize cap k = ck at *
      go_wp2_with fail
      refine HST.out.mono ?_
      rintro e w2 ⟨rfl, hi2⟩
      have HI2 := Lib.hid hi2
      clear hi2
      go_wp2
      go_roundw
      case rel => exact ⟨k + 1, h1, by push_cast; rfl, HI2.out⟩
      case measure => simp only [intOf]; omega
    · have hnlt : ¬ (k : Int) < (n : Int) := by omega
      have e : k = n := by omega
      subst e
      have HI2 := Lib.hid hi
      clear hi HC HS HF H0
      go_wp2
      go_ret
      exact ⟨rfl, HI2.out⟩

theorem ChsAt.turns {w w' : World} {B n : Nat} {A : Option Addr} {l : List Ch} {L : List Nat} (h : ChsAt w B A n l) (ht : Turns L w w') (hA : ∀ a, A = some a → a.block ∉ L) : ChsAt w' B A n l :=
  ⟨h.1, h.2.1, fun k hkn => by
    obtain ⟨b, o, e, hb, h1, h2⟩ := h.2.2 k hkn
    have hn := hA _ e
    exact ⟨b, o, e, hb, ht.cell h1 hn, ht.cell h2 hn⟩⟩
/-- a slice lies in none of these blocks. -/
def Out (A : Option Addr) (L : List Nat) : Prop := ∀ a, A = some a → a.block ∉ L

set_option maxRecDepth 100000 in
set_option maxHeartbeats 2000000 in
theorem writeAll_any (p pd pm : Nat) (σ : St) (A : Option Addr) (n c B : Nat) (l : List Ch) (w : World) (hS : SlabAt w p pd pm σ) (hr : σ.stops = false) (hA : ChsAt w B A n l) (hO : Out A [p, pd, pm])
    (hI : InL σ.dur.length l) (hn : n ≤ 1000) (hc : σ.calls ≤ 900000) :
    Calls Try.prog 45 #[.pointer (some ⟨p, 0, none⟩), .slice A n c] w fun e w' => e = .returned (.int .i64 0) ∧ SlabAt w' p pd pm (wall σ l) ∧ Turns [p, pd, pm] w w' := by
  have HL := Lib.hid hA.len
  have HA := Lib.hid hA
  have HS := Lib.hid hS
  have HO := Lib.hid hO
  have HIN : Hid (∀ k, k < n → 0 ≤ (l.getD k Ch.z).bk ∧ (l.getD k Ch.z).bk < (σ.dur.length : Int) ∧ (l.getD k Ch.z).dt.size = 128) := fun k hk => by
    have hk' : k < l.length := by rw [hA.len]; exact hk
    have e : l.getD k Ch.z = l[k] := by simp [List.getD, hk']
    rw [e]; exact hI _ (List.getElem_mem hk')
  have HT : Hid (∀ k, k < n → wall σ (l.take (k + 1)) = (wall σ (l.take k)).tick.put (l.getD k Ch.z).bk (l.getD k Ch.z).dt) := fun k hk => by
    have hk' : k < l.length := by rw [hA.len]; exact hk
    have e : l.take (k + 1) = l.take k ++ [l.getD k Ch.z] := by
      rw [List.take_succ_eq_append_getElem hk']; simp [List.getD, hk']
    rw [e, wall_snoc]
  have HLEN := Lib.hid hS.len
  have HTK : Hid (∀ k, (wall σ (l.take k)).dur = σ.dur ∧ (wall σ (l.take k)).stops = false ∧ (wall σ (l.take k)).calls ≤ σ.calls + k) := fun k => by
    obtain ⟨a, b, _, d⟩ := wall_same (l.take k) σ
    refine ⟨a, b.trans hr, ?_⟩
    rw [d, List.length_take]; omega
  have HE : Hid (wall σ (l.take n) = wall σ l) := by show _ = _; rw [← hA.len, List.take_length]
  have H0 : Hid (wall σ (l.take 0) = σ) := rfl
  clear hA hS hO hI hr
  go_enter Try.func45, Try.ntmps45
  go_wp2
  go_loopw [6, 7, 10] (fun _ _ j wr => ∃ k : Nat, k ≤ n ∧ j = .int .i64 (k : Int) ∧ SlabAt wr p pd pm (wall σ (l.take k)) ∧ Turns [p, pd, pm] w wr) (fun _ _ j _ => n - (intOf j).toNat)
  case atStart => exact ⟨0, by omega, rfl, HS.out, Turns.refl _ _⟩
  case round =>
    obtain ⟨k, hk, rfl, hs, ht⟩ := hrel
    by_cases h1 : k < n
    · have hlt : (k : Int) < (n : Int) := by omega
      have x0 : (0 : Int) ≤ (k : Int) := by omega
      have hA2 := HA.out.turns ht HO.out
      have hfit := hA2.bd k
      obtain ⟨b, o, rfl, hbB, d0, d1⟩ := hA2.at_ h1
      obtain ⟨a1, a2, a3⟩ := HTK.out k
      obtain ⟨i1, i2, i3⟩ := HIN.out k h1
      have HTk := Lib.hid (HT.out k h1)
      have HSN := Lib.hid hs
      have HTN := Lib.hid ht
      obtain ⟨wk, wz⟩ := write_ok a2 i1 (by rw [a1]; exact i2) i3
      have HB : Hid (-9223372036854775808 ≤ (l.getD k Ch.z).bk ∧ (l.getD k Ch.z).bk ≤ 9223372036854775807) := hfit.2
      have HWR : Hid (∀ u t, Calls Try.prog 50 #[.pointer (some ⟨p, 0, none⟩), .int .i64 (l.getD k Ch.z).bk, .string (l.getD k Ch.z).dt] (wr.alloc (.cells u t)) fun e w' => e = .returned (.int .i64 0) ∧ SlabAt w' p pd pm (wall σ (l.take (k + 1))) ∧ Turns [p, pd, pm] (wr.alloc (.cells u t)) w') := fun u t => by
        have h := Sl.write_any p pd pm (wall σ (l.take k)) (l.getD k Ch.z).bk (l.getD k Ch.z).dt (wr.alloc (.cells u t)) (HSN.out.keptB (Turns.alloc _ _ _)) (by omega) HB.out (by omega)
        rw [wk, wz, ← HTk.out] at h
        exact h
      generalize (l.getD k Ch.z).bk = z at *
      generalize (l.getD k Ch.z).dt = s at *
      clear hs ht hA2 hfit a1 a2 a3 i1 i2 i3 wk wz HTk HT
      go_wp2_with fail
      refine (HWR.out _ _).mono ?_
      rintro e w5 ⟨rfl, h5, t5⟩
      have H5 := Lib.hid h5
      have T5 := Lib.hid ((HTN.out.trans (Turns.alloc _ _ _)).trans t5)
      clear h5 t5
      go_wp2
      go_roundw
      case rel => exact ⟨k + 1, h1, by push_cast; rfl, H5.out, T5.out⟩
      case measure => simp only [intOf]; omega
    · have hnlt : ¬ (k : Int) < (n : Int) := by omega
      have e : k = n := by omega
      subst e
      rw [HE.out] at hs
      have HSN := Lib.hid hs
      have HTN := Lib.hid ht
      clear hs ht
      go_wp2
      go_ret
      exact ⟨rfl, HSN.out, HTN.out⟩
end Go.Proofs.Ytpljifeebbeakaa
