/-
  WALK: the reference's Map: the same map. Conditions: at most 1000000000 spans, whose first two fields are far from the ends of an int64; n at most 65536.
-/
import Derived.Test.YtcillodbkgopdaaMap
import Derived.RegionTactic
namespace Go.Proofs.Ytcillodbkgopdaa
open Go.RowKit

set_option maxHeartbeats 4000000 in
theorem rmap_nat (A : Option Addr) (n c B : Nat) (l : List Sp) (N : Nat) (w : World) (hA : SpsAt w B A n l) (hB : B ≤ w.heap.size) (hn : n ≤ 1000000000) (hl : ∀ s ∈ l, s.mid) (hN : N ≤ 65536) :
    Calls Try.prog 15 #[.slice A n c, .int .i64 (N : Int)] w (RetInts w (mapR l N)) := by
  have HL := Lib.hid hA.len
  have HA := Lib.hid hA
  have HS := Lib.hid hl
  obtain ⟨M, hM⟩ := make_ints N hN
  have hmk := (hM w).1
  have HR0 := Lib.hid (hM w).2
  have d1 : ¬ (N : Int) < 0 := by omega
  have d2 : ¬ (65536 : Int) < (N : Int) := by omega
  clear hA hl hM
  go_enter Try.func15, Try.ntmps15
  go_wp2
  go_loopw [6, 7] (fun j _ wr => ∃ k : Nat, k ≤ n ∧ j = .int .i64 (k : Int) ∧ RowF wr w.heap.size N (fun j => lastD (l.take k) j) ∧ Below w.heap.size w wr ∧ w.heap.size < wr.heap.size) (fun j _ _ => n - (intOf j).toNat)
  case atStart => exact ⟨0, by omega, rfl, HR0.out, (Below.refl _ _).alloc (Nat.le_refl _) _, by simp⟩
  case round =>
    obtain ⟨k, hk, rfl, hrow, hb, hgs⟩ := hrel
    have HROW := Lib.hid hrow
    have HB := Lib.hid hb
    by_cases hlt : k < n
    · obtain ⟨b, o, rfl, hbB, h1, h2, h3⟩ := HA.out.at_ hlt
      have hbl : b < w.heap.size := by omega
      have hkl : k < l.length := by rw [HL.out]; exact hlt
      have hsm : (l.getD k Sp.z).mid := by
        rw [show l.getD k Sp.z = l[k] by simp [List.getD, List.getElem?_eq_getElem hkl]]
        exact HS.out _ (List.getElem_mem hkl)
      have HLD := Lib.hid (fun i => lastD_snoc l k hkl i)
      generalize l.getD k Sp.z = s at *
      obtain ⟨hs1, hs2, hs3⟩ := hsm
      obtain ⟨sa, sp, sl⟩ := s
      simp only at h1 h2 h3 hs1 hs2 hs3
      have HK1 := Lib.hid (fun (w' : World) (hb : Below w.heap.size w w') => bcell hb h1 hbl)
      have HK2 := Lib.hid (fun (w' : World) (hb : Below w.heap.size w w') => bcell hb h2 hbl)
      have HK3 := Lib.hid (fun (w' : World) (hb : Below w.heap.size w w') => bcell hb h3 hbl)
      have HR1 : Hid (RowF wr w.heap.size N (fun j => if j < 0 then lastD (l.take (k + 1)) j else lastD (l.take k) j)) :=
        HROW.out.ext (fun j _ => by rw [if_neg (by omega)])
      have kx1 : (0 : Int) ≤ (k : Int) := by omega
      have kx2 : (k : Int) < (n : Int) := by omega
      clear h1 h2 h3 hrow hb hkl
      go_wp2
      go_loopw [7] (fun i wi => ∃ i' : Nat, i' ≤ N ∧ i = .int .i64 (i' : Int) ∧ RowF wi w.heap.size N (fun j => if j < i' then lastD (l.take (k + 1)) j else lastD (l.take k) j) ∧ Below w.heap.size w wi ∧ w.heap.size < wi.heap.size) (fun i _ => N - (intOf i).toNat)
      case atStart => exact ⟨0, by omega, rfl, HR1.out, HB.out, hgs⟩
      case round =>
        obtain ⟨i', hi2, rfl, hrow', hb', hsz⟩ := hrel
        have HB' := Lib.hid hb'
        have HROW' := Lib.hid hrow'
        have c1 := HK1.out _ hb'
        have c2 := HK2.out _ hb'
        have c3 := HK3.out _ hb'
        clear hrow' hb'
        by_cases q1 : i' < N
        · have ix1 : (0 : Int) ≤ (i' : Int) := by omega
          have ix2 : (i' : Int) < (N : Int) := by omega
          have HEXT : Hid (∀ x : Int, lastD (l.take (k + 1)) (i' : Int) = x → ∀ j : Nat, j < N → (if j = i' then x else if j < i' then lastD (l.take (k + 1)) (j : Int) else lastD (l.take k) (j : Int)) = (if j < i' + 1 then lastD (l.take (k + 1)) (j : Int) else lastD (l.take k) (j : Int))) := by
            show ∀ x : Int, _
            intro x hx j _
            by_cases ej : j = i'
            · subst ej; rw [if_pos rfl, if_pos (by omega), hx]
            · rw [if_neg ej]
              by_cases ej2 : j < i'
              · rw [if_pos ej2, if_pos (by omega)]
              · rw [if_neg ej2, if_neg (by omega)]
          have HEXS : Hid (lastD (l.take (k + 1)) (i' : Int) = lastD (l.take k) (i' : Int) → ∀ j : Nat, j < N → (if j < i' then lastD (l.take (k + 1)) (j : Int) else lastD (l.take k) (j : Int)) = (if j < i' + 1 then lastD (l.take (k + 1)) (j : Int) else lastD (l.take k) (j : Int))) := by
            show _ → _
            intro hx j _
            by_cases ej2 : j < i'
            · rw [if_pos ej2, if_pos (by omega)]
            · rw [if_neg ej2]
              by_cases ej : j = i'
              · subst ej; rw [if_pos (by omega), hx]
              · rw [if_neg (by omega)]
          by_cases q2 : sa ≤ (i' : Int)
          · have e2 : decide (sa ≤ (i' : Int)) = true := by simpa using q2
            by_cases q3 : (i' : Int) - sa < sl
            · have e3 : decide ((i' : Int) - sa < sl) = true := by simpa using q3
              have HV : Hid (lastD (l.take (k + 1)) (i' : Int) = sp + ((i' : Int) - sa)) := by show _ = _; rw [HLD.out, if_pos (holdsB_iff.2 (by simp only; omega))]; rfl
              have f1 := (HROW'.out i' q1).1
              have f2 := (HROW'.out i' q1).2
              have HRS := Lib.hid (HROW'.out.set i' (sp + ((i' : Int) - sa)) q1)
              have x3 : IntKind.i64.wrap ((i' : Int) - sa) = (i' : Int) - sa := IntWalk.i64_in _ (by omega)
              have x4 : IntKind.i64.wrap (sp + ((i' : Int) - sa)) = sp + ((i' : Int) - sa) := IntWalk.i64_in _ (by omega)
              have HX3 := Lib.hid x3
              have HX4 := Lib.hid x4
              clear x3 x4 q2 q3
              generalize (if i' < i' then lastD (l.take (k + 1)) (i' : Int) else lastD (l.take k) (i' : Int)) = y at f1
              go_wp2
              go_quiet (fail)
              go_wp2
              have x3 := HX3.out
              have x4 := HX4.out
              go_region
              clear x3 x4
              go_wp2
              go_roundw
              case rel => exact ⟨i' + 1, by omega, by go_num, HRS.out.ext (HEXT.out _ HV.out), (Below.drews (HB'.out.setCell (Nat.le_refl _) _) ⟨_, rfl⟩), by simpa using hsz⟩
              case measure => simp [intOf]; omega
            · have e3 : decide ((i' : Int) - sa < sl) = false := by simpa using q3
              have HV : Hid (lastD (l.take (k + 1)) (i' : Int) = lastD (l.take k) (i' : Int)) := by show _ = _; rw [HLD.out, holdsB_not (s := ⟨sa, sp, sl⟩) (i := (i' : Int)) (Or.inr (by simp only; omega))]; rfl
              clear q2 q3
              go_wp2
              go_quiet (fail)
              go_wp2
              go_roundw
              case rel => exact ⟨i' + 1, by omega, by go_num, HROW'.out.ext (HEXS.out HV.out), Below.drews HB'.out ⟨_, rfl⟩, hsz⟩
              case measure => simp [intOf]; omega
          · have e2 : decide (sa ≤ (i' : Int)) = false := by simpa using q2
            have HV : Hid (lastD (l.take (k + 1)) (i' : Int) = lastD (l.take k) (i' : Int)) := by show _ = _; rw [HLD.out, holdsB_not (s := ⟨sa, sp, sl⟩) (i := (i' : Int)) (Or.inl (by simp only; omega))]; rfl
            clear q2
            go_wp2
            go_quiet (fail)
            go_wp2
            go_roundw
            case rel => exact ⟨i' + 1, by omega, by go_num, HROW'.out.ext (HEXS.out HV.out), Below.drews HB'.out ⟨_, rfl⟩, hsz⟩
            case measure => simp [intOf]; omega
        · have HEXF : Hid (∀ j : Nat, j < N → (if j < i' then lastD (l.take (k + 1)) (j : Int) else lastD (l.take k) (j : Int)) = lastD (l.take (k + 1)) (j : Int)) := by
            show ∀ j : Nat, j < N → _
            intro j hj
            rw [if_pos (by omega)]
          go_wp2
          go_roundw
          case rel => exact ⟨k + 1, by omega, by go_num, HROW'.out.ext HEXF.out, HB'.out, hsz⟩
          case measure => simp [intOf]; omega
    · have hnk : n = k := by omega
      have HFIN : Hid (RetInts w (mapR l N) (.returned (.slice (some ⟨w.heap.size, 0, none⟩) N N)) wr) := by
        have hml := mapR_len l N
        refine ⟨some ⟨w.heap.size, 0, none⟩, N, by rw [hml], by omega, ?_, HB.out⟩
        rw [hml]
        refine (HROW.out.ext (fun j hj => ?_)).ints hml (fun z hz => ?_) hgs
        · rw [mapR_at l N j hj, List.take_of_length_le (by rw [HL.out]; omega)]
        · unfold mapR at hz
          obtain ⟨j, hj, rfl⟩ := List.mem_map.1 hz
          have := List.mem_range.1 hj
          exact lastD_fit l HS.out _ (by omega)
      clear hnk
      go_wp2
      go_ret
      exact HFIN.out

set_option maxHeartbeats 4000000 in
theorem rmap_neg (A : Option Addr) (n c : Nat) (z : Int) (w : World) (hn : n ≤ 1000000000) (hz : z < 0) :
    Calls Try.prog 15 #[.slice A n c, .int .i64 z] w (RetInts w []) := by
  obtain ⟨M, hM⟩ := make_ints 0 (by omega)
  have hmk := (hM w).1
  rw [show (((0 : Nat) : Int)) = (0 : Int) from rfl] at hmk
  clear hM
  go_enter Try.func15, Try.ntmps15
  go_wp2
  go_loopw [6, 7] (fun j _ wr => ∃ k : Nat, k ≤ n ∧ j = .int .i64 (k : Int) ∧ Below w.heap.size w wr ∧ w.heap.size < wr.heap.size) (fun j _ _ => n - (intOf j).toNat)
  case atStart => exact ⟨0, by omega, rfl, (Below.refl _ _).alloc (Nat.le_refl _) _, by simp⟩
  case round =>
    obtain ⟨k, hk, rfl, hb, hgs⟩ := hrel
    have HB := Lib.hid hb
    clear hb
    by_cases hlt : k < n
    · go_wp2
      go_loopw [7] (fun i wi => i = .int .i64 0 ∧ Below w.heap.size w wi ∧ w.heap.size < wi.heap.size) (fun _ _ => 0)
      case atStart => exact ⟨rfl, HB.out, hgs⟩
      case round =>
        obtain ⟨rfl, hb', hsz⟩ := hrel
        go_wp2
        go_roundw
        case rel => exact ⟨k + 1, by omega, by go_num, hb', hsz⟩
        case measure => simp [intOf]; omega
    · have HFIN : Hid (RetInts w [] (.returned (.slice (some ⟨w.heap.size, 0, none⟩) 0 0)) wr) := by
        refine ⟨some ⟨w.heap.size, 0, none⟩, 0, rfl, by simp, ⟨rfl, by simp, fun k hk => ?_⟩, HB.out⟩
        simp at hk
      go_wp2
      go_ret
      exact HFIN.out

theorem rmap_any (A : Option Addr) (n c B : Nat) (l : List Sp) (z : Int) (w : World) (hA : SpsAt w B A n l) (hB : B ≤ w.heap.size) (hn : n ≤ 1000000000) (hl : ∀ s ∈ l, s.mid) (hz : z ≤ 65536) :
    Calls Try.prog 15 #[.slice A n c, .int .i64 z] w (RetInts w (mapR l z.toNat)) := by
  by_cases h : z < 0
  · rw [show z.toNat = 0 by omega]
    exact rmap_neg A n c z w hn h
  · have := rmap_nat A n c B l z.toNat w hA hB hn hl (by omega)
    rwa [show ((z.toNat : Nat) : Int) = z by omega] at this
end Go.Proofs.Ytcillodbkgopdaa
