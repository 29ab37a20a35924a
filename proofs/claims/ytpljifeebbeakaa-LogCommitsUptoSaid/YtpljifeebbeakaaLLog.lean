/-
  WALKS: refuse, Commit, Read, Size, Commits, where the slab does not stop and no block is loose. Conditions: blocks of 128 bytes, fewer than 700000 calls so far.
-/
import Derived.Test.YtpljifeebbeakaaLOpen
namespace Go.Proofs.Ytpljifeebbeakaa
open Go.RowKit
open Sl (St SlabAt Turns)

theorem LogAt.below {w w' : World} {q p k C : Nat} (h : LogAt w q p k) (hb : Below C w w') (hq : q < C) : LogAt w' q p k := (hb.block q hq).trans h
set_option maxRecDepth 100000 in
set_option maxHeartbeats 4000000 in
theorem refuse_any (q k0 p pd pm : Nat) (σ : St) (A : Option Addr) (n c B : Nat) (l : List Ch) (w : World) (hQ : LogAt w q p k0) (hS : SlabAt w p pd pm σ) (hA : ChsAt w B A n l) (hB : B ≤ w.heap.size) (hn : n ≤ 100000000) :
    Calls Try.prog 30 #[.pointer (some ⟨q, 0, none⟩), .slice A n c] w fun e w' => e = .returned (.int .i64 (rightC l σ.dur.length)) ∧ Below w.heap.size w w' := by
  have c0 := hQ.c0
  have c1 := hQ.c1
  have hql := hQ.lt
  have hln := hA.len
  by_cases h40 : 40 < n
  · have HR := Lib.hid (rightC_big (l := l) (N := σ.dur.length) (by omega))
    have hg : decide ((40 : Int) < (n : Int)) = true := by simp; omega
    generalize rightC l σ.dur.length = rr at *
    clear hQ hS hA
    go_enter Try.func30, Try.ntmps30
    go_wp2
    go_ret
    exact ⟨by rw [HR.out]; rfl, Below.refl _ _⟩
  · have hg : decide ((40 : Int) < (n : Int)) = false := by simp; omega
    have HBK := Lib.hid (blocksOf_any A n c B l w.drew (hA.keep fun _ _ => rfl) hB (by omega))
    have HFIT : Hid (∀ z ∈ bks l, Fit z) := fun z hz => by
      obtain ⟨ch, hch, rfl⟩ := List.mem_map.1 hz
      exact (hA.2.1 ch hch).2
    have HLEN : Hid ((bks l).length = n) := by show _ = _; rw [bks_len, hln]
    have HCB := Lib.hid (fun (v : World) (h : SlabAt v p pd pm σ) (hi : IntsAt v v.heap.size (some ⟨w.heap.size, 0, none⟩) n (bks l)) => changeable_any p pd pm σ (some ⟨w.heap.size, 0, none⟩) n n v.heap.size (bks l) v h hi (by omega) (Nat.le_refl _))
    have HS := Lib.hid hS
    have HA := Lib.hid hA
    have S0 : Hid (w.cell? ⟨q, 0, none⟩ = some (.pointer (some ⟨p, 0, none⟩))) := c0
    have HBDR : Hid (Below w.heap.size w w.drew) := ⟨rfl, rfl, rfl, Nat.le_refl _, fun _ _ => rfl⟩
    have H40 : Hid (¬ 40 < l.length) := by show ¬ _; omega
    have HLL := Lib.hid hln
    have HOC : Hid (okL σ.dur.length l = true → chB σ.dur.length (bks l) = true) := okL_ch
    have HOF : Hid (chB σ.dur.length (bks l) = true → (∀ k, k < l.length → (l.getD k Ch.z).dt.size = 128) → okL σ.dur.length l = true) := okL_of
    have HRO : Hid (okL σ.dur.length l = true → rightC l σ.dur.length = 0) := rightC_ok H40.out
    have HRN : Hid (okL σ.dur.length l = false → rightC l σ.dur.length = 1) := rightC_no H40.out
    have HSZ : Hid (okL σ.dur.length l = true → ∀ k, k < l.length → (l.getD k Ch.z).dt.size = 128) := fun h k hk => (okC_t.1 (okL_t.1 h k hk)).2
    generalize rightC l σ.dur.length = rr at *
    generalize okL σ.dur.length l = ok at *
    cases hch : chB σ.dur.length (bks l) with
    | false =>
      have hok : ok = false := by
        cases ok with
        | false => rfl
        | true => rw [HOC.out rfl] at hch; cases hch
      have HR := Lib.hid (HRN.out hok)
      have HCH := Lib.hid hch
      clear hQ hS hA hok hch hln HRN HRO HOC HOF HSZ
      go_enter Try.func30, Try.ntmps30
      go_wp2_with fail
      go_region_held3 (fun v' => v'.cell? ⟨q, 0, none⟩ = some (.pointer (some ⟨p, 0, none⟩)))
        (first | exact S0.out | exact S1.out)
        (first
          | (go_at_call 41; go_must (go_fit (HCB.out _ H1.out HI1.out))
             rintro e w3 ⟨rfl, rfl⟩
             rw [HCH.out])
          | (go_at_call 42; go_must (go_fit (HBK.out))
             rintro e w1 ⟨rfl, r1, b1⟩
             have HB1 := Lib.hid (HBDR.out.trans b1)
             have hi := r1.ints (B := w1.heap.size) HFIT.out r1.lt
             rw [HLEN.out] at hi
             have HI1 := Lib.hid hi
             have H1 := Lib.hid (HS.out.keptB (Turns.of_below [] HB1.out))
             have S1 := Lib.hid (bcell HB1.out S0.out hql)
             clear b1 r1 hi))
      all_goals
        go_wp2
        go_ret
        exact ⟨by rw [HR.out]; rfl, HB1.out⟩
    | true =>
      have HCH := Lib.hid hch
      clear hQ hS hA hch hln
      go_enter Try.func30, Try.ntmps30
      go_wp2_with fail
      go_region_held3 (fun v' => v'.cell? ⟨q, 0, none⟩ = some (.pointer (some ⟨p, 0, none⟩)))
        (first | exact S0.out | exact S1.out)
        (first
          | (go_at_call 41; go_must (go_fit (HCB.out _ H1.out HI1.out))
             rintro e w3 ⟨rfl, rfl⟩
             rw [HCH.out])
          | (go_at_call 42; go_must (go_fit (HBK.out))
             rintro e w1 ⟨rfl, r1, b1⟩
             have HB1 := Lib.hid (HBDR.out.trans b1)
             have hi := r1.ints (B := w1.heap.size) HFIT.out r1.lt
             rw [HLEN.out] at hi
             have HI1 := Lib.hid hi
             have H1 := Lib.hid (HS.out.keptB (Turns.of_below [] HB1.out))
             have S1 := Lib.hid (bcell HB1.out S0.out hql)
             clear b1 r1 hi))
      all_goals
        go_wp2
        go_loopw [6, 24] (fun _ j wr => ∃ k : Nat, k ≤ n ∧ j = .int .i64 (k : Int) ∧ (∀ i, i < k → (l.getD i Ch.z).dt.size = 128) ∧ Below w.heap.size w wr) (fun _ j _ => n - (intOf j).toNat)
        case atStart => exact ⟨0, by omega, rfl, fun i hi => by omega, HB1.out⟩
        case round =>
          obtain ⟨k, hk, rfl, hsz, hb⟩ := hrel
          have HSZ2 := Lib.hid hsz
          have HBN := Lib.hid hb
          by_cases h1 : k < n
          · have hlt : (k : Int) < (n : Int) := by omega
            have x0 : (0 : Int) ≤ (k : Int) := by omega
            have hfit := HA.out.bd k
            obtain ⟨b, o, rfl, hbB, d0, d1⟩ := HA.out.at_ h1
            have d0' := bcell hb d0 (by show b < _; omega)
            have d1' := bcell hb d1 (by show b < _; omega)
            have HB2 := Lib.hid (fun u t => hb.alloc hb.size (.cells u t))
            have HSK : Hid (ok = true → (l.getD k Ch.z).dt.size = 128) := fun h => HSZ.out h k (by rw [HLL.out]; exact h1)
            have HNX : Hid ((l.getD k Ch.z).dt.size = 128 → ∀ i, i < k + 1 → (l.getD i Ch.z).dt.size = 128) := fun h i hi => by
              by_cases e : i = k
              · rw [e]; exact h
              · exact HSZ2.out i (by omega)
            generalize (l.getD k Ch.z).bk = z at *
            generalize (l.getD k Ch.z).dt = s at *
            clear d0 d1 hb hfit hsz
            by_cases hs : s.size = 128
            · have g2 : ((s.size : Int) == 128) = true := by rw [hs]; rfl
              have HSS := Lib.hid hs
              clear hs
              go_wp2
              go_roundw
              case rel => exact ⟨k + 1, h1, by push_cast; rfl, HNX.out HSS.out, HB2.out _ _⟩
              case measure => simp only [intOf]; omega
            · have g2 : ((s.size : Int) == 128) = false := by simp; omega
              have hok : ok = false := by
                cases ok with
                | false => rfl
                | true => exact absurd (HSK.out rfl) hs
              have HR := Lib.hid (HRN.out hok)
              clear hs hok
              go_wp2
              go_ret
              exact ⟨by rw [HR.out]; rfl, HB2.out _ _⟩
          · have hnlt : ¬ (k : Int) < (n : Int) := by omega
            have e : k = n := by omega
            have HR := Lib.hid (HRO.out (HOF.out HCH.out (fun i hi => HSZ2.out i (by rw [HLL.out] at hi; omega))))
            clear hsz hb e
            go_wp2
            go_ret
            exact ⟨by rw [HR.out]; rfl, HBN.out⟩

theorem cell_pos (k : Nat) : (((k : Int) + 1)) = ((k + 1 : Nat) : Int) := by push_cast; rfl
set_option maxRecDepth 100000 in
set_option maxHeartbeats 4000000 in
/-- a commit that may not be: the error. -/
theorem commit_no (q k0 p pd pm : Nat) (D : List ByteArray) (c : Nat) (A : Option Addr) (n c' B : Nat) (l : List Ch) (w : World) (hQ : LogAt w q p k0) (hS : SlabAt w p pd pm (FS D c)) (hA : ChsAt w B A n l) (hB : B ≤ w.heap.size) (hn : n ≤ 100000000)
    (hr : rightC l D.length ≠ 0) :
    Calls Try.prog 14 #[.pointer (some ⟨q, 0, none⟩), .slice A n c'] w fun e w' => e = .returned (.int .i64 (rightC l D.length)) ∧ Below w.heap.size w w' := by
  have HR := Lib.hid (refuse_any q k0 p pd pm (FS D c) A n c' B l w hQ hS hA hB hn)
  have hdl : (FS D c).dur.length = D.length := rfl
  rw [hdl] at HR
  have hg : (rightC l D.length == 0) = false := by simpa using hr
  generalize rightC l D.length = r at *
  clear hQ hS hA hdl
  go_enter Try.func14, Try.ntmps14
  go_wp2_with fail
  refine HR.out.mono ?_
  rintro e w1 ⟨rfl, b1⟩
  have HB1 := Lib.hid b1
  clear b1
  go_wp2
  go_ret
  exact ⟨rfl, HB1.out⟩
set_option maxRecDepth 100000 in
set_option maxHeartbeats 4000000 in
/-- a commit of no changes. -/
theorem commit_none (q k0 p pd pm : Nat) (D : List ByteArray) (c : Nat) (A : Option Addr) (c' B : Nat) (w : World) (hQ : LogAt w q p k0) (hS : SlabAt w p pd pm (FS D c)) (hA : ChsAt w B A 0 []) (hB : B ≤ w.heap.size) :
    Calls Try.prog 14 #[.pointer (some ⟨q, 0, none⟩), .slice A 0 c'] w fun e w' => e = .returned (.int .i64 0) ∧ Below w.heap.size w w' := by
  have HR := Lib.hid (refuse_any q k0 p pd pm (FS D c) A 0 c' B [] w hQ hS hA hB (by omega))
  have e : rightC [] (FS D c).dur.length = 0 := rfl
  rw [e] at HR
  clear hQ hS hA e
  go_enter Try.func14, Try.ntmps14
  go_wp2_with fail
  refine HR.out.mono ?_
  rintro e w1 ⟨rfl, b1⟩
  have HB1 := Lib.hid b1
  clear b1
  go_wp2
  go_ret
  exact ⟨rfl, HB1.out⟩
set_option maxRecDepth 100000 in
set_option maxHeartbeats 4000000 in
/-- a commit of changes that may be. -/
theorem commit_yes (q k0 p pd pm : Nat) (D : List ByteArray) (c : Nat) (A : Option Addr) (n c' B : Nat) (l : List Ch) (w : World) (hQ : LogAt w q p k0) (hS : SlabAt w p pd pm (FS D c)) (hA : ChsAt w B A n l) (hB : B ≤ w.heap.size) (hO : Out A [p, pd, pm])
    (hq : q ∉ [p, pd, pm]) (hr : rightC l D.length = 0) (hn : 0 < n) (hc : c ≤ 600000) (hl : 42 ≤ D.length) (hk : k0 ≤ 1000000) :
    Calls Try.prog 14 #[.pointer (some ⟨q, 0, none⟩), .slice A n c'] w fun e w' => e = .returned (.int .i64 0) ∧ SlabAt w' p pd pm (FS (cmD D l) (c + 2 * n + 6)) ∧ LogAt w' q p (k0 + 1) ∧ Turns [q, p, pd, pm] w w' := by
  obtain ⟨h40, hok⟩ := rightC_0 hr
  have hln := hA.len
  have HR := Lib.hid (refuse_any q k0 p pd pm (FS D c) A n c' B l w hQ hS hA hB (by omega))
  have e1 : rightC l (FS D c).dur.length = 0 := hr
  rw [e1] at HR
  have hS2 := commitS_FS (c := c) (okL_in hok) (by omega) hl
  have HCM : Hid (∀ v : World, Below w.heap.size w v → Calls Try.prog 31 #[.pointer (some ⟨p, 0, none⟩), .slice A n c'] v fun e w' => Step p pd pm (FS (cmD D l) (c + 2 * n + 6)) v e w') := fun v hb => by
    have h := commit_any p pd pm (FS D c) A n c' B l v (hS.keptB (Turns.of_below [] hb)) rfl (hA.below hb hB) (Nat.le_trans hB hb.size) hO (okL_in hok) (by omega) (by show c ≤ 700000; omega) hl
    rw [hS2, hln] at h
    exact h
  have HQ := Lib.hid hQ
  have HQL := Lib.hid hQ.lt
  have hg : ((n : Int) == 0) = false := by simp; omega
  have HQN := Lib.hid hq
  clear hQ hS hA hS2 e1 hr hok hln hq
  go_enter Try.func14, Try.ntmps14
  go_wp2_with fail
  refine HR.out.mono ?_
  rintro e w1 ⟨rfl, b1⟩
  have HB1 := Lib.hid b1
  have Q1 := HQ.out.below b1 HQL.out
  have q0 := Q1.c0
  have HQ1 := Lib.hid Q1
  have HC1 := Lib.hid (HCM.out w1 b1)
  clear b1 Q1
  go_wp2_with fail
  refine HC1.out.mono ?_
  rintro e w2 ⟨rfl, h2, t2⟩
  have H2 := Lib.hid h2
  have Q2 := HQ1.out.turns t2 HQN.out
  have q2 := Q2.c2
  have qf := Q2.fz 2
  have HM := Lib.hid Q2.more
  have T1 : Turns [q] w2 (w2.setCell ⟨q, 2, none⟩ (.int .i64 ((k0 + 1 : Nat) : Int))) := Turns.setCell w2 (by simp) _
  have HT := Lib.hid ((((Turns.of_below [q, p, pd, pm] HB1.out).trans (t2.mono (by intro j hj; simp at hj ⊢; omega)))).trans (T1.mono (by simp)))
  have HS3 := Lib.hid (h2.kept T1 (by have := HQN.out; simp at this ⊢; omega) (by have := HQN.out; simp at this ⊢; omega) (by have := HQN.out; simp at this ⊢; omega))
  have hsum : IntKind.i64.wrap ((k0 : Int) + 1) = ((k0 + 1 : Nat) : Int) := by rw [IntWalk.i64_in _ (by omega)]; push_cast; rfl
  clear h2 t2 Q2 T1
  go_wp2
  go_ret
  exact ⟨rfl, HS3.out, HM.out, HT.out⟩

theorem lread_any (q k0 p pd pm : Nat) (σ : St) (i : Int) (w : World) (hQ : LogAt w q p k0) (hS : SlabAt w p pd pm σ) :
    Calls Try.prog 25 #[.pointer (some ⟨q, 0, none⟩), .int .i64 i] w fun e w' => e = .returned (.string (σ.read i)) ∧ Below w.heap.size w w' := by
  have HR := Lib.hid (Sl.read_any p pd pm σ i w hS)
  have q0 := hQ.c0
  generalize σ.read i = s at *
  clear hQ hS
  go_enter Try.func25, Try.ntmps25
  go_wp2_with fail
  refine HR.out.mono ?_
  rintro e w1 ⟨rfl, b1⟩
  have HB1 := Lib.hid b1
  clear b1
  go_wp2
  go_ret
  exact ⟨rfl, HB1.out⟩
theorem lsize_any (q k0 p pd pm : Nat) (σ : St) (w : World) (hQ : LogAt w q p k0) (hS : SlabAt w p pd pm σ) :
    Calls Try.prog 21 #[.pointer (some ⟨q, 0, none⟩)] w fun e w' => e = .returned (.int .i64 σ.dur.length) ∧ w = w' := by
  have HR := Lib.hid (Sl.size_any p pd pm σ w hS)
  have q0 := hQ.c0
  generalize σ.dur.length = s at *
  clear hQ hS
  go_enter Try.func21, Try.ntmps21
  go_wp2_with fail
  refine HR.out.mono ?_
  rintro e w1 ⟨rfl, rfl⟩
  go_wp2
  go_ret
  exact ⟨rfl, rfl⟩
theorem lcommits_any (q k0 p : Nat) (w : World) (hQ : LogAt w q p k0) :
    Calls Try.prog 20 #[.pointer (some ⟨q, 0, none⟩)] w fun e w' => e = .returned (.int .i64 k0) ∧ w = w' := by
  have q0 := hQ.c2
  clear hQ
  go_enter Try.func20, Try.ntmps20
  go_wp2
  go_ret
  exact ⟨rfl, rfl⟩
theorem lread_nil (i : Int) (w : World) : Calls Try.prog 25 #[.pointer none, .int .i64 i] w fun e w' => e = .returned (.string ⟨#[]⟩) ∧ w = w' := by
  go_enter Try.func25, Try.ntmps25
  go_wp2
  go_ret
  exact ⟨rfl, rfl⟩
theorem lsize_nil (w : World) : Calls Try.prog 21 #[.pointer none] w fun e w' => e = .returned (.int .i64 0) ∧ w = w' := by
  go_enter Try.func21, Try.ntmps21
  go_wp2
  go_ret
  exact ⟨rfl, rfl⟩
theorem lcommits_nil (w : World) : Calls Try.prog 20 #[.pointer none] w fun e w' => e = .returned (.int .i64 0) ∧ w = w' := by
  go_enter Try.func20, Try.ntmps20
  go_wp2
  go_ret
  exact ⟨rfl, rfl⟩
theorem lcommit_nil (v : Value) (w : World) : Calls Try.prog 14 #[.pointer none, v] w fun e w' => e = .returned (.int .i64 1) ∧ w = w' := by
  go_enter Try.func14, Try.ntmps14
  go_wp2
  go_ret
  exact ⟨rfl, rfl⟩
end Go.Proofs.Ytpljifeebbeakaa
