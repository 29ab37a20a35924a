/-
  WALKS: the steps of apply and of commit, each a closure; apply and commit, where the slab does not stop. Conditions: at most 40 changes, fewer than 800000 calls so far.
-/
import Derived.Test.YtpljifeebbeakaaLOrder
import Derived.Deep.RegionHeld3
import Derived.BigRegion
import Derived.BigQuiet
import Derived.Deep.DeepMust
import Derived.Deep.DeepFit
namespace Go.Proofs.Ytpljifeebbeakaa
open Go.RowKit
open Sl (St SlabAt Turns)

theorem cell_lt {w : World} {a : Addr} {v : Value} (h : w.cell? a = some v) : a.block < w.heap.size := by
  rcases Nat.lt_or_ge a.block w.heap.size with hl | hl
  · exact hl
  · unfold World.cell? at h
    rw [Array.getElem?_eq_none hl] at h
    cases h
/-- what the closures hold: the slab, and the changes. -/
def Env (w : World) (g0 g1 p : Nat) (A : Option Addr) (n c : Nat) : Prop := w.cell? ⟨g0, 0, none⟩ = some (.pointer (some ⟨p, 0, none⟩)) ∧ w.cell? ⟨g1, 0, none⟩ = some (.slice A n c)
theorem Env.turns {w w' : World} {g0 g1 p n c : Nat} {A : Option Addr} {L : List Nat} (h : Env w g0 g1 p A n c) (ht : Turns L w w') (h0 : g0 ∉ L) (h1 : g1 ∉ L) : Env w' g0 g1 p A n c := ⟨ht.cell h.1 h0, ht.cell h.2 h1⟩
/-- the answer of a step that ends well. -/
def Step (p pd pm : Nat) (σ : St) (w : World) (e : Ending) (w' : World) : Prop := e = .returned (.int .i64 0) ∧ SlabAt w' p pd pm σ ∧ Turns [p, pd, pm] w w'
theorem flushC (p pd pm : Nat) (σ : St) (w : World) (h : SlabAt w p pd pm σ) (hr : σ.stops = false) (hc : σ.calls ≤ 900000) : Calls Try.prog 48 #[.pointer (some ⟨p, 0, none⟩)] w fun e w' => Step p pd pm (fl σ) w e w' := by
  have h := Sl.flush_any p pd pm σ w h (by omega)
  obtain ⟨a, b⟩ := flush_ok hr
  rw [a, b] at h
  exact h
theorem writeC (p pd pm : Nat) (σ : St) (i : Int) (s : ByteArray) (w : World) (h : SlabAt w p pd pm σ) (hr : σ.stops = false) (hc : σ.calls ≤ 900000) (h0 : 0 ≤ i) (h1 : i < (σ.dur.length : Int)) (hs : s.size = 128) : Calls Try.prog 50 #[.pointer (some ⟨p, 0, none⟩), .int .i64 i, .string s] w fun e w' => Step p pd pm (σ.tick.put i s) w e w' := by
  have hl := h.len
  have h := Sl.write_any p pd pm σ i s w h (by omega) (by omega) (by omega)
  obtain ⟨a, b⟩ := write_ok hr h0 h1 hs
  rw [a, b] at h
  exact h
theorem flush60 (g0 p pd pm : Nat) (σ : St) (w : World) (h : SlabAt w p pd pm σ) (hr : σ.stops = false) (hc : σ.calls ≤ 900000) (hg : w.cell? ⟨g0, 0, none⟩ = some (.pointer (some ⟨p, 0, none⟩))) : Calls Try.prog 60 #[.pointer (some ⟨g0, 0, none⟩)] w fun e w' => Step p pd pm (fl σ) w e w' := by
  have HF := Lib.hid (flushC p pd pm σ w h hr hc)
  clear h
  go_enter Try.func60, Try.ntmps60
  go_wp2_with fail
  refine HF.out.mono ?_
  rintro e w1 ⟨rfl, h1, t1⟩
  have H1 := Lib.hid h1
  have T1 := Lib.hid t1
  clear h1 t1
  go_wp2
  go_ret
  exact ⟨rfl, H1.out, T1.out⟩
theorem flush62 (g0 p pd pm : Nat) (σ : St) (w : World) (h : SlabAt w p pd pm σ) (hr : σ.stops = false) (hc : σ.calls ≤ 900000) (hg : w.cell? ⟨g0, 0, none⟩ = some (.pointer (some ⟨p, 0, none⟩))) : Calls Try.prog 62 #[.pointer (some ⟨g0, 0, none⟩)] w fun e w' => Step p pd pm (fl σ) w e w' := by
  have HF := Lib.hid (flushC p pd pm σ w h hr hc)
  clear h
  go_enter Try.func62, Try.ntmps62
  go_wp2_with fail
  refine HF.out.mono ?_
  rintro e w1 ⟨rfl, h1, t1⟩
  have H1 := Lib.hid h1
  have T1 := Lib.hid t1
  clear h1 t1
  go_wp2
  go_ret
  exact ⟨rfl, H1.out, T1.out⟩
theorem flush47 (g0 p pd pm : Nat) (σ : St) (w : World) (h : SlabAt w p pd pm σ) (hr : σ.stops = false) (hc : σ.calls ≤ 900000) (hg : w.cell? ⟨g0, 0, none⟩ = some (.pointer (some ⟨p, 0, none⟩))) : Calls Try.prog 47 #[.pointer (some ⟨g0, 0, none⟩)] w fun e w' => Step p pd pm (fl σ) w e w' := by
  have HF := Lib.hid (flushC p pd pm σ w h hr hc)
  clear h
  go_enter Try.func47, Try.ntmps47
  go_wp2_with fail
  refine HF.out.mono ?_
  rintro e w1 ⟨rfl, h1, t1⟩
  have H1 := Lib.hid h1
  have T1 := Lib.hid t1
  clear h1 t1
  go_wp2
  go_ret
  exact ⟨rfl, H1.out, T1.out⟩
theorem flush52 (g0 p pd pm : Nat) (σ : St) (w : World) (h : SlabAt w p pd pm σ) (hr : σ.stops = false) (hc : σ.calls ≤ 900000) (hg : w.cell? ⟨g0, 0, none⟩ = some (.pointer (some ⟨p, 0, none⟩))) : Calls Try.prog 52 #[.pointer (some ⟨g0, 0, none⟩)] w fun e w' => Step p pd pm (fl σ) w e w' := by
  have HF := Lib.hid (flushC p pd pm σ w h hr hc)
  clear h
  go_enter Try.func52, Try.ntmps52
  go_wp2_with fail
  refine HF.out.mono ?_
  rintro e w1 ⟨rfl, h1, t1⟩
  have H1 := Lib.hid h1
  have T1 := Lib.hid t1
  clear h1 t1
  go_wp2
  go_ret
  exact ⟨rfl, H1.out, T1.out⟩

set_option maxHeartbeats 1000000 in
theorem all59 (g0 g1 p pd pm : Nat) (σ : St) (A : Option Addr) (n c B : Nat) (l : List Ch) (w : World) (hE : Env w g0 g1 p A n c) (hS : SlabAt w p pd pm σ) (hr : σ.stops = false) (hA : ChsAt w B A n l) (hO : Out A [p, pd, pm])
    (hI : InL σ.dur.length l) (hn : n ≤ 1000) (hc : σ.calls ≤ 900000) : Calls Try.prog 59 #[.pointer (some ⟨g0, 0, none⟩), .pointer (some ⟨g1, 0, none⟩)] w fun e w' => Step p pd pm (wall σ l) w e w' := by
  have HF := Lib.hid (writeAll_any p pd pm σ A n c B l w hS hr hA hO hI hn hc)
  obtain ⟨e0, e1⟩ := hE
  clear hS hA hO
  go_enter Try.func59, Try.ntmps59
  go_wp2_with fail
  refine HF.out.mono ?_
  rintro e w1 ⟨rfl, h1, t1⟩
  have H1 := Lib.hid h1
  have T1 := Lib.hid t1
  clear h1 t1
  go_wp2
  go_ret
  exact ⟨rfl, H1.out, T1.out⟩
set_option maxHeartbeats 2000000 in
theorem head61 (g0 p pd pm : Nat) (σ : St) (w : World) (hO0 : g0 ∉ [p, pd, pm]) (hS : SlabAt w p pd pm σ) (hr : σ.stops = false) (hc : σ.calls ≤ 900000) (hl : 1 < σ.dur.length) (hg : w.cell? ⟨g0, 0, none⟩ = some (.pointer (some ⟨p, 0, none⟩))) :
    Calls Try.prog 61 #[.pointer (some ⟨g0, 0, none⟩)] w fun e w' => Step p pd pm (σ.tick.put 1 (headB [])) w e w' := by
  have hgl : g0 < w.heap.size := cell_lt hg
  have HH := Lib.hid (head_any none 0 0 w.heap.size [] w.drew (IntsAt.nil _ _ _) (Nat.le_refl _) (by omega))
  have HW := Lib.hid (fun (v : World) (h : SlabAt v p pd pm σ) => writeC p pd pm σ 1 (headB []) v h hr hc (by omega) (by omega) (headB_size (by simp)))
  have HS := Lib.hid hS
  have S0 := Lib.hid hg
  generalize headB [] = z at *
  clear hS
  go_enter Try.func61, Try.ntmps61
  go_wp2_with fail
  go_region_held3 (fun v' => v'.cell? ⟨g0, 0, none⟩ = some (.pointer (some ⟨p, 0, none⟩)))
    (first | exact S0.out | exact S1.out | exact S3.out)
    (first
      | (go_at_call 50; go_must (go_fit (HW.out _ H1.out))
         rintro e w3 ⟨rfl, h3, t3⟩
         have H3 := Lib.hid h3
         have S3 := Lib.hid (t3.cell S1.out hO0)
         have T3 := Lib.hid (T1.out.trans t3)
         clear h3 t3)
      | (go_at_call 51; go_must (go_fit (HH.out))
         rintro e w2 ⟨rfl, b2⟩
         have T1 := Lib.hid ((Sl.drew_turns [p, pd, pm] w).trans (Turns.of_below [p, pd, pm] b2))
         have H1 := Lib.hid ((HS.out.keptB (Sl.drew_turns [] w)).keptB (Turns.of_below [] b2))
         have S1 := Lib.hid (bcell (C := w.heap.size) b2 (show w.drew.cell? ⟨g0, 0, none⟩ = _ from S0.out) hgl)
         clear b2))
  all_goals
    go_wp2
    go_ret
    exact ⟨rfl, H3.out, T3.out⟩

set_option maxRecDepth 100000 in
set_option maxHeartbeats 4000000 in
theorem head49 (g0 g1 p pd pm : Nat) (σ : St) (A : Option Addr) (n c B : Nat) (l : List Ch) (w : World) (hO0 : g0 ∉ [p, pd, pm]) (hO1 : g1 ∉ [p, pd, pm]) (hE : Env w g0 g1 p A n c) (hS : SlabAt w p pd pm σ) (hr : σ.stops = false) (hA : ChsAt w B A n l) (hB : B ≤ w.heap.size)
    (hn : n ≤ 40) (hc : σ.calls ≤ 900000) (hl : 1 < σ.dur.length) : Calls Try.prog 49 #[.pointer (some ⟨g0, 0, none⟩), .pointer (some ⟨g1, 0, none⟩)] w fun e w' => Step p pd pm (σ.tick.put 1 (headB (bks l))) w e w' := by
  obtain ⟨e0, e1⟩ := hE
  have hgl : g0 < w.heap.size := cell_lt e0
  have hgl1 : g1 < w.heap.size := cell_lt e1
  have hln : l.length = n := hA.len
  have HBK := Lib.hid (blocksOf_any A n c B l w.drew (hA.keep fun _ _ => rfl) hB (by omega))
  have HFIT : Hid (∀ z ∈ bks l, Fit z) := fun z hz => by
    obtain ⟨ch, hch, rfl⟩ := List.mem_map.1 hz
    exact (hA.2.1 ch hch).2
  have HLEN : Hid ((bks l).length = n) := by show _ = _; rw [bks_len, hln]
  have HSZ := Lib.hid (headB_size (bl := bks l) (by rw [bks_len, hln]; exact hn))
  have HW := Lib.hid (fun (v : World) (h : SlabAt v p pd pm σ) => writeC p pd pm σ 1 (headB (bks l)) v h hr hc (by omega) (by omega) HSZ.out)
  have HHD := Lib.hid (fun (v : World) (h : IntsAt v v.heap.size (some ⟨w.heap.size, 0, none⟩) n (bks l)) => head_any (some ⟨w.heap.size, 0, none⟩) n n v.heap.size (bks l) v h (Nat.le_refl _) hn)
  have HS := Lib.hid hS
  have S0 : Hid (w.cell? ⟨g0, 0, none⟩ = some (.pointer (some ⟨p, 0, none⟩)) ∧ w.cell? ⟨g1, 0, none⟩ = some (.slice A n c)) := ⟨e0, e1⟩
  have HBDR : Hid (Below w.heap.size w w.drew) := ⟨rfl, rfl, rfl, Nat.le_refl _, fun _ _ => rfl⟩
  generalize headB (bks l) = z at *
  generalize bks l = bl at *
  clear hS hA hln
  go_enter Try.func49, Try.ntmps49
  go_wp2_with fail
  go_region_held3 (fun v' => v'.cell? ⟨g0, 0, none⟩ = some (.pointer (some ⟨p, 0, none⟩)) ∧ v'.cell? ⟨g1, 0, none⟩ = some (.slice A n c))
    (first | exact S0.out | exact S1.out | exact S2.out | exact S3.out)
    (first
      | (go_at_call 50; go_must (go_fit (HW.out _ H2.out))
         rintro e w3 ⟨rfl, h3, t3⟩
         have H3 := Lib.hid h3
         have S3 := Lib.hid (And.intro (t3.cell S2.out.1 hO0) (t3.cell S2.out.2 hO1))
         have T3 := Lib.hid ((Turns.of_below [p, pd, pm] HB2.out).trans t3)
         clear h3 t3)
      | (go_at_call 51; go_must (go_fit (HHD.out _ HI1.out))
         rintro e w2 ⟨rfl, b2⟩
         have HB2 := Lib.hid (HB1.out.trans (b2.mono HB1.out.size))
         have H2 := Lib.hid (HS.out.keptB (Turns.of_below [] HB2.out))
         have S2 := Lib.hid (And.intro (bcell HB2.out S0.out.1 hgl) (bcell HB2.out S0.out.2 hgl1))
         clear b2)
      | (go_at_call 42; go_must (go_fit (HBK.out))
         rintro e w1 ⟨rfl, r1, b1⟩
         have HB1 := Lib.hid (HBDR.out.trans b1)
         have hi := r1.ints (B := w1.heap.size) HFIT.out r1.lt
         rw [HLEN.out] at hi
         have HI1 := Lib.hid hi
         have S1 := Lib.hid (And.intro (bcell HB1.out S0.out.1 hgl) (bcell HB1.out S0.out.2 hgl1))
         clear b1 r1 hi))
  all_goals
    go_wp2
    go_ret
    exact ⟨rfl, H3.out, T3.out⟩

set_option maxHeartbeats 2000000 in
theorem moved44 (g0 g1 p pd pm : Nat) (σ : St) (A : Option Addr) (n c B : Nat) (l : List Ch) (w : World) (hO0 : g0 ∉ [p, pd, pm]) (hO1 : g1 ∉ [p, pd, pm]) (hE : Env w g0 g1 p A n c) (hS : SlabAt w p pd pm σ) (hr : σ.stops = false) (hA : ChsAt w B A n l) (hB : B ≤ w.heap.size)
    (hI : InL σ.dur.length (movedL l)) (hn : n ≤ 40) (hc : σ.calls ≤ 900000) : Calls Try.prog 44 #[.pointer (some ⟨g0, 0, none⟩), .pointer (some ⟨g1, 0, none⟩)] w fun e w' => Step p pd pm (wall σ (movedL l)) w e w' := by
  obtain ⟨e0, e1⟩ := hE
  have hgl : g0 < w.heap.size := cell_lt e0
  have hgl1 : g1 < w.heap.size := cell_lt e1
  have hp := hS.lt_p
  have hpd := hS.lt_d
  have hpm := hS.lt_m
  have HMV := Lib.hid (moved_any A n c B l w.drew (hA.keep fun _ _ => rfl) hB (by omega))
  have HFIT : Hid (∀ z ∈ movedL l, z.fit) := fun z hz => by
    obtain ⟨k, hk, rfl⟩ := List.mem_map.1 hz
    have hkl := List.mem_range.1 hk
    have hln := hA.len
    exact ⟨(hA.bd k).1, by show -9223372036854775808 ≤ 2 + (k : Int) ∧ 2 + (k : Int) ≤ 9223372036854775807; omega⟩
  have HLEN : Hid ((movedL l).length = n) := by show _ = _; rw [movedL_len, hA.len]
  have HW := Lib.hid (fun (v : World) (h : SlabAt v p pd pm σ) (hi : ChsAt v v.heap.size (some ⟨w.heap.size, 0, none⟩) n (movedL l)) => writeAll_any p pd pm σ (some ⟨w.heap.size, 0, none⟩) n n v.heap.size (movedL l) v h hr hi (by intro a ha; cases ha; simp; omega) hI (by omega) hc)
  have HS := Lib.hid hS
  have S0 : Hid (w.cell? ⟨g0, 0, none⟩ = some (.pointer (some ⟨p, 0, none⟩)) ∧ w.cell? ⟨g1, 0, none⟩ = some (.slice A n c)) := ⟨e0, e1⟩
  have HBDR : Hid (Below w.heap.size w w.drew) := ⟨rfl, rfl, rfl, Nat.le_refl _, fun _ _ => rfl⟩
  generalize movedL l = ml at *
  clear hS hA
  go_enter Try.func44, Try.ntmps44
  go_wp2_with fail
  go_region_held3 (fun v' => v'.cell? ⟨g0, 0, none⟩ = some (.pointer (some ⟨p, 0, none⟩)) ∧ v'.cell? ⟨g1, 0, none⟩ = some (.slice A n c))
    (first | exact S0.out | exact S1.out | exact S3.out)
    (first
      | (go_at_call 45; go_must (go_fit (HW.out _ H1.out HI1.out))
         rintro e w3 ⟨rfl, h3, t3⟩
         have H3 := Lib.hid h3
         have S3 := Lib.hid (And.intro (t3.cell S1.out.1 hO0) (t3.cell S1.out.2 hO1))
         have T3 := Lib.hid ((Turns.of_below [p, pd, pm] HB1.out).trans t3)
         clear h3 t3)
      | (go_at_call 46; go_must (go_fit (HMV.out))
         rintro e w1 ⟨rfl, r1, b1⟩
         have HB1 := Lib.hid (HBDR.out.trans b1)
         have hi := r1.chs (B := w1.heap.size) HFIT.out r1.lt
         rw [HLEN.out] at hi
         have HI1 := Lib.hid hi
         have H1 := Lib.hid (HS.out.keptB (Turns.of_below [] HB1.out))
         have S1 := Lib.hid (And.intro (bcell HB1.out S0.out.1 hgl) (bcell HB1.out S0.out.2 hgl1))
         clear b1 r1 hi))
  all_goals
    go_wp2
    go_ret
    exact ⟨rfl, H3.out, T3.out⟩
end Go.Proofs.Ytpljifeebbeakaa
