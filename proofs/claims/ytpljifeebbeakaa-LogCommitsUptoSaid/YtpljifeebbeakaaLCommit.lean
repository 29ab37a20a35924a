/-
  WALKS: apply and commit, where the slab does not stop. Conditions: at most 40 changes, fewer than 800000 calls so far.
-/
import Derived.Test.YtpljifeebbeakaaLApply
namespace Go.Proofs.Ytpljifeebbeakaa
open Go.RowKit
open Sl (St SlabAt Turns)

/-- the states between the steps of apply. -/
def apSt (σ : St) (l : List Ch) : Nat → St
  | 0 => σ
  | 1 => wall σ l
  | 2 => fl (wall σ l)
  | 3 => (fl (wall σ l)).tick.put 1 (headB [])
  | _ => fl ((fl (wall σ l)).tick.put 1 (headB []))
def applyS (σ : St) (l : List Ch) : St := apSt σ l 4
theorem wall_calls (σ : St) (l : List Ch) : (wall σ l).calls = σ.calls + l.length := (wall_same l σ).2.2.2
theorem apSt_same (σ : St) (l : List Ch) : ∀ k, (apSt σ l k).stops = σ.stops ∧ (apSt σ l k).calls ≤ σ.calls + l.length + 4 ∧ (apSt σ l k).dur.length = σ.dur.length
  | 0 => ⟨rfl, by show σ.calls ≤ _; omega, rfl⟩
  | 1 => by
    obtain ⟨a, b, _, d⟩ := wall_same l σ
    exact ⟨b, by show (wall σ l).calls ≤ _; omega, by show (wall σ l).dur.length = _; rw [a]⟩
  | 2 => by
    obtain ⟨a, b, _, d⟩ := wall_same l σ
    exact ⟨b, by show (wall σ l).calls + 1 ≤ _; omega, by show (wall σ l).img.length = _; rw [Sl.St.img_len, a]⟩
  | 3 => by
    obtain ⟨a, b, _, d⟩ := wall_same l σ
    exact ⟨b, by show (wall σ l).calls + 1 + 1 ≤ _; omega, by show (wall σ l).img.length = _; rw [Sl.St.img_len, a]⟩
  | k + 4 => by
    obtain ⟨a, b, _, d⟩ := wall_same l σ
    refine ⟨b, by show (wall σ l).calls + 1 + 1 + 1 ≤ _; omega, ?_⟩
    show ((fl (wall σ l)).tick.put 1 (headB [])).img.length = _
    rw [Sl.St.img_len]
    show (wall σ l).img.length = _
    rw [Sl.St.img_len, a]

def apF (k : Nat) : FuncId := [59, 60, 61, 62].getD k 0
def apC (b0 b1 : Nat) (k : Nat) : Array Value := [#[.pointer (some ⟨b0, 0, none⟩), .pointer (some ⟨b1, 0, none⟩)], #[.pointer (some ⟨b0, 0, none⟩)], #[.pointer (some ⟨b0, 0, none⟩)], #[.pointer (some ⟨b0, 0, none⟩)]].getD k #[]
theorem apF_run (b0 b1 : Nat) (k : Nat) (hk : k < 4) (w : World) : (callFunc (apF k) (apC b0 b1 k)).run Try.prog w = .ok (.enter (apF k) (apC b0 b1 k)) w := by
  rcases (by omega : k = 0 ∨ k = 1 ∨ k = 2 ∨ k = 3) with rfl | rfl | rfl | rfl
  · have h : ∀ C : Array Value, (callFunc 59 C).run Try.prog w = .ok (.enter 59 C) w := fun C => by kernel_rfl
    exact h _
  · have h : ∀ C : Array Value, (callFunc 60 C).run Try.prog w = .ok (.enter 60 C) w := fun C => by kernel_rfl
    exact h _
  · have h : ∀ C : Array Value, (callFunc 61 C).run Try.prog w = .ok (.enter 61 C) w := fun C => by kernel_rfl
    exact h _
  · have h : ∀ C : Array Value, (callFunc 62 C).run Try.prog w = .ok (.enter 62 C) w := fun C => by kernel_rfl
    exact h _

set_option maxRecDepth 100000 in
/-- inOrder over the steps of apply. -/
theorem apply_steps (g b0 b1 c0 p pd pm : Nat) (σ : St) (A : Option Addr) (n c B : Nat) (l : List Ch) (w : World) (hS : SlabAt w p pd pm σ) (hr : σ.stops = false) (hA : ChsAt w B A n l) (hO : Out A [p, pd, pm])
    (hI : InL σ.dur.length l) (hn : n ≤ 40) (hc : σ.calls ≤ 800000) (hl : 1 < σ.dur.length) (hE : Env w b0 b1 p A n c) (h0 : b0 ∉ [p, pd, pm]) (h1 : b1 ∉ [p, pd, pm]) (hg : g ∉ [p, pd, pm])
    (hf : ∀ k, k < 4 → w.cell? ⟨g, k, none⟩ = some (.func (.func (apF k)) #[] (apC b0 b1 k))) :
    Calls Try.prog 43 #[.slice (some ⟨g, 0, none⟩) 4 c0] w fun e w' => Step p pd pm (applyS σ l) w e w' := by
  have hln := hA.len
  refine (inOrder_any g 4 c0 apF (apC b0 b1) (fun k w' => SlabAt w' p pd pm (apSt σ l k) ∧ Turns [p, pd, pm] w w') w (by omega) ?_ ?_ ?_ ?_).mono ?_
  · intro k w' hk h
    exact h.2.cell (hf k hk) hg
  · exact fun k hk w' => apF_run b0 b1 k hk w'
  · intro k w' hk h
    obtain ⟨hs, ht⟩ := h
    obtain ⟨e1, e2, e3⟩ := apSt_same σ l k
    have hE' := hE.turns ht h0 h1
    rcases (by omega : k = 0 ∨ k = 1 ∨ k = 2 ∨ k = 3) with rfl | rfl | rfl | rfl
    · exact (all59 b0 b1 p pd pm σ A n c B l w' hE' hs hr (hA.turns ht hO) hO hI (by omega) (by omega)).mono fun e w'' h => ⟨h.1, h.2.1, ht.trans h.2.2⟩
    · exact (flush60 b0 p pd pm _ w' hs (e1.trans hr) (by omega) hE'.1).mono fun e w'' h => ⟨h.1, h.2.1, ht.trans h.2.2⟩
    · exact (head61 b0 p pd pm _ w' h0 hs (e1.trans hr) (by omega) (by rw [e3]; exact hl) hE'.1).mono fun e w'' h => ⟨h.1, h.2.1, ht.trans h.2.2⟩
    · exact (flush62 b0 p pd pm _ w' hs (e1.trans hr) (by omega) hE'.1).mono fun e w'' h => ⟨h.1, h.2.1, ht.trans h.2.2⟩
  · exact ⟨hS, Turns.refl _ _⟩
  · intro e w' h
    exact h

set_option maxRecDepth 100000 in
set_option maxHeartbeats 2000000 in
theorem apply_any (p pd pm : Nat) (σ : St) (A : Option Addr) (n c B : Nat) (l : List Ch) (w : World) (hS : SlabAt w p pd pm σ) (hr : σ.stops = false) (hA : ChsAt w B A n l) (hO : Out A [p, pd, pm])
    (hI : InL σ.dur.length l) (hn : n ≤ 40) (hc : σ.calls ≤ 800000) (hl : 1 < σ.dur.length) :
    Calls Try.prog 38 #[.pointer (some ⟨p, 0, none⟩), .slice A n c] w fun e w' => Step p pd pm (applyS σ l) w e w' := by
  obtain ⟨FS, hFS⟩ : ∃ FS : Array Value, FS = #[.func (.func 59) #[] #[.pointer (some ⟨w.heap.size, 0, none⟩), .pointer (some ⟨w.heap.size + 1, 0, none⟩)], .func (.func 60) #[] #[.pointer (some ⟨w.heap.size, 0, none⟩)], .func (.func 61) #[] #[.pointer (some ⟨w.heap.size, 0, none⟩)], .func (.func 62) #[] #[.pointer (some ⟨w.heap.size, 0, none⟩)]] := ⟨_, rfl⟩
  obtain ⟨W, hW⟩ : ∃ W : World, W = ((w.alloc (.cells #[.pointer (some ⟨p, 0, none⟩)] 26)).alloc (.cells #[.slice A n c] 34)).alloc (.cells FS 82) := ⟨_, rfl⟩
  have ht : Turns [] w W := by rw [hW]; exact ((Turns.alloc _ _ _).trans (Turns.alloc _ _ _)).trans (Turns.alloc _ _ _)
  have hp := hS.lt_p
  have hd := hS.lt_d
  have hm := hS.lt_m
  have hE : Env W w.heap.size (w.heap.size + 1) p A n c := by
    rw [hW]
    refine ⟨?_, ?_⟩
    · refine bcell ((Below.refl (w.alloc (.cells #[.pointer (some ⟨p, 0, none⟩)] 26)).heap.size _).alloc (by simp) _ |>.alloc (by simp) _) (cell_new w _ 26 0 rfl) (by simp)
    · have h := cell_new (w.alloc (.cells #[.pointer (some ⟨p, 0, none⟩)] 26)) #[.slice A n c] 34 0 (v := .slice A n c) rfl
      have e : (w.alloc (.cells #[.pointer (some ⟨p, 0, none⟩)] 26)).heap.size = w.heap.size + 1 := by simp
      rw [e] at h
      exact bcell ((Below.refl ((w.alloc (.cells #[.pointer (some ⟨p, 0, none⟩)] 26)).alloc (.cells #[.slice A n c] 34)).heap.size _).alloc (Nat.le_refl _) _) h (by simp)
  have hf : ∀ k, k < 4 → W.cell? ⟨w.heap.size + 1 + 1, k, none⟩ = some (.func (.func (apF k)) #[] (apC w.heap.size (w.heap.size + 1) k)) := by
    intro k hk
    have e : ((w.alloc (.cells #[.pointer (some ⟨p, 0, none⟩)] 26)).alloc (.cells #[.slice A n c] 34)).heap.size = w.heap.size + 1 + 1 := by simp
    rw [hW, ← e]
    refine cell_new _ FS 82 k ?_
    rw [hFS]
    rcases (by omega : k = 0 ∨ k = 1 ∨ k = 2 ∨ k = 3) with rfl | rfl | rfl | rfl <;> rfl
  have HST := Lib.hid (apply_steps (w.heap.size + 1 + 1) w.heap.size (w.heap.size + 1) 4 p pd pm σ A n c B l W (hS.keptB ht) hr (hA.turns ht (fun _ _ => by simp)) hO hI hn hc hl hE (by simp; omega) (by simp; omega) (by simp; omega) hf)
  have HT := Lib.hid (ht.mono (L' := [p, pd, pm]) (by simp))
  rw [hW, hFS] at HST
  rw [hW, hFS] at HT
  have hmf : ∀ (fn : Fn) (first cap : Array Value) (w : World), (Instr.makeFunc fn first cap).run Try.prog w = .ok (.func fn first cap) w := fun _ _ _ _ => rfl
  clear hS hA hO hE hf ht hW hFS hp hd hm
  go_enter Try.func38, Try.ntmps38
  go_wp2_with fail
  refine HST.out.mono ?_
  rintro e w1 ⟨rfl, h1, t1⟩
  have H1 := Lib.hid h1
  have T1 := Lib.hid (HT.out.trans t1)
  clear h1 t1
  go_wp2
  go_ret
  exact ⟨rfl, H1.out, T1.out⟩

theorem movedL_in {l : List Ch} {N : Nat} (h : ∀ c ∈ l, c.dt.size = 128) (hn : l.length ≤ 40) (hN : 42 ≤ N) : InL N (movedL l) := by
  intro c hc
  obtain ⟨k, hk, rfl⟩ := List.mem_map.1 hc
  have hkl := List.mem_range.1 hk
  refine ⟨by show (0 : Int) ≤ 2 + (k : Int); omega, by show 2 + (k : Int) < (N : Int); omega, ?_⟩
  have e : l.getD k Ch.z = l[k] := by simp [List.getD, hkl]
  show (l.getD k Ch.z).dt.size = 128
  rw [e]; exact h _ (List.getElem_mem hkl)

/-- the states between the steps of commit. -/
def cmSt (σ : St) (l : List Ch) : Nat → St
  | 0 => σ
  | 1 => wall σ (movedL l)
  | 2 => fl (wall σ (movedL l))
  | 3 => (fl (wall σ (movedL l))).tick.put 1 (headB (bks l))
  | 4 => fl ((fl (wall σ (movedL l))).tick.put 1 (headB (bks l)))
  | _ => applyS (fl ((fl (wall σ (movedL l))).tick.put 1 (headB (bks l)))) l
def commitS (σ : St) (l : List Ch) : St := cmSt σ l 5
theorem cmSt_same (σ : St) (l : List Ch) : ∀ k, k ≤ 4 → (cmSt σ l k).stops = σ.stops ∧ (cmSt σ l k).calls ≤ σ.calls + l.length + 4 ∧ (cmSt σ l k).dur.length = σ.dur.length
  | 0, _ => ⟨rfl, by show σ.calls ≤ _; omega, rfl⟩
  | 1, _ => by
    obtain ⟨a, b, _, d⟩ := wall_same (movedL l) σ
    rw [movedL_len] at d
    exact ⟨b, by show (wall σ (movedL l)).calls ≤ _; omega, by show (wall σ (movedL l)).dur.length = _; rw [a]⟩
  | 2, _ => by
    obtain ⟨a, b, _, d⟩ := wall_same (movedL l) σ
    rw [movedL_len] at d
    exact ⟨b, by show (wall σ (movedL l)).calls + 1 ≤ _; omega, by show (wall σ (movedL l)).img.length = _; rw [Sl.St.img_len, a]⟩
  | 3, _ => by
    obtain ⟨a, b, _, d⟩ := wall_same (movedL l) σ
    rw [movedL_len] at d
    exact ⟨b, by show (wall σ (movedL l)).calls + 1 + 1 ≤ _; omega, by show (wall σ (movedL l)).img.length = _; rw [Sl.St.img_len, a]⟩
  | 4, _ => by
    obtain ⟨a, b, _, d⟩ := wall_same (movedL l) σ
    rw [movedL_len] at d
    refine ⟨b, by show (wall σ (movedL l)).calls + 1 + 1 + 1 ≤ _; omega, ?_⟩
    show ((fl (wall σ (movedL l))).tick.put 1 (headB (bks l))).img.length = _
    rw [Sl.St.img_len]
    show (wall σ (movedL l)).img.length = _
    rw [Sl.St.img_len, a]
  | k + 5, h => by omega

set_option maxHeartbeats 1000000 in
theorem apply53 (g0 g1 p pd pm : Nat) (σ : St) (A : Option Addr) (n c B : Nat) (l : List Ch) (w : World) (hE : Env w g0 g1 p A n c) (hS : SlabAt w p pd pm σ) (hr : σ.stops = false) (hA : ChsAt w B A n l) (hO : Out A [p, pd, pm])
    (hI : InL σ.dur.length l) (hn : n ≤ 40) (hc : σ.calls ≤ 800000) (hl : 1 < σ.dur.length) : Calls Try.prog 53 #[.pointer (some ⟨g0, 0, none⟩), .pointer (some ⟨g1, 0, none⟩)] w fun e w' => Step p pd pm (applyS σ l) w e w' := by
  have HF := Lib.hid (apply_any p pd pm σ A n c B l w hS hr hA hO hI hn hc hl)
  obtain ⟨e0, e1⟩ := hE
  clear hS hA hO
  go_enter Try.func53, Try.ntmps53
  go_wp2_with fail
  refine HF.out.mono ?_
  rintro e w1 ⟨rfl, h1, t1⟩
  have H1 := Lib.hid h1
  have T1 := Lib.hid t1
  clear h1 t1
  go_wp2
  go_ret
  exact ⟨rfl, H1.out, T1.out⟩

def cmF (k : Nat) : FuncId := [44, 47, 49, 52, 53].getD k 0
def cmC (b0 b1 : Nat) (k : Nat) : Array Value := [#[.pointer (some ⟨b0, 0, none⟩), .pointer (some ⟨b1, 0, none⟩)], #[.pointer (some ⟨b0, 0, none⟩)], #[.pointer (some ⟨b0, 0, none⟩), .pointer (some ⟨b1, 0, none⟩)], #[.pointer (some ⟨b0, 0, none⟩)], #[.pointer (some ⟨b0, 0, none⟩), .pointer (some ⟨b1, 0, none⟩)]].getD k #[]
theorem cmF_run (b0 b1 : Nat) (k : Nat) (hk : k < 5) (w : World) : (callFunc (cmF k) (cmC b0 b1 k)).run Try.prog w = .ok (.enter (cmF k) (cmC b0 b1 k)) w := by
  rcases (by omega : k = 0 ∨ k = 1 ∨ k = 2 ∨ k = 3 ∨ k = 4) with rfl | rfl | rfl | rfl | rfl
  · have h : ∀ C : Array Value, (callFunc 44 C).run Try.prog w = .ok (.enter 44 C) w := fun C => by kernel_rfl
    exact h _
  · have h : ∀ C : Array Value, (callFunc 47 C).run Try.prog w = .ok (.enter 47 C) w := fun C => by kernel_rfl
    exact h _
  · have h : ∀ C : Array Value, (callFunc 49 C).run Try.prog w = .ok (.enter 49 C) w := fun C => by kernel_rfl
    exact h _
  · have h : ∀ C : Array Value, (callFunc 52 C).run Try.prog w = .ok (.enter 52 C) w := fun C => by kernel_rfl
    exact h _
  · have h : ∀ C : Array Value, (callFunc 53 C).run Try.prog w = .ok (.enter 53 C) w := fun C => by kernel_rfl
    exact h _

set_option maxRecDepth 100000 in
/-- inOrder over the steps of commit. -/
theorem commit_steps (g b0 b1 c0 p pd pm : Nat) (σ : St) (A : Option Addr) (n c B : Nat) (l : List Ch) (w : World) (hS : SlabAt w p pd pm σ) (hr : σ.stops = false) (hA : ChsAt w B A n l) (hB : B ≤ w.heap.size) (hO : Out A [p, pd, pm])
    (hI : InL σ.dur.length l) (hn : n ≤ 40) (hc : σ.calls ≤ 700000) (hl : 42 ≤ σ.dur.length) (hE : Env w b0 b1 p A n c) (h0 : b0 ∉ [p, pd, pm]) (h1 : b1 ∉ [p, pd, pm]) (hg : g ∉ [p, pd, pm])
    (hf : ∀ k, k < 5 → w.cell? ⟨g, k, none⟩ = some (.func (.func (cmF k)) #[] (cmC b0 b1 k))) :
    Calls Try.prog 43 #[.slice (some ⟨g, 0, none⟩) 5 c0] w fun e w' => Step p pd pm (commitS σ l) w e w' := by
  have hln := hA.len
  refine (inOrder_any g 5 c0 cmF (cmC b0 b1) (fun k w' => SlabAt w' p pd pm (cmSt σ l k) ∧ Turns [p, pd, pm] w w') w (by omega) ?_ ?_ ?_ ?_).mono ?_
  · intro k w' hk h
    exact h.2.cell (hf k hk) hg
  · exact fun k hk w' => cmF_run b0 b1 k hk w'
  · intro k w' hk h
    obtain ⟨hs, ht⟩ := h
    obtain ⟨e1, e2, e3⟩ := cmSt_same σ l k (by omega)
    have hE' := hE.turns ht h0 h1
    have hB' := Nat.le_trans hB ht.size
    rcases (by omega : k = 0 ∨ k = 1 ∨ k = 2 ∨ k = 3 ∨ k = 4) with rfl | rfl | rfl | rfl | rfl
    · exact (moved44 b0 b1 p pd pm σ A n c B l w' h0 h1 hE' hs hr (hA.turns ht hO) hB' (movedL_in (fun c hc => (hI c hc).2.2) (by omega) hl) hn (by omega)).mono fun e w'' h => ⟨h.1, h.2.1, ht.trans h.2.2⟩
    · exact (flush47 b0 p pd pm _ w' hs (e1.trans hr) (by omega) hE'.1).mono fun e w'' h => ⟨h.1, h.2.1, ht.trans h.2.2⟩
    · exact (head49 b0 b1 p pd pm _ A n c B l w' h0 h1 hE' hs (e1.trans hr) (hA.turns ht hO) hB' hn (by omega) (by omega)).mono fun e w'' h => ⟨h.1, h.2.1, ht.trans h.2.2⟩
    · exact (flush52 b0 p pd pm _ w' hs (e1.trans hr) (by omega) hE'.1).mono fun e w'' h => ⟨h.1, h.2.1, ht.trans h.2.2⟩
    · exact (apply53 b0 b1 p pd pm _ A n c B l w' hE' hs (e1.trans hr) (hA.turns ht hO) hO (by rw [e3]; exact hI) hn (by omega) (by omega)).mono fun e w'' h => ⟨h.1, h.2.1, ht.trans h.2.2⟩
  · exact ⟨hS, Turns.refl _ _⟩
  · intro e w' h
    exact h

set_option maxRecDepth 100000 in
set_option maxHeartbeats 2000000 in
theorem commit_any (p pd pm : Nat) (σ : St) (A : Option Addr) (n c B : Nat) (l : List Ch) (w : World) (hS : SlabAt w p pd pm σ) (hr : σ.stops = false) (hA : ChsAt w B A n l) (hB : B ≤ w.heap.size) (hO : Out A [p, pd, pm])
    (hI : InL σ.dur.length l) (hn : n ≤ 40) (hc : σ.calls ≤ 700000) (hl : 42 ≤ σ.dur.length) :
    Calls Try.prog 31 #[.pointer (some ⟨p, 0, none⟩), .slice A n c] w fun e w' => Step p pd pm (commitS σ l) w e w' := by
  obtain ⟨FS, hFS⟩ : ∃ FS : Array Value, FS = #[.func (.func 44) #[] #[.pointer (some ⟨w.heap.size, 0, none⟩), .pointer (some ⟨w.heap.size + 1, 0, none⟩)], .func (.func 47) #[] #[.pointer (some ⟨w.heap.size, 0, none⟩)], .func (.func 49) #[] #[.pointer (some ⟨w.heap.size, 0, none⟩), .pointer (some ⟨w.heap.size + 1, 0, none⟩)], .func (.func 52) #[] #[.pointer (some ⟨w.heap.size, 0, none⟩)], .func (.func 53) #[] #[.pointer (some ⟨w.heap.size, 0, none⟩), .pointer (some ⟨w.heap.size + 1, 0, none⟩)]] := ⟨_, rfl⟩
  obtain ⟨W, hW⟩ : ∃ W : World, W = ((w.alloc (.cells #[.pointer (some ⟨p, 0, none⟩)] 26)).alloc (.cells #[.slice A n c] 34)).alloc (.cells FS 82) := ⟨_, rfl⟩
  have ht : Turns [] w W := by rw [hW]; exact ((Turns.alloc _ _ _).trans (Turns.alloc _ _ _)).trans (Turns.alloc _ _ _)
  have hp := hS.lt_p
  have hd := hS.lt_d
  have hm := hS.lt_m
  have hE : Env W w.heap.size (w.heap.size + 1) p A n c := by
    rw [hW]
    refine ⟨?_, ?_⟩
    · refine bcell ((Below.refl (w.alloc (.cells #[.pointer (some ⟨p, 0, none⟩)] 26)).heap.size _).alloc (by simp) _ |>.alloc (by simp) _) (cell_new w _ 26 0 rfl) (by simp)
    · have h := cell_new (w.alloc (.cells #[.pointer (some ⟨p, 0, none⟩)] 26)) #[.slice A n c] 34 0 (v := .slice A n c) rfl
      have e : (w.alloc (.cells #[.pointer (some ⟨p, 0, none⟩)] 26)).heap.size = w.heap.size + 1 := by simp
      rw [e] at h
      exact bcell ((Below.refl ((w.alloc (.cells #[.pointer (some ⟨p, 0, none⟩)] 26)).alloc (.cells #[.slice A n c] 34)).heap.size _).alloc (Nat.le_refl _) _) h (by simp)
  have hf : ∀ k, k < 5 → W.cell? ⟨w.heap.size + 1 + 1, k, none⟩ = some (.func (.func (cmF k)) #[] (cmC w.heap.size (w.heap.size + 1) k)) := by
    intro k hk
    have e : ((w.alloc (.cells #[.pointer (some ⟨p, 0, none⟩)] 26)).alloc (.cells #[.slice A n c] 34)).heap.size = w.heap.size + 1 + 1 := by simp
    rw [hW, ← e]
    refine cell_new _ FS 82 k ?_
    rw [hFS]
    rcases (by omega : k = 0 ∨ k = 1 ∨ k = 2 ∨ k = 3 ∨ k = 4) with rfl | rfl | rfl | rfl | rfl <;> rfl
  have HST := Lib.hid (commit_steps (w.heap.size + 1 + 1) w.heap.size (w.heap.size + 1) 5 p pd pm σ A n c B l W (hS.keptB ht) hr (hA.turns ht (fun _ _ => by simp)) (Nat.le_trans hB ht.size) hO hI hn hc hl hE (by simp; omega) (by simp; omega) (by simp; omega) hf)
  have HT := Lib.hid (ht.mono (L' := [p, pd, pm]) (by simp))
  rw [hW, hFS] at HST
  rw [hW, hFS] at HT
  have hmf : ∀ (fn : Fn) (first cap : Array Value) (w : World), (Instr.makeFunc fn first cap).run Try.prog w = .ok (.func fn first cap) w := fun _ _ _ _ => rfl
  clear hS hA hO hE hf ht hW hFS hp hd hm
  go_enter Try.func31, Try.ntmps31
  go_wp2_with fail
  refine HST.out.mono ?_
  rintro e w1 ⟨rfl, h1, t1⟩
  have H1 := Lib.hid h1
  have T1 := Lib.hid (HT.out.trans t1)
  clear h1 t1
  go_wp2
  go_ret
  exact ⟨rfl, H1.out, T1.out⟩
end Go.Proofs.Ytpljifeebbeakaa
