/-
  WALKS: replay and Open, where the slab does not stop and no block is loose. Conditions: blocks of 128 bytes, fewer than 700000 calls so far.
-/
import Derived.Test.YtpljifeebbeakaaLCommit
namespace Go.Proofs.Ytpljifeebbeakaa
open Go.RowKit
open Sl (St SlabAt Turns)

/-! ### the states, in plain words -/
def Whole (D : List ByteArray) : Prop := ∀ s ∈ D, s.size = 128
theorem Whole.get {D : List ByteArray} (h : Whole D) {k : Nat} (hk : k < D.length) : (D.getD k ⟨#[]⟩).size = 128 := by
  have e : D.getD k ⟨#[]⟩ = D[k] := by simp [List.getD, hk]
  rw [e]; exact h _ (List.getElem_mem hk)
theorem Whole.set {D : List ByteArray} (h : Whole D) (k : Nat) {s : ByteArray} (hs : s.size = 128) : Whole (D.set k s) := by
  intro x hx
  rcases List.mem_or_eq_of_mem_set hx with e | e
  · exact h x e
  · rw [e]; exact hs
theorem Whole.setL (l : List Ch) : ∀ {D : List ByteArray}, Whole D → (∀ c ∈ l, c.dt.size = 128) → Whole (setL D l) := by
  induction l with
  | nil => intro D h _; exact h
  | cons c r ih =>
    intro D h hl
    exact ih (h.set _ (hl c (by simp))) (fun d hd => hl d (by simp [hd]))
theorem read_FS {D : List ByteArray} {c k : Nat} (hk : k < D.length) : (FS D c).read (k : Int) = D.getD k ⟨#[]⟩ := by
  unfold Sl.St.read Sl.St.has Sl.St.at FS
  simp [hk]
theorem fl_one {D : List ByteArray} {c : Nat} {s : ByteArray} (hs : s.size = 128) (hl : 1 < D.length) : fl ((FS D c).tick.put 1 s) = FS (D.set 1 s) (c + 2) := by
  have h := fl_wall (D := D) (c := c) (l := [⟨1, s⟩]) (fun x hx => by
    obtain rfl := List.mem_singleton.1 hx
    exact ⟨by show (0 : Int) ≤ 1; decide, by show (1 : Int) < (D.length : Int); omega, hs⟩)
  exact h
theorem z_size : (headB []).size = 128 := headB_size (by simp)
theorem applyS_FS {D : List ByteArray} {c : Nat} {l : List Ch} (hI : InL D.length l) (hl : 1 < D.length) : applyS (FS D c) l = FS ((setL D l).set 1 (headB [])) (c + l.length + 3) := by
  show fl ((fl (wall (FS D c) l)).tick.put 1 (headB [])) = _
  rw [fl_wall hI, fl_one z_size (by rw [setL_len]; exact hl)]
/-- the blocks behind a commit. -/
def cmD (D : List ByteArray) (l : List Ch) : List ByteArray := (setL ((setL D (movedL l)).set 1 (headB (bks l))) l).set 1 (headB [])
theorem commitS_FS {D : List ByteArray} {c : Nat} {l : List Ch} (hI : InL D.length l) (hn : l.length ≤ 40) (hl : 42 ≤ D.length) : commitS (FS D c) l = FS (cmD D l) (c + 2 * l.length + 6) := by
  have hm := movedL_in (N := D.length) (fun c hc => (hI c hc).2.2) hn hl
  have hl1 : (setL D (movedL l)).length = D.length := setL_len _ _
  have hl2 : ((setL D (movedL l)).set 1 (headB (bks l))).length = D.length := by rw [List.length_set, hl1]
  show applyS (fl ((fl (wall (FS D c) (movedL l))).tick.put 1 (headB (bks l)))) l = _
  rw [fl_wall hm, fl_one (headB_size (by rw [bks_len]; exact hn)) (by rw [hl1]; omega), applyS_FS (by rw [hl2]; exact hI) (by rw [hl2]; omega), movedL_len]
  show FS (cmD D l) _ = _
  congr 1
  omega
/-- the blocks behind a recovery, and the calls it takes. -/
def rpD (D : List ByteArray) : List ByteArray := if (hdL (D.getD 1 ⟨#[]⟩)).length = 0 then D else (setL D (loggedL D (hdL (D.getD 1 ⟨#[]⟩)))).set 1 (headB [])
def rpC (D : List ByteArray) (c : Nat) : Nat := if (hdL (D.getD 1 ⟨#[]⟩)).length = 0 then c else c + (hdL (D.getD 1 ⟨#[]⟩)).length + 3
def okD (D : List ByteArray) : Bool := hdOk (D.getD 1 ⟨#[]⟩) D.length
theorem loggedL_in {D : List ByteArray} {bl : List Int} (hw : Whole D) (hl : 42 ≤ D.length) (hn : bl.length ≤ 40) (hc : chB D.length bl = true) : InL D.length (loggedL D bl) := by
  intro c hcc
  obtain ⟨k, hk, rfl⟩ := List.mem_map.1 hcc
  have hkl := List.mem_range.1 hk
  obtain ⟨a, b, _⟩ := okAt_t.1 (chB_t.1 hc k hkl)
  exact ⟨a, b, hw.get (by omega)⟩
theorem hdOk_t {s : ByteArray} {N : Nat} (h : hdOk s N = true) : cntH s ≤ 40 ∧ chB N (hdL s) = true ∧ headB (hdL s) = s := by
  unfold hdOk at h
  simp only [Bool.and_eq_true, decide_eq_true_eq] at h
  exact h

set_option maxRecDepth 100000 in
set_option maxHeartbeats 4000000 in
theorem replay_any (p pd pm : Nat) (D : List ByteArray) (c : Nat) (w : World) (hS : SlabAt w p pd pm (FS D c)) (hw : Whole D) (hl : 64 ≤ D.length) (hc : c ≤ 700000) :
    Calls Try.prog 28 #[.pointer (some ⟨p, 0, none⟩)] w fun e w' => Turns [p, pd, pm] w w' ∧ (okD D = false → e = .returned (.int .i64 15) ∧ SlabAt w' p pd pm (FS D c)) ∧
      (okD D = true → e = .returned (.int .i64 0) ∧ SlabAt w' p pd pm (FS (rpD D) (rpC D c))) := by
  have HR := Lib.hid (readHead_any p pd pm (FS D c) (D.getD 1 ⟨#[]⟩) w hS (read_FS (k := 1) (by omega)) (hw.get (by omega)))
  have HS := Lib.hid hS
  have hdl : (FS D c).dur.length = D.length := rfl
  rw [hdl] at HR
  clear hdl
  cases hok : okD D with
  | false =>
    have HOK : Hid (hdOk (D.getD 1 ⟨#[]⟩) D.length = false) := hok
    clear hS hok
    go_enter Try.func28, Try.ntmps28
    go_wp2_with fail
    refine HR.out.mono ?_
    rintro e w1 ⟨A, n, c1, z, rfl, b1, h15, _⟩
    obtain rfl := h15 HOK.out
    have HB1 := Lib.hid b1
    clear h15 b1
    go_wp2
    go_ret
    exact ⟨Turns.of_below _ HB1.out, fun _ => ⟨rfl, HS.out.keptB (Turns.of_below [] HB1.out)⟩, fun h => by cases h⟩
  | true =>
    have HOK : Hid (hdOk (D.getD 1 ⟨#[]⟩) D.length = true) := hok
    obtain ⟨h40, hch, _⟩ := hdOk_t hok
    have HRD : Hid (rpD D = if (hdL (D.getD 1 ⟨#[]⟩)).length = 0 then D else (setL D (loggedL D (hdL (D.getD 1 ⟨#[]⟩)))).set 1 (headB [])) := rfl
    have HRC : Hid (rpC D c = if (hdL (D.getD 1 ⟨#[]⟩)).length = 0 then c else c + (hdL (D.getD 1 ⟨#[]⟩)).length + 3) := rfl
    have HN : Hid ((hdL (D.getD 1 ⟨#[]⟩)).length ≤ 40) := by show _ ≤ _; rw [hdL_len]; exact h40
    have HIL := Lib.hid (loggedL_in hw (by omega) HN.out hch)
    have hlen := hw
    obtain ⟨bl, hbl⟩ : ∃ bl, bl = hdL (D.getD 1 ⟨#[]⟩) := ⟨_, rfl⟩
    rw [← hbl] at HRD HRC HN HIL
    have HBL := Lib.hid hbl
    have HFIT : Hid (∀ z ∈ loggedL D bl, z.fit) := fun z hz => by
      obtain ⟨k, hk, rfl⟩ := List.mem_map.1 hz
      have hkl := List.mem_range.1 hk
      have h1 := HIL.out _ hz
      have hlN : D.length ≤ 1000 := HS.out.len
      refine ⟨by rw [h1.2.2]; omega, by omega, ?_⟩
      have := h1.2.1
      omega
    have hrd : ∀ k : Nat, k < bl.length → (FS D c).read (2 + (k : Int)) = D.getD (2 + k) ⟨#[]⟩ := fun k hk => by
      have h := read_FS (D := D) (c := c) (k := 2 + k) (by have := HN.out; omega)
      rw [← h]; congr 1
    have HRDD := Lib.hid hrd
    have hDl : 1 < D.length := by omega
    clear hS hok h40 hch hrd hbl hlen
    generalize D.getD 1 ⟨#[]⟩ = s at *
    go_enter Try.func28, Try.ntmps28
    go_wp2_with fail
    refine HR.out.mono ?_
    rintro e w1 ⟨A, n, c1, z, rfl, b1, _, h0⟩
    obtain ⟨rfl, hnc, hi⟩ := h0 HOK.out
    rw [← HBL.out] at hi
    have HI := Lib.hid hi
    have HB1 := Lib.hid b1
    have H1 := Lib.hid (HS.out.keptB (Turns.of_below [] HB1.out))
    have hn : bl.length = n := hi.len
    have HNN := Lib.hid hn
    clear hi b1 h0 HR hn
    by_cases hz : n = 0
    · subst hz
      have e1 : rpD D = D := by rw [HRD.out, if_pos HNN.out]
      have e2 : rpC D c = c := by rw [HRC.out, if_pos HNN.out]
      have HH1 : Hid (SlabAt w1 p pd pm (FS (rpD D) (rpC D c))) := by
        show SlabAt _ _ _ _ _
        rw [e1, e2]; exact H1.out
      clear e1 e2
      go_wp2
      go_ret
      exact ⟨Turns.of_below _ HB1.out, fun h => (by cases h), fun _ => ⟨rfl, HH1.out⟩⟩
    · have e1 : rpD D = (setL D (loggedL D bl)).set 1 (headB []) := by rw [HRD.out, if_neg (by rw [HNN.out]; exact hz)]
      have e2 : rpC D c = c + bl.length + 3 := by rw [HRC.out, if_neg (by rw [HNN.out]; exact hz)]
      have HAP : Hid (applyS (FS D c) (loggedL D bl) = FS (rpD D) (rpC D c)) := by
        show _ = _
        rw [applyS_FS HIL.out hDl, loggedL_len, e1, e2]
      have hg1 : ((n : Int) == 0) = false := by simp [hz]
      have hn40 : n ≤ 40 := by have := HN.out; rw [HNN.out] at this; exact this
      have HLG := Lib.hid (logged_any p pd pm (FS D c) D A n c1 w1.heap.size bl w1 H1.out HI.out (Nat.le_refl _) hn40 (fun k hk => HRDD.out k (by rw [HNN.out]; exact hk)))
      have hlN : (loggedL D bl).length = n := by rw [loggedL_len, HNN.out]
      have HLN := Lib.hid hlN
      have hp := H1.out.lt_p
      have hd := H1.out.lt_d
      have hm := H1.out.lt_m
      clear e1 e2 hlN
      generalize loggedL D bl = ll at *
      go_wp2_with fail
      refine HLG.out.mono ?_
      rintro e w2 ⟨rfl, r2, b2⟩
      have hi2 := r2.chs (B := w2.heap.size) HFIT.out r2.lt
      rw [HLN.out] at hi2
      have HAY := Lib.hid (apply_any p pd pm (FS D c) (some ⟨w1.heap.size, 0, none⟩) n n w2.heap.size ll w2 (H1.out.keptB (Turns.of_below [] b2)) rfl hi2 (by intro a ha; cases ha; simp; omega) HIL.out hn40 (by show c ≤ 800000; omega) hDl)
      rw [HAP.out] at HAY
      have T2 := Lib.hid ((Turns.of_below [p, pd, pm] HB1.out).trans (Turns.of_below [p, pd, pm] b2))
      clear r2 b2 hi2
      go_wp2_with fail
      refine HAY.out.mono ?_
      rintro e w3 ⟨rfl, h3, t3⟩
      have H3 := Lib.hid h3
      have T3 := Lib.hid (T2.out.trans t3)
      clear h3 t3
      go_wp2
      go_ret
      exact ⟨T3.out, fun h => (by cases h), fun _ => ⟨rfl, H3.out⟩⟩

/-- the cells of a log. -/
def LogAt (w : World) (q p : Nat) (k : Nat) : Prop := w.heap[q]? = some (.cells #[.pointer (some ⟨p, 0, none⟩), .bool false, .int .i64 k] 61 (0, 0))
theorem LogAt.lt {w : World} {q p k : Nat} (h : LogAt w q p k) : q < w.heap.size := (Array.getElem?_eq_some_iff.1 h).1
theorem LogAt.turns {w w' : World} {q p k : Nat} {L : List Nat} (h : LogAt w q p k) (ht : Turns L w w') (hq : q ∉ L) : LogAt w' q p k := (ht.block q h.lt hq).trans h
theorem LogAt.c0 {w : World} {q p k : Nat} (h : LogAt w q p k) : w.cell? ⟨q, 0, none⟩ = some (.pointer (some ⟨p, 0, none⟩)) := by rw [cell_of_row w q 0 _ 61 _ h]; rfl
theorem LogAt.c1 {w : World} {q p k : Nat} (h : LogAt w q p k) : w.cell? ⟨q, 1, none⟩ = some (.bool false) := by rw [cell_of_row w q 1 _ 61 _ h]; rfl
theorem LogAt.c2 {w : World} {q p k : Nat} (h : LogAt w q p k) : w.cell? ⟨q, 2, none⟩ = some (.int .i64 k) := by rw [cell_of_row w q 2 _ 61 _ h]; rfl
theorem LogAt.fz {w : World} {q p k : Nat} (h : LogAt w q p k) (j : Nat) : w.frozen? ⟨q, j, none⟩ = false := by
  unfold LogAt at h
  simp [World.frozen?, h]
theorem LogAt.more {w : World} {q p k : Nat} (h : LogAt w q p k) : LogAt (w.setCell ⟨q, 2, none⟩ (.int .i64 ((k + 1 : Nat) : Int))) q p (k + 1) := by
  unfold LogAt at *
  rw [Sl.heap_setCell_same w q 2 _ h]
  rfl

set_option maxRecDepth 100000 in
set_option maxHeartbeats 2000000 in
theorem open_any (p pd pm : Nat) (D : List ByteArray) (c : Nat) (w : World) (hS : SlabAt w p pd pm (FS D c)) (hw : Whole D) (hc : c ≤ 700000) :
    Calls Try.prog 10 #[.pointer (some ⟨p, 0, none⟩)] w fun e w' => Turns [p, pd, pm] w w' ∧ (D.length < 64 → e = .returned (.tuple #[.pointer none, .int .i64 1]) ∧ SlabAt w' p pd pm (FS D c)) ∧
      (64 ≤ D.length → okD D = false → e = .returned (.tuple #[.pointer none, .int .i64 15]) ∧ SlabAt w' p pd pm (FS D c)) ∧
      (64 ≤ D.length → okD D = true → ∃ q, e = .returned (.tuple #[.pointer (some ⟨q, 0, none⟩), .int .i64 0]) ∧ w.heap.size ≤ q ∧ LogAt w' q p 0 ∧ SlabAt w' p pd pm (FS (rpD D) (rpC D c))) := by
  have HSZ := Lib.hid (Sl.size_any p pd pm (FS D c) w hS)
  have hdl : (FS D c).dur.length = D.length := rfl
  rw [hdl] at HSZ
  have HS := Lib.hid hS
  clear hdl
  by_cases hl : 64 ≤ D.length
  · have HRP := Lib.hid (replay_any p pd pm D c w hS hw hl hc)
    have hg : decide ((D.length : Int) < 64) = false := by simp; omega
    have HL := Lib.hid hl
    generalize D.length = N at *
    clear hS hl
    cases hok : okD D with
    | false =>
      have HOK := Lib.hid hok
      clear hok
      go_enter Try.func10, Try.ntmps10
      go_wp2_with fail
      refine HSZ.out.mono ?_
      rintro e w1 ⟨rfl, rfl⟩
      go_wp2_with fail
      refine HRP.out.mono ?_
      rintro e w2 ⟨t2, hx, _⟩
      obtain ⟨rfl, h2⟩ := hx HOK.out
      have H2 := Lib.hid h2
      have T2 := Lib.hid t2
      clear h2 t2 hx
      go_wp2
      go_ret2
      exact ⟨T2.out, fun h => absurd HL.out (by omega), fun _ _ => ⟨rfl, H2.out⟩, fun _ h => (by cases h)⟩
    | true =>
      have HOK := Lib.hid hok
      clear hok
      go_enter Try.func10, Try.ntmps10
      go_wp2_with fail
      refine HSZ.out.mono ?_
      rintro e w1 ⟨rfl, rfl⟩
      go_wp2_with fail
      refine HRP.out.mono ?_
      rintro e w2 ⟨t2, _, hx⟩
      obtain ⟨rfl, h2⟩ := hx HOK.out
      have H2 := Lib.hid h2
      have T2 := Lib.hid t2
      clear h2 t2 hx
      go_wp2
      go_ret2
      refine ⟨T2.out.trans (Turns.alloc _ _ _), fun h => absurd HL.out (by omega), fun _ h => (by cases h), fun _ _ => ⟨_, rfl, T2.out.size, ?_, H2.out.keptB (Turns.alloc _ _ _)⟩⟩
      exact heap_alloc_new _ _
  · have hg : decide ((D.length : Int) < 64) = true := by simp; omega
    have HL := Lib.hid hl
    generalize D.length = N at *
    clear hS hl
    go_enter Try.func10, Try.ntmps10
    go_wp2_with fail
    refine HSZ.out.mono ?_
    rintro e w1 ⟨rfl, rfl⟩
    go_wp2
    go_ret2
    exact ⟨Turns.refl _ _, fun _ => ⟨rfl, HS.out⟩, fun h => absurd h HL.out, fun h => absurd h HL.out⟩
theorem open_nil (w : World) : Calls Try.prog 10 #[.pointer none] w fun e w' => e = .returned (.tuple #[.pointer none, .int .i64 1]) ∧ w = w' := by
  go_enter Try.func10, Try.ntmps10
  go_wp2_with fail
  refine (Sl.size_nil _).mono ?_
  rintro e w1 ⟨rfl, rfl⟩
  go_wp2
  go_ret2
  exact ⟨rfl, rfl⟩
end Go.Proofs.Ytpljifeebbeakaa
