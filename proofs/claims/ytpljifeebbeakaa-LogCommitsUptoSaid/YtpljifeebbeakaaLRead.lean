/-
  WALK: readHead: the blocks that a head names, or that it may not be. Condition: the head has 128 bytes.
-/
import Derived.Test.YtpljifeebbeakaaLHead
namespace Go.Proofs.Ytpljifeebbeakaa
open Go.RowKit
open Sl (St SlabAt)

/-- the answer of readHead. -/
def RetH (w : World) (s : ByteArray) (N : Nat) (e : Ending) (w' : World) : Prop :=
  ∃ A n c z, e = .returned (.tuple #[.slice A n c, .int .i64 z]) ∧ Below w.heap.size w w' ∧ (hdOk s N = false → z = 15) ∧ (hdOk s N = true → z = 0 ∧ n ≤ c ∧ IntsAt w' w'.heap.size A n (hdL s))
theorem RetH.bad {w w' : World} {s : ByteArray} {N : Nat} {A : Option Addr} {n c : Nat} (h : hdOk s N = false) (hb : Below w.heap.size w w') : RetH w s N (.returned (.tuple #[.slice A n c, .int .i64 15])) w' :=
  ⟨A, n, c, 15, rfl, hb, fun _ => rfl, fun h' => by rw [h] at h'; cases h'⟩
theorem RetH.good {w w' : World} {s : ByteArray} {N : Nat} {A : Option Addr} {n c : Nat} (h : hdOk s N = true) (hb : Below w.heap.size w w') (hn : n ≤ c) (hA : IntsAt w' w'.heap.size A n (hdL s)) : RetH w s N (.returned (.tuple #[.slice A n c, .int .i64 0])) w' :=
  by
  refine ⟨A, n, c, 0, rfl, hb, fun h' => ?_, fun _ => ⟨rfl, hn, hA⟩⟩
  rw [h] at h'; cases h'
theorem lists_eq (a b : ByteArray) : (a.toList == b.toList) = decide (a = b) := by
  rw [Bool.eq_iff_iff, ByteArray.toList_eq, ByteArray.toList_eq]
  simp only [beq_iff_eq, decide_eq_true_eq]
  exact ⟨fun h => ByteArray.ext (Array.ext' h), fun h => by rw [h]⟩
theorem hd_fit (s : ByteArray) : ∀ z ∈ hdL s, Fit z := fun z hz => by have := hdL_bd s z hz; unfold Fit; omega

set_option maxHeartbeats 4000000 in
set_option maxRecDepth 100000 in
theorem readHead_any (p pd pm : Nat) (σ : St) (s : ByteArray) (w : World) (hS : SlabAt w p pd pm σ) (hr : σ.read 1 = s) (hs : s.size = 128) :
    Calls Try.prog 37 #[.pointer (some ⟨p, 0, none⟩)] w fun e w' => RetH w s σ.dur.length e w' := by
  have HRD := Lib.hid (Sl.read_any p pd pm σ 1 w hS)
  rw [hr] at HRD
  have hp := hS.lt_p
  have hd := hS.lt_d
  have hm := hS.lt_m
  have HS := Lib.hid hS
  have H0 := Lib.hid (read_cnt hs)
  have H1 := Lib.hid (read_hd hs)
  have HSS : Hid (s.size ≤ 1000) := by show _ ≤ _; omega
  have hc := (cnt_nat s).2
  have HHL := Lib.hid (hdL_len s)
  clear hr hS
  go_enter Try.func37, Try.ntmps37
  go_wp2_with fail
  refine HRD.out.mono ?_
  rintro e w1 ⟨rfl, b1⟩
  have HB1 := Lib.hid b1
  clear HRD b1
  go_wp2_with fail
  refine (hdW_any 0 _ (by omega)).mono ?_
  rintro e w2 ⟨A2, c2, rfl, h2, b2⟩
  have HB2 := Lib.hid (HB1.out.trans (b2.mono HB1.out.size))
  have HR0 := Lib.hid (read_any A2 (0 + 1) c2 _ (hdW 0) s w2 h2 (Nat.le_refl _) (by omega) (by have := HSS.out; omega))
  rw [H0.out] at HR0
  clear h2 b2 H0
  go_wp2_with fail
  refine HR0.out.mono ?_
  rintro e w3 ⟨A3, n3, c3, rfl, hn3, h3, b3⟩
  have HB3 := Lib.hid (HB2.out.trans (b3.mono HB2.out.size))
  have hn1 : n3 = 1 := h3.len.symm
  subst hn1
  obtain ⟨b, o, rfl, hb, hcell⟩ := h3.at_ (k := 0) (by omega)
  have hcell2 : w3.cell? ⟨b, o, none⟩ = some (.int .i64 (cntH s : Int)) := hcell
  clear b3 hcell HR0
  by_cases h40 : cntH s ≤ 40
  · have hg : decide ((40 : Int) < (cntH s : Int)) = false := by simp; omega
    have H1' := Lib.hid (H1.out h40)
    have HOK : Hid (hdOk s σ.dur.length = (chB σ.dur.length (hdL s) && decide (headB (hdL s) = s))) := by show _ = _; unfold hdOk; rw [decide_eq_true h40]; rfl
    clear H1
    generalize cntH s = m at *
    go_wp2_with fail
    refine (hdW_any m _ h40).mono ?_
    rintro e w4 ⟨A4, c4, rfl, h4, b4⟩
    have HB4 := Lib.hid (HB3.out.trans (b4.mono HB3.out.size))
    have HR1 := Lib.hid (read_any A4 (m + 1) c4 _ (hdW m) s w4 h4 (Nat.le_refl _) (by omega) (by have := HSS.out; omega))
    rw [H1'.out] at HR1
    clear h4 b4 h3 hcell2
    go_wp2_with fail
    refine HR1.out.mono ?_
    rintro e w5 ⟨A5, n5, c5, rfl, hn5, h5, b5⟩
    have HB5 := Lib.hid (HB4.out.trans (b5.mono HB4.out.size))
    have hn6 : n5 = m + 1 := by rw [← h5.len, List.length_cons, HHL.out]
    subst hn6
    obtain ⟨b', o', rfl, hb', hcell'⟩ := h5.at_ (k := 0) (by omega)
    have H5 := Lib.hid h5
    clear b5 HR1 h5 hcell'
    have x1 : ¬ (c5 : Int) < 1 := by omega
    have x2 : ¬ ((m + 1 : Nat) : Int) < 1 := by omega
    have HCH := Lib.hid (fun (A : Option Addr) (c : Nat) (h : IntsAt w5 w5.heap.size A m (hdL s)) (hc : m ≤ c) => changeable_any p pd pm σ A m c w5.heap.size (hdL s) w5 (HS.out.keptB (Sl.Turns.of_below [] HB5.out)) h (by omega) hc)
    have HHD := Lib.hid (fun (A : Option Addr) (c : Nat) (h : IntsAt w5 w5.heap.size A m (hdL s)) => head_any A m c w5.heap.size (hdL s) w5 h (Nat.le_refl _) h40)
    have hsp : c5 = 1 ∨ ¬ c5 = 1 := by omega
    rcases hsp with rfl | hne
    · obtain rfl : m = 0 := by omega
      have h6 : IntsAt w5 w5.heap.size (some ⟨b', o', none⟩) 0 (hdL s) := by
        have : hdL s = [] := List.eq_nil_of_length_eq_zero HHL.out
        rw [this]; exact IntsAt.nil _ _ _
      have H6 := Lib.hid h6
      have hcap : (0 : Nat) ≤ 0 := Nat.le_refl _
      clear h6
      cases hch : chB σ.dur.length (hdL s) with
      | false =>
        have HOF : Hid (hdOk s σ.dur.length = false) := by show _ = _; rw [HOK.out, hch]; rfl
        have HCX := Lib.hid (HCH.out _ _ H6.out hcap)
        rw [hch] at HCX
        clear hch
        go_wp2_with fail
        refine HCX.out.mono ?_
        rintro e w6 ⟨rfl, rfl⟩
        go_wp2
        go_ret2
        exact RetH.bad HOF.out HB5.out
      | true =>
        have HCX := Lib.hid (HCH.out _ _ H6.out hcap)
        rw [hch] at HCX
        have HHX := Lib.hid (HHD.out _ 0 H6.out)
        have HOK2 : Hid (hdOk s σ.dur.length = decide (headB (hdL s) = s)) := by show _ = _; rw [HOK.out, hch]; rfl
        generalize headB (hdL s) = z at *
        clear hch
        go_wp2_with fail
        refine HCX.out.mono ?_
        rintro e w6 ⟨rfl, rfl⟩
        go_wp2_with fail
        refine HHX.out.mono ?_
        rintro e w7 ⟨rfl, b7⟩
        have HB7 := Lib.hid (HB5.out.trans (b7.mono HB5.out.size))
        have H7 := Lib.hid ((H6.out.below b7 (Nat.le_refl _)).more b7.size)
        clear b7
        by_cases hz : z = s
        · have q1 : (z.toList == s.toList) = true := by rw [hz]; simp
          have q2 : (z.toList != s.toList) = false := by rw [hz]; simp
          have HOT : Hid (hdOk s σ.dur.length = true) := by show _ = _; rw [HOK2.out]; exact decide_eq_true hz
          clear hz
          go_wp2
          go_ret2
          exact RetH.good HOT.out HB7.out hcap H7.out
        · have q1 : (z.toList == s.toList) = false := by rw [lists_eq]; exact decide_eq_false hz
          have q2 : (z.toList != s.toList) = true := by unfold bne; rw [q1]; rfl
          have HOF : Hid (hdOk s σ.dur.length = false) := by show _ = _; rw [HOK2.out]; exact decide_eq_false hz
          clear hz
          go_wp2
          go_ret2
          exact RetH.bad HOF.out HB7.out
    · have h6 : IntsAt w5 w5.heap.size (some ⟨b', o' + 1, none⟩) m (hdL s) := H5.out.drop 1 (by omega)
      have H6 := Lib.hid h6
      have hcap : m ≤ c5 - 1 := by omega
      clear h6
      cases hch : chB σ.dur.length (hdL s) with
      | false =>
        have HOF : Hid (hdOk s σ.dur.length = false) := by show _ = _; rw [HOK.out, hch]; rfl
        have HCX := Lib.hid (HCH.out _ _ H6.out hcap)
        rw [hch] at HCX
        clear hch
        go_wp2_with fail
        refine HCX.out.mono ?_
        rintro e w6 ⟨rfl, rfl⟩
        go_wp2
        go_ret2
        exact RetH.bad HOF.out HB5.out
      | true =>
        have HCX := Lib.hid (HCH.out _ _ H6.out hcap)
        rw [hch] at HCX
        have HHX := Lib.hid (HHD.out _ (c5 - 1) H6.out)
        have HOK2 : Hid (hdOk s σ.dur.length = decide (headB (hdL s) = s)) := by show _ = _; rw [HOK.out, hch]; rfl
        generalize headB (hdL s) = z at *
        clear hch
        go_wp2_with fail
        refine HCX.out.mono ?_
        rintro e w6 ⟨rfl, rfl⟩
        go_wp2_with fail
        refine HHX.out.mono ?_
        rintro e w7 ⟨rfl, b7⟩
        have HB7 := Lib.hid (HB5.out.trans (b7.mono HB5.out.size))
        have H7 := Lib.hid ((H6.out.below b7 (Nat.le_refl _)).more b7.size)
        clear b7
        by_cases hz : z = s
        · have q1 : (z.toList == s.toList) = true := by rw [hz]; simp
          have q2 : (z.toList != s.toList) = false := by rw [hz]; simp
          have HOT : Hid (hdOk s σ.dur.length = true) := by show _ = _; rw [HOK2.out]; exact decide_eq_true hz
          clear hz
          go_wp2
          go_ret2
          exact RetH.good HOT.out HB7.out hcap H7.out
        · have q1 : (z.toList == s.toList) = false := by rw [lists_eq]; exact decide_eq_false hz
          have q2 : (z.toList != s.toList) = true := by unfold bne; rw [q1]; rfl
          have HOF : Hid (hdOk s σ.dur.length = false) := by show _ = _; rw [HOK2.out]; exact decide_eq_false hz
          clear hz
          go_wp2
          go_ret2
          exact RetH.bad HOF.out HB7.out
  · have hg : decide ((40 : Int) < (cntH s : Int)) = true := by simp; omega
    have HNO : Hid (hdOk s σ.dur.length = false) := by show _ = _; unfold hdOk; rw [decide_eq_false h40]; rfl
    clear H1
    generalize cntH s = m at *
    go_wp2
    go_ret2
    exact RetH.bad HNO.out HB3.out
end Go.Proofs.Ytpljifeebbeakaa
