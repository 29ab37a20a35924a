/-
  WALK: Write returns a card's bytes, or that it may not be. Conditions: the lists have as many elements as an int64 counts.
-/
import Derived.Test.YtmimfnbcffcdfaaCVal2
import Derived.Test.YtmimfnbcffcdfaaCRight
import Derived.Test.YtmimfnbcffcdfaaPad
namespace Go.Proofs.Ytmimfnbcffcdfaa
open Go.RowKit

theorem fitTo_all {ws vs : List Int} : ∀ n, fitTo ws vs n = true → ∀ k, k < n → 0 ≤ vs.getD k 0 ∧ vs.getD k 0 ≤ 4294967295 := fun n h k hk => by
  have := fitTo_at ws vs hk h
  unfold fitB at this
  have this := of_decide_eq_true this
  unfold mostOf at this
  split at this
  · omega
  · split at this <;> omega
theorem Below.dr {B : Nat} {a b : World} (h : Below B a b) : Below B a b.drew := ⟨h.os, h.tape, h.output, h.size, h.block⟩
theorem Below.und {B : Nat} {a b : World} (h : Below B a.drew b) : Below B a b := ⟨h.os, h.tape, h.output, h.size, h.block⟩
theorem CdRow.dr {W : World} {g : Nat} {c : Cd} {A : Option Addr} {n k : Nat} {A' : Option Addr} {n' k' : Nat} (h : CdRow W g c A n k A' n' k') : CdRow W.drew g c A n k A' n' k' := h
theorem IntsAt.dr {w : World} {B n : Nat} {A : Option Addr} {l : List Int} (h : IntsAt w B A n l) : IntsAt w.drew B A n l := h.keep fun _ _ => rfl
theorem vals_fit {c : Cd} (h : rightC c = true) : ∀ z ∈ valuesC c, Fit z := by
  obtain ⟨h1, h2, h3⟩ := fits_right h
  intro z hz
  obtain ⟨k, hk, rfl⟩ := List.getElem_of_mem hz
  have := fitTo_all _ h3 k (by omega)
  simp only [List.getD, List.getElem?_eq_getElem hk, Option.getD_some] at this
  unfold Fit; omega

theorem writeC_ok {c : Cd} (h : rightC c = true) : writeC c = (padS (bytesC c) 32, 0) := by unfold writeC; rw [if_pos h]
theorem writeC_no {c : Cd} (h : rightC c = false) : writeC c = (⟨#[]⟩, 1) := by unfold writeC; rw [if_neg (by rw [h]; decide)]
theorem box_row {v : World} {g : Nat} {c : Cd} {A : Option Addr} {n k : Nat} {A' : Option Addr} {n' k' : Nat} (h : CdRow v g c A n k A' n' k') : v.cell? ⟨g, 0, none⟩ = some (.int .i64 c.fm) ∧ v.cell? ⟨g, 1, none⟩ = some (.int .i64 c.kd) ∧ v.cell? ⟨g, 2, none⟩ = some (.int .i64 c.ln) ∧ v.cell? ⟨g, 3, none⟩ = some (.int .i64 c.sz) ∧ v.cell? ⟨g, 4, none⟩ = some (.slice A n k) ∧ v.cell? ⟨g, 5, none⟩ = some (.int .i64 c.sg) ∧ v.cell? ⟨g, 6, none⟩ = some (.int .i64 c.db) ∧ v.cell? ⟨g, 7, none⟩ = some (.slice A' n' k') ∧ v.cell? ⟨g, 8, none⟩ = some (.int .i64 c.ov) := h.cells

set_option maxHeartbeats 2000000 in
theorem write9_any (v : Value) (c : Cd) (B : Nat) (w : World) (hc : CdAt w B v c) (hB : B ≤ w.heap.size) :
    Calls Try.prog 9 #[v] w fun e w' => e = .returned (.tuple #[.string (writeC c).1, .int .i64 (writeC c).2]) ∧ Below w.heap.size w w' := by
  have HCD : Hid (∀ v', Below w.heap.size w v' → CdAt v' B v c) := fun v' hv => hc.below hv hB
  have HR : Hid (∀ v', Below w.heap.size w v' → Calls Try.prog 11 #[v] v' fun e w' => e = .returned (.bool (rightC c)) ∧ Below v'.heap.size v' w') :=
    fun v' hv => rightc_any v c B _ v' rfl (HCD.out v' hv) (Nat.le_trans hB hv.size)
  have HV : Hid (rightC c = true → ∀ v', Below w.heap.size w v' → Calls Try.prog 24 #[v] v' fun e w' => RetI v' (valuesC c) e w') :=
    fun hr v' hv => (values_any v c B v' hr (HCD.out v' hv) (Nat.le_trans hB hv.size)).mono fun e w' h => h.ints (vals_fit hr)
  obtain ⟨A, n, k, A', n', k', rfl, i1, s1, bn, bn', f1⟩ := hc
  have HO : Hid (∀ o : Obj, Below w.heap.size w (w.alloc o)) := fun o => (Below.refl _ _).alloc (Nat.le_refl _) _
  have HO' : Hid (∀ (o : Obj) (v : World), Below (w.alloc o).heap.size (w.alloc o) v → Below w.heap.size w v) := fun o v hv => (HO.out o).trans (hv.mono (by simp))
  have HROW : Hid (∀ v', Below (w.alloc (.cells (cells9 c A n k A' n' k') 25)).heap.size (w.alloc (.cells (cells9 c A n k A' n' k') 25)) v' → CdRow v' w.heap.size c A n k A' n' k') := fun v' hv => (CdRow.new w c A n k A' n' k').below hv (by simp)
  clear i1 s1 f1 bn bn' HCD
  cases hr : rightC c with
  | false =>
    have HW := Lib.hid (writeC_no hr)
    rw [hr] at HR
    generalize writeC c = wc at *
    go_enter Try.func9, Try.ntmps9
    go_wp2_with fail
    refine (HR.out _ (HO.out _)).mono ?_
    rintro e w2 ⟨rfl, b2⟩
    have HB2 := Lib.hid (HO'.out _ _ b2)
    clear b2
    go_wp2
    go_ret2
    rw [HW.out]
    exact ⟨rfl, HB2.out⟩
  | true =>
    have HW := Lib.hid (writeC_ok hr)
    have HWR : Hid (writeR (widthsC c.fm) (valuesC c) = ((writeR (widthsC c.fm) (valuesC c)).1, 0)) := by show _ = _; rw [bytesC_ok hr]
    have HPAD : Hid (padR (bytesC c) 32 = (padS (bytesC c) 32, 0)) := padR_ok (by omega) (by have := bytesC_len hr; omega)
    have hbl := bytesC_len hr
    have HVV := Lib.hid (HV.out hr)
    have HLEN : Hid ((widthsC c.fm).length ≤ 15 ∧ (valuesC c).length ≤ 15) := by
      have h1 := (fits_right hr).1
      have : (widthsC c.fm).length ≤ 15 := by unfold widthsC; split; (· simp); split <;> simp
      exact ⟨this, by omega⟩
    have HBC : Hid (strOfNums (writeR (widthsC c.fm) (valuesC c)).1 = bytesC c) := by show _ = _; rfl
    have HWID : Hid (∀ v : World, Calls Try.prog 23 #[.int .i64 c.fm] v fun e w' => RetI v (widthsC c.fm) e w') := fun v => widths_any c.fm v
    rw [hr] at HR
    generalize writeC c = wc at *
    generalize valuesC c = vs at *
    generalize widthsC c.fm = ws at *
    go_enter Try.func9, Try.ntmps9
    go_wp2_with fail
    refine (HR.out _ (HO.out _)).mono ?_
    rintro e w2 ⟨rfl, b2⟩
    have HB2 := Lib.hid (HO'.out _ _ b2)
    have HROW2 := Lib.hid (HROW.out _ b2)
    clear b2 HR HV HROW
    go_upto_region 3 with fail
    have HB2d := Lib.hid (Below.dr HB2.out)
    have S2 := Lib.hid (box_row HROW2.out)
    have hg2 := HROW2.out.lt
    have hws2 := HB2.out.size
    have hwl := HLEN.out
    go_region_held3 (fun v' => v'.cell? ⟨w.heap.size, 0, none⟩ = some (.int .i64 c.fm) ∧ v'.cell? ⟨w.heap.size, 1, none⟩ = some (.int .i64 c.kd) ∧ v'.cell? ⟨w.heap.size, 2, none⟩ = some (.int .i64 c.ln) ∧ v'.cell? ⟨w.heap.size, 3, none⟩ = some (.int .i64 c.sz) ∧ v'.cell? ⟨w.heap.size, 4, none⟩ = some (.slice A n k) ∧ v'.cell? ⟨w.heap.size, 5, none⟩ = some (.int .i64 c.sg) ∧ v'.cell? ⟨w.heap.size, 6, none⟩ = some (.int .i64 c.db) ∧ v'.cell? ⟨w.heap.size, 7, none⟩ = some (.slice A' n' k') ∧ v'.cell? ⟨w.heap.size, 8, none⟩ = some (.int .i64 c.ov))
      (first | exact S2.out | exact S3.out | exact S4.out | exact S5.out)
      (first
        | (go_at_call 22; go_must (go_fit (write_any A3 A4 ws.length c3 vs.length c4 _ ws vs _ i3'.out i4'.out (Nat.le_refl _) (by omega) (by omega)))
           rintro e w5 ⟨rfl, b5⟩
           have HB5 := Lib.hid (HB4.out.trans (b5.mono HB4.out.size))
           have S5 := Lib.hid (box_row (HROW4.out.below b5 hg4))
           clear b5)
        | (go_at_call 24; go_must (go_fit (HVV.out _ HB3.out))
           rintro e w4 ⟨A4, c4, rfl, i4, b4⟩
           have HB4 := Lib.hid (HB3.out.trans (b4.mono HB3.out.size))
           have HROW4 := Lib.hid (HROW3.out.below b4 hg3)
           have S4 := Lib.hid (box_row HROW4.out)
           have i3' := Lib.hid ((i3.below b4 (Nat.le_refl _)).more b4.size)
           have i4' := Lib.hid i4
           have hg4 := HROW4.out.lt
           clear b4 i4)
        | (go_at_call 23; go_must (go_fit (HWID.out _))
           rintro e w3 ⟨A3, c3, rfl, i3, b3⟩
           have HB3 := Lib.hid (HB2.out.trans (Below.und (b3.mono hws2)))
           have HROW3 := Lib.hid (CdRow.below (w' := w3) HROW2.out.dr b3 hg2)
           have S3 := Lib.hid (box_row HROW3.out)
           have hg3 := HROW3.out.lt
           clear b3))
    rw [HBC.out]
    have HP := Lib.hid (fun v => pad_any (bytesC c) 32 v (by omega) (by omega))
    rw [HPAD.out] at HP
    clear S2 S3 S4 S5
    generalize bytesC c = bc at *
    go_wp2_with fail
    refine (HP.out _).mono ?_
    rintro e w6 ⟨rfl, b6⟩
    have HB6 := Lib.hid (HB5.out.trans (b6.mono HB5.out.size))
    clear b6
    go_wp2
    go_ret2
    rw [HW.out]
    exact ⟨rfl, HB6.out⟩
end Go.Proofs.Ytmimfnbcffcdfaa
