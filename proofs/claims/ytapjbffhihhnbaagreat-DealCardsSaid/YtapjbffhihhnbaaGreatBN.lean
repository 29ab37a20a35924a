/-
  WALK: the reference's Write returns a card's bytes, or that it may not be. Conditions: the lists have as many elements as an int64 counts.
  WALK: the reference's New returns a new file's card, or that it may not be. Condition: the numbers are of an int64.
-/
import Derived.Test.YtapjbffhihhnbaaGreatBJ
import Derived.Test.YtapjbffhihhnbaaGreatBG
namespace Go.Proofs.YtapjbffhihhnbaaGreat
open Go.RowKit

/-- The slice at A reads as the numbers l. -/
def IntsIn (w : World) (A : Option Addr) (n : Nat) (l : List Int) : Prop := IntsAt w w.heap.size A n l
set_option maxRecDepth 100000 in
theorem IntsIn.al {w : World} {A : Option Addr} {n : Nat} {l : List Int} {o : Obj} (h : IntsIn w A n l) : IntsIn (w.alloc o) A n l := (h.below (C := w.heap.size) ((Below.refl _ _).alloc (Nat.le_refl _) _) (Nat.le_refl _)).more (by simp)
set_option maxRecDepth 100000 in
theorem IntsIn.dr {w : World} {A : Option Addr} {n : Nat} {l : List Int} (h : IntsIn w A n l) : IntsIn w.drew A n l := IntsAt.keep (w' := w.drew) h fun _ _ => rfl
set_option maxRecDepth 100000 in
theorem IntsIn.bl {w w' : World} {A : Option Addr} {n : Nat} {l : List Int} (h : IntsIn w A n l) (hb : Below w.heap.size w w') : IntsIn w' A n l := (IntsAt.below h hb (Nat.le_refl _)).more hb.size
set_option maxRecDepth 100000 in
theorem IntsIn.two {w : World} {a b : Int} {q : Nat} (ha : Fit a) (hb : Fit b) (hq : q = w.heap.size) : IntsIn (w.alloc (.cells #[.int .i64 a, .int .i64 b] 3)) (some ⟨q, 0, none⟩) 2 [a, b] := by
  subst hq; exact (ints2 a b ha hb).more (by simp)
set_option maxRecDepth 100000 in
theorem IntsIn.one {w : World} {a : Int} {q : Nat} (ha : Fit a) (hq : q = w.heap.size) : IntsIn (w.alloc (.cells #[.int .i64 a] 3)) (some ⟨q, 0, none⟩) 1 [a] := by
  subst hq; exact (ints_new (w := w) [a] (by simp; exact ha)).more (by simp)
set_option maxRecDepth 100000 in
theorem IntsIn.three {w : World} {a b c : Int} {q : Nat} (ha : Fit a) (hb : Fit b) (hc : Fit c) (hq : q = w.heap.size) : IntsIn (w.alloc (.cells #[.int .i64 a, .int .i64 b, .int .i64 c] 3)) (some ⟨q, 0, none⟩) 3 [a, b, c] := by
  subst hq; exact (ints_new (w := w) [a, b, c] (by simp; exact ⟨ha, hb, hc⟩)).more (by simp)
section
variable {W : World} {g : Nat} {c : Cd} {A : Option Addr} {n k : Nat} {A' : Option Addr} {n' k' : Nat}
set_option maxRecDepth 100000 in
theorem CdRow.al {o : Obj} (h : CdRow W g c A n k A' n' k') : CdRow (W.alloc o) g c A n k A' n' k' := h.below ((Below.refl _ _).alloc (Nat.le_refl _) _) h.lt
set_option maxRecDepth 100000 in
theorem CdRow.bl {w' : World} (h : CdRow W g c A n k A' n' k') (hb : Below W.heap.size W w') : CdRow w' g c A n k A' n' k' := h.below hb h.lt
end
set_option maxRecDepth 100000 in
theorem Below.al {B : Nat} {a b : World} {o : Obj} (h : Below B a b) (hB : B ≤ a.heap.size) : Below B a (b.alloc o) := h.alloc (Nat.le_trans hB h.size) _
set_option maxRecDepth 100000 in
theorem Below.tr {a b c : World} (h : Below a.heap.size a b) (k : Below b.heap.size b c) : Below a.heap.size a c := h.trans (k.mono h.size)
set_option maxRecDepth 100000 in
theorem bytes_in (z : Int) (A : Option Addr) (n c : Nat) (l : List Int) (w : World) (hz : Fit z) (hA : IntsIn w A n l) (hn : n ≤ 100000) :
    Calls Tryz.prog 94 #[.int .i64 z, .slice A n c] w fun e w' => e = .returned (.string (bytesW z l)) ∧ Below w.heap.size w w' := bytes_any z A n c _ l w hz hA (Nat.le_refl _) hn

set_option maxRecDepth 100000 in
set_option maxHeartbeats 4000000 in
theorem rwrite9_any (v : Value) (c : Cd) (B : Nat) (w : World) (hc : CdAt w B v c) (hB : B ≤ w.heap.size) :
    Calls Tryz.prog 71 #[v] w fun e w' => e = .returned (.tuple #[.string (writeC c).1, .int .i64 (writeC c).2]) ∧ Below w.heap.size w w' := by
  have HCD : Hid (∀ v', Below w.heap.size w v' → CdAt v' B v c) := fun v' hv => hc.below hv hB
  have HR : Hid (∀ v', Below w.heap.size w v' → Calls Tryz.prog 29 #[v] v' fun e w' => e = .returned (.bool (rightC c)) ∧ Below v'.heap.size v' w') :=
    fun v' hv => rright9_any v c B _ v' rfl (HCD.out v' hv) (Nat.le_trans hB hv.size)
  obtain ⟨A, n, k, A', n', k', rfl, i1, s1, bn, bn', f1⟩ := hc
  have HO : Hid (∀ o : Obj, Below w.heap.size w (w.alloc o)) := fun o => (Below.refl _ _).alloc (Nat.le_refl _) _
  have HO' : Hid (∀ (o : Obj) (v : World), Below (w.alloc o).heap.size (w.alloc o) v → Below w.heap.size w v) := fun o v hv => (HO.out o).trans (hv.mono (by simp))
  have HROW : Hid (∀ v', Below (w.alloc (.cells (cells9 c A n k A' n' k') 40)).heap.size (w.alloc (.cells (cells9 c A n k A' n' k') 40)) v' → CdRow v' w.heap.size c A n k A' n' k') := fun v' hv => (CdRow.new w c A n k A' n' k').below hv (by simp)
  have HI1 : Hid (∀ v', Below w.heap.size w v' → IntsIn v' A n c.ps) := fun v' hv => (i1.below hv hB).more (Nat.le_trans hB hv.size)
  have HS1 : Hid (∀ v', Below w.heap.size w v' → SpsAt v' B A' n' c.rs) := fun v' hv => s1.below hv hB
  have HL := Lib.hid i1.len
  have HL' := Lib.hid s1.len
  clear i1 s1 HCD
  cases hr : rightC c with
  | false =>
    have HW := Lib.hid (writeC_no hr)
    rw [hr] at HR
    generalize writeC c = wc at *
    go_enter Tryz.func71, Tryz.ntmps71
    go_wp2_with fail
    refine (HR.out _ (HO.out _)).mono ?_
    rintro e w2 ⟨rfl, b2⟩
    have HB2 := Lib.hid (HO'.out _ _ b2)
    clear b2
    go_wp2
    go_ret2
    rw [HW.out]
    exact ⟨rfl, HB2.out⟩
  | true =>
    have HW := Lib.hid (write_zeros hr)
    rw [hr] at HR
    rcases rightC_iff.1 hr with rfl | ⟨hh, ho⟩
    · have HE : Hid (writeC zeroC = ((⟨(List.replicate 32 (0 : UInt8)).toArray⟩ : ByteArray), 0)) := by show _ = _; rw [HW.out]; rfl
      clear HW hr HI1 HS1
      generalize writeC zeroC = wc at *
      go_enter Tryz.func71, Tryz.ntmps71
      go_wp2_with fail
      refine (HR.out _ (HO.out _)).mono ?_
      rintro e w2 ⟨rfl, b2⟩
      have HB2 := Lib.hid (HO'.out _ _ b2)
      have HR2 := Lib.hid (HROW.out _ b2)
      have hbs := HB2.out.size
      clear b2 HR HROW
      obtain ⟨e0, e1, e2, e3, e4, e5, e6, e7, e8⟩ := HR2.out.cells
      unfold zeroC at e0 e1 e2 e3 e5 e6 e8
      simp only at e0 e1 e2 e3 e5 e6 e8
      have HZ : Hid (∀ v : World, Calls Tryz.prog 65 #[.int .i64 32] v fun e w' => e = .returned (.string ⟨(List.replicate 32 (0 : UInt8)).toArray⟩) ∧ Below v.heap.size v w') := fun v => zeros_any 32 v (by omega)
      go_wp2_with fail
      refine (HZ.out _).mono ?_
      rintro e w3 ⟨rfl, b3⟩
      have HB3 := Lib.hid (HB2.out.trans (b3.mono hbs))
      clear b3
      go_wp2
      go_ret2
      rw [HE.out]
      exact ⟨rfl, HB3.out⟩
    · obtain ⟨g1, g2, g3⟩ := headB_iff.1 hh
      have HFM : Hid (c.fm = 1 ∨ c.fm = 2) := by
        rcases ho with h | h
        · exact Or.inl (oneB_iff.1 h).1
        · exact Or.inr (twoB_iff.1 h).1
      have HSZ : Hid (headS c.fm c.kd c.ln c.sz = bytesW 1 [c.fm, c.kd] ++ bytesW 2 [c.ln] ++ bytesW 4 [c.sz]) := by show _ = _; rfl
      have hb1 : (bytesW 1 [c.fm, c.kd]).size ≤ 100 := Nat.le_trans bytesW_size (by simp)
      have hb2 : (bytesW 2 [c.ln]).size ≤ 100 := Nat.le_trans bytesW_size (by simp)
      have hb3 : (bytesW 4 [c.sz]).size ≤ 100 := Nat.le_trans bytesW_size (by simp)
      have hb4 : ¬ 9223372036854775807 < (bytesW 1 [c.fm, c.kd]).size + (bytesW 2 [c.ln]).size := by omega
      have hb5 : ¬ 9223372036854775807 < (bytesW 1 [c.fm, c.kd]).size + (bytesW 2 [c.ln]).size + (bytesW 4 [c.sz]).size := by omega
      have f1' := f1
      obtain ⟨F0, F1, F2, F3, F4, F5, F6⟩ := f1'
      have HF := Lib.hid f1
      have h0 : (c.fm != 0) = true := bne_iff_ne.2 (by rcases HFM.out with h | h <;> omega)
      clear f1 hh g1 g2 g3
      go_enter Tryz.func71, Tryz.ntmps71
      go_wp2_with fail
      refine (HR.out _ (HO.out _)).mono ?_
      rintro e w2 ⟨rfl, b2⟩
      have HB2 := Lib.hid (HO'.out _ _ b2)
      have HR2 := Lib.hid (HROW.out _ b2)
      have S2 := Lib.hid (box_row HR2.out)
      have hbs := HB2.out.size
      clear b2 HR HROW HO HO'
      obtain ⟨e0, e1, e2, e3, e4, e5, e6, e7, e8⟩ := HR2.out.cells
      go_upto_region 5 with fail
      clear e0 e1 e2 e3 e4 e5 e6 e7 e8
      go_cut [4] from 13 to 28 (fun u wx => u = .string (headS c.fm c.kd c.ln c.sz) ∧ Below w2.heap.size w2 wx)
      case first =>
        have HD0 : Hid (Below w2.heap.size w2 w2) := Below.refl _ _
        go_region_held3 (fun v' => v'.cell? ⟨w.heap.size, 0, none⟩ = some (.int .i64 c.fm) ∧ v'.cell? ⟨w.heap.size, 1, none⟩ = some (.int .i64 c.kd) ∧ v'.cell? ⟨w.heap.size, 2, none⟩ = some (.int .i64 c.ln) ∧ v'.cell? ⟨w.heap.size, 3, none⟩ = some (.int .i64 c.sz) ∧ v'.cell? ⟨w.heap.size, 4, none⟩ = some (.slice A n k) ∧ v'.cell? ⟨w.heap.size, 5, none⟩ = some (.int .i64 c.sg) ∧ v'.cell? ⟨w.heap.size, 6, none⟩ = some (.int .i64 c.db) ∧ v'.cell? ⟨w.heap.size, 7, none⟩ = some (.slice A' n' k') ∧ v'.cell? ⟨w.heap.size, 8, none⟩ = some (.int .i64 c.ov))
          ((refine box_row ?_; (repeat (first | exact HR5.out | exact HR4.out | exact HR3.out | exact HR2.out | refine CdRow.dr ?_ | refine CdRow.al ?_))))
          (first
              | (go_at_call 94; go_fit (bytes_in 4 _ 1 1 [c.sz] _ (by decide) (by (repeat (first | exact IntsIn.one F3 (by first | rfl | simp | (simp; omega)) | refine IntsIn.bl ?_ R4.out | refine IntsIn.bl ?_ R3.out | refine IntsIn.dr ?_ | refine IntsIn.al ?_))) (by omega)); rintro e w5 ⟨rfl, b5⟩; have R5 := Lib.hid b5; have HR5 : Hid (CdRow w5 w.heap.size c A n k A' n' k') := CdRow.bl (by (repeat (first | exact HR4.out | refine CdRow.dr ?_ | refine CdRow.al ?_))) b5; have HD5 : Hid (Below w2.heap.size w2 w5) := Below.tr (by (repeat (first | exact HD4.out | exact Below.refl _ _ | refine Below.dr ?_ | refine Below.al ?_ (Nat.le_refl _)))) b5; clear b5)
              | (go_at_call 94; go_fit (bytes_in 2 _ 1 1 [c.ln] _ (by decide) (by (repeat (first | exact IntsIn.one F2 (by first | rfl | simp | (simp; omega)) | refine IntsIn.bl ?_ R3.out | refine IntsIn.dr ?_ | refine IntsIn.al ?_))) (by omega)); rintro e w4 ⟨rfl, b4⟩; have R4 := Lib.hid b4; have HR4 : Hid (CdRow w4 w.heap.size c A n k A' n' k') := CdRow.bl (by (repeat (first | exact HR3.out | refine CdRow.dr ?_ | refine CdRow.al ?_))) b4; have HD4 : Hid (Below w2.heap.size w2 w4) := Below.tr (by (repeat (first | exact HD3.out | exact Below.refl _ _ | refine Below.dr ?_ | refine Below.al ?_ (Nat.le_refl _)))) b4; clear b4)
              | (go_at_call 94; go_fit (bytes_in 1 _ 2 2 [c.fm, c.kd] _ (by decide) (by (repeat (first | exact IntsIn.two F0 F1 (by first | rfl | simp | (simp; omega))  | refine IntsIn.dr ?_ | refine IntsIn.al ?_))) (by omega)); rintro e w3 ⟨rfl, b3⟩; have R3 := Lib.hid b3; have HR3 : Hid (CdRow w3 w.heap.size c A n k A' n' k') := CdRow.bl (by (repeat (first | exact HR2.out | refine CdRow.dr ?_ | refine CdRow.al ?_))) b3; have HD3 : Hid (Below w2.heap.size w2 w3) := Below.tr (by (repeat (first | exact HD0.out | exact Below.refl _ _ | refine Below.dr ?_ | refine Below.al ?_ (Nat.le_refl _)))) b3; clear b3))
        all_goals (go_wp2_with fail; go_meet; exact ⟨rfl, HD5.out⟩)
      case rest =>
        obtain ⟨rfl, hb3'⟩ := hcut
        have HR3 := Lib.hid (HR2.out.bl hb3')
        have HB3 := Lib.hid (HB2.out.trans (hb3'.mono hbs))
        have hws3 := HB3.out.size
        clear hb3' HR2 S2 HSZ hb1 hb2 hb3 hb4 hb5
        generalize hw3 : wc = w3 at *
        clear hw3
        rcases ho with ho | ho
        · obtain ⟨q1, q2, q3, q4, q5, q6, q7, q8⟩ := oneB_iff.1 ho
          obtain ⟨fm, kd, ln, sz, ps, sg, db, rs, ov⟩ := c
          simp only at q1 q2 q3 q4 q5 q6 q7 q8
          subst q1 q7 q8
          have HP := Lib.hid (one_parts hr)
          have HBZ := Lib.hid (bytesC_len hr)
          have IP := Lib.hid (HI1.out w3 HB3.out)
          have hn4 : n = 4 := by rw [← HL.out]; exact q3
          have hh := headS_size 1 kd ln sz
          have z1 : (bytesW 2 ps).size ≤ 100 := Nat.le_trans bytesW_size (by rw [q3]; decide)
          have z2 : (bytesW 2 [sg, db]).size ≤ 100 := Nat.le_trans bytesW_size (by simp)
          have z3 : ¬ 9223372036854775807 < (bytesW 2 ps).size + (bytesW 2 [sg, db]).size := by omega
          have z4 : ¬ 9223372036854775807 < (headS 1 kd ln sz).size + ((bytesW 2 ps).size + (bytesW 2 [sg, db]).size) := by omega
          clear HI1 HS1 q2 q3 q4 q5 q6 hr ho h0
          subst hn4
          obtain ⟨e0, e1, e2, e3, e4, e5, e6, e7, e8⟩ := HR3.out.cells
          simp only at e0 e1 e2 e3 e4 e5 e6 e7 e8 F0 F1 F2 F3 F4 F5 F6
          go_upto_region 7 with fail
          clear e0 e1 e2 e3 e4 e5 e6 e7 e8
          go_cut [4] from 32 to 43 (fun u wx => u = .string (headS 1 kd ln sz ++ (bytesW 2 ps ++ bytesW 2 [sg, db])) ∧ Below w3.heap.size w3 wx)
          case first =>
            have HD0 : Hid (Below w3.heap.size w3 w3) := Below.refl _ _
            go_region_held3 (fun v' => v'.cell? ⟨w.heap.size, 0, none⟩ = some (.int .i64 1) ∧ v'.cell? ⟨w.heap.size, 1, none⟩ = some (.int .i64 kd) ∧ v'.cell? ⟨w.heap.size, 2, none⟩ = some (.int .i64 ln) ∧ v'.cell? ⟨w.heap.size, 3, none⟩ = some (.int .i64 sz) ∧ v'.cell? ⟨w.heap.size, 4, none⟩ = some (.slice A 4 k) ∧ v'.cell? ⟨w.heap.size, 5, none⟩ = some (.int .i64 sg) ∧ v'.cell? ⟨w.heap.size, 6, none⟩ = some (.int .i64 db) ∧ v'.cell? ⟨w.heap.size, 7, none⟩ = some (.slice A' n' k') ∧ v'.cell? ⟨w.heap.size, 8, none⟩ = some (.int .i64 0))
              ((refine box_row (c := ⟨1, kd, ln, sz, ps, sg, db, [], 0⟩) ?_; (repeat (first | exact HR5.out | exact HR4.out | exact HR3.out | refine CdRow.dr ?_ | refine CdRow.al ?_))))
              (first
              | (go_at_call 94; go_fit (bytes_in 2 _ 2 _ [sg, db] _ (by decide) (by (repeat (first | exact IntsIn.two F4 F5 (by first | rfl | simp | (simp; omega)) | refine IntsIn.bl ?_ R4.out | refine IntsIn.dr ?_ | refine IntsIn.al ?_))) (by omega)); rintro e w5 ⟨rfl, b5⟩; have R5 := Lib.hid b5; have HR5 : Hid (CdRow w5 w.heap.size ⟨1, kd, ln, sz, ps, sg, db, [], 0⟩ A 4 k A' n' k') := CdRow.bl (by (repeat (first | exact HR4.out | refine CdRow.dr ?_ | refine CdRow.al ?_))) b5; have HD5 : Hid (Below w3.heap.size w3 w5) := Below.tr (by (repeat (first | exact HD4.out | exact Below.refl _ _ | refine Below.dr ?_ | refine Below.al ?_ (Nat.le_refl _)))) b5; clear b5)
              | (go_at_call 94; go_fit (bytes_in 2 A 4 _ ps _ (by decide) (by (repeat (first | exact IP.out  | refine IntsIn.dr ?_ | refine IntsIn.al ?_))) (by omega)); rintro e w4 ⟨rfl, b4⟩; have R4 := Lib.hid b4; have HR4 : Hid (CdRow w4 w.heap.size ⟨1, kd, ln, sz, ps, sg, db, [], 0⟩ A 4 k A' n' k') := CdRow.bl (by (repeat (first | exact HR3.out | refine CdRow.dr ?_ | refine CdRow.al ?_))) b4; have HD4 : Hid (Below w3.heap.size w3 w4) := Below.tr (by (repeat (first | exact HD0.out | exact Below.refl _ _ | refine Below.dr ?_ | refine Below.al ?_ (Nat.le_refl _)))) b4; clear b4))
            all_goals (go_wp2_with fail; go_meet; exact ⟨rfl, HD5.out⟩)
          case rest =>
            obtain ⟨rfl, hb4⟩ := hcut
            have HR4 := Lib.hid (HR3.out.bl hb4)
            have HB4 := Lib.hid (HB3.out.trans (hb4.mono hws3))
            have hws4 := HB4.out.size
            rw [← HP.out]
            have hbz := HBZ.out
            rw [HP.out] at hbz
            clear hb4 HR3 HB3 z1 z2 z3 z4 hh
            have HT := Lib.hid HP.out.symm
            obtain ⟨e0, e1, e2, e3, e4, e5, e6, e7, e8⟩ := HR4.out.cells
            simp only at e0 e1 e2 e3 e4 e5 e6 e7 e8
            have HBC := HBZ.out
            generalize bytesC ⟨1, kd, ln, sz, ps, sg, db, [], 0⟩ = bc at *
            have HZ : Hid (∀ v : World, Calls Tryz.prog 65 #[.int .i64 (32 - (bc.size : Int))] v fun e w' => e = .returned (.string ⟨(List.replicate (32 - bc.size) (0 : UInt8)).toArray⟩) ∧ Below v.heap.size v w') := fun v => by
              have h := zeros_any (32 - bc.size) v (by omega)
              rwa [show ((32 - bc.size : Nat) : Int) = 32 - (bc.size : Int) by omega] at h
            have hzs : (⟨(List.replicate (32 - bc.size) (0 : UInt8)).toArray⟩ : ByteArray).size ≤ 32 := by
              show (List.replicate (32 - bc.size) (0 : UInt8)).toArray.size ≤ 32
              simp
            generalize (⟨(List.replicate (32 - bc.size) (0 : UInt8)).toArray⟩ : ByteArray) = zs at *
            have y0 : ¬ 9223372036854775807 < bc.size + zs.size := by omega
            go_wp2_with fail
            refine (HZ.out _).mono ?_
            rintro e w9 ⟨rfl, b9⟩
            have HB9 := Lib.hid (HB4.out.trans (b9.mono hws4))
            clear b9
            go_wp2
            go_ret2
            rw [HW.out]
            exact ⟨rfl, HB9.out⟩
        · obtain ⟨q1, q2, q3, q4, q5, q6, q7, q8, q9⟩ := twoB_iff.1 ho
          obtain ⟨fm, kd, ln, sz, ps, sg, db, rs, ov⟩ := c
          simp only at q1 q2 q3 q4 q5 q6 q7 q8 q9
          subst q1 q7 q8 q9
          have HP := Lib.hid (two_parts hr)
          have HBZ := Lib.hid (bytesC_len hr)
          have HSP : Hid (∀ v', Below w.heap.size w v' → SpsAt v' B A' n' rs) := HS1.out
          have hn3 : n' ≤ 3 := by have := HL'.out; simp only at this; omega
          have HN0 : Hid (n = 0) := by have := HL.out; exact this.symm
          have HA0 : Hid (accS 2 kd ln sz rs 0 = headS 2 kd ln sz ++ bytesW 1 [(n' : Int)]) := by show _ = _; have := HL'.out; simp only at this; rw [← this]; rfl
          have HAS : Hid (∀ j, accS 2 kd ln sz rs (j + 1) = accS 2 kd ln sz rs j ++ bytesW 2 [(rs.getD j Sp.z).at_, (rs.getD j Sp.z).st, (rs.getD j Sp.z).len]) := fun j => rfl
          have HAZ : Hid (∀ j, (accS 2 kd ln sz rs j).size ≤ 20 + 12 * j) := fun j => accS_size 2 kd ln sz rs j
          have HRF : Hid (∀ j, (rs.getD j Sp.z).fit) := fun j => (HS1.out w (Below.refl _ _)).bd j
          have HZR : Hid (∀ j, n' ≤ j → rs.getD j Sp.z = Sp.z) := fun j hj => by
            have := HL'.out
            simp only at this
            simp [List.getD, List.getElem?_eq_none (by omega : rs.length ≤ j)]
          have hh := headS_size 2 kd ln sz
          have z1 : (bytesW 1 [(n' : Int)]).size ≤ 100 := Nat.le_trans bytesW_size (by simp)
          have z2 : ¬ 9223372036854775807 < (headS 2 kd ln sz).size + (bytesW 1 [(n' : Int)]).size := by omega
          have FN : Fit (n' : Int) := by unfold Fit; omega
          clear HI1 HS1 q2 q3 q4 q5 q6 hr ho h0 HF HFM bn
          obtain ⟨e0, e1, e2, e3, e4, e5, e6, e7, e8⟩ := HR3.out.cells
          simp only at e0 e1 e2 e3 e4 e5 e6 e7 e8 F0 F1 F2 F3 F4 F5 F6
          go_wp2_with fail
          refine (bytes_in 1 _ 1 1 [(n' : Int)] _ (by decide) (IntsIn.one FN rfl) (by omega)).mono ?_
          rintro e w4 ⟨rfl, b4⟩
          have hb4 : Below w3.heap.size w3 w4 := (Below.al (Below.refl w3.heap.size w3) (Nat.le_refl _)).trans (b4.mono (by simp))
          have HR4 := Lib.hid (HR3.out.bl hb4)
          have HB4 := Lib.hid (HB3.out.trans (hb4.mono hws3))
          clear b4 hb4 e0 e1 e2 e3 e4 e5 e6 e7 e8 HR3 HB3
          go_wp2
          go_loopw [4, 5] (fun u4 u5 wr => ∃ j : Nat, j ≤ 3 ∧ u5 = .int .i64 (j : Int) ∧ u4 = .string (accS 2 kd ln sz rs j) ∧ Below w.heap.size w wr ∧ CdRow wr w.heap.size ⟨2, kd, ln, sz, [], 0, 0, rs, ov⟩ A n k A' n' k') (fun _ u5 _ => 3 - (intOf u5).toNat)
          case atStart => exact ⟨0, by omega, rfl, by rw [HA0.out], HB4.out, HR4.out⟩
          case round =>
            clear HB4 HR4 HA0 z1 z2 hh
            obtain ⟨j, hj, rfl, rfl, hb, hr⟩ := hrel
            have HB5 := Lib.hid hb
            have HR5 := Lib.hid hr
            have hg5 := hr.lt
            have hw5 := hb.size
            have hz5 := HAZ.out j
            clear hb hr
            obtain ⟨e0, e1, e2, e3, e4, e5, e6, e7, e8⟩ := HR5.out.cells
            simp only at e0 e1 e2 e3 e4 e5 e6 e7 e8
            by_cases hlt : j < 3
            · have HS := Lib.hid (HAS.out j)
              have hf := HRF.out j
              have hy : (bytesW 2 [(rs.getD j Sp.z).at_, (rs.getD j Sp.z).st, (rs.getD j Sp.z).len]).size ≤ 100 := Nat.le_trans bytesW_size (by simp)
              have hy2 : ¬ 9223372036854775807 < (accS 2 kd ln sz rs j).size + (bytesW 2 [(rs.getD j Sp.z).at_, (rs.getD j Sp.z).st, (rs.getD j Sp.z).len]).size := by omega
              by_cases hjn : j < n'
              · obtain ⟨b, o, rfl, hbB, l1, l2, l3⟩ := (HSP.out wr HB5.out).at_ hjn
                have x1 : (0 : Int) ≤ (j : Int) := by omega
                have hbw : b < wr.heap.size := by omega
                have x2 : (j : Int) < (n' : Int) := by omega
                generalize rs.getD j Sp.z = sp at *
                obtain ⟨sa, sb, sl⟩ := sp
                obtain ⟨f1, f2, f3⟩ := hf
                simp only at l1 l2 l3 HS hy hy2 f1 f2 f3
                have hfin : Hid (∀ v : World, IntsIn (v.alloc (.cells #[.int .i64 sa, .int .i64 sb, .int .i64 sl] 3)) (some ⟨v.heap.size, 0, none⟩) 3 [sa, sb, sl]) := fun v => IntsIn.three f1 f2 f3 rfl
                go_upto_region 16 with fail
                have n1 := cell_new wr #[.int .i64 sa, .int .i64 sb, .int .i64 sl] 121 0 rfl
                have n2 := cell_new wr #[.int .i64 sa, .int .i64 sb, .int .i64 sl] 121 1 rfl
                have n3 := cell_new wr #[.int .i64 sa, .int .i64 sb, .int .i64 sl] 121 2 rfl
                have HR6 : Hid (CdRow (wr.alloc (.cells #[.int .i64 sa, .int .i64 sb, .int .i64 sl] 121)) w.heap.size ⟨2, kd, ln, sz, [], 0, 0, rs, ov⟩ A n k _ n' k') := HR5.out.al
                have HB6 : Hid (Below w.heap.size w (wr.alloc (.cells #[.int .i64 sa, .int .i64 sb, .int .i64 sl] 121))) := HB5.out.alloc hw5 _
                clear e0 e1 e2 e3 e4 e5 e6 e7 e8
                generalize (wr.alloc (.cells #[.int .i64 sa, .int .i64 sb, .int .i64 sl] 121)) = w6 at *
                have hw6 := HB6.out.size
                go_wp2_with fail
                refine (bytes_in 2 _ 3 3 [sa, sb, sl] _ (by decide) (hfin.out _) (by omega)).mono ?_
                rintro e w7 ⟨rfl, b7⟩
                have hb7 : Below w6.heap.size w6 w7 := (Below.al (Below.refl w6.heap.size w6) (Nat.le_refl _)).trans (b7.mono (by simp))
                have HB7 := Lib.hid (HB6.out.trans (hb7.mono hw6))
                have HR7 := Lib.hid (HR6.out.bl hb7)
                clear b7 hb7 n1 n2 n3
                go_wp2
                go_roundw
                case rel => exact ⟨j + 1, by omega, by go_num, by rw [HS.out], HB7.out, HR7.out⟩
                case measure => simp [intOf]; omega
              · have hz0 := HZR.out j (by omega)
                rw [hz0] at HS hy hy2
                unfold Sp.z at HS hy hy2
                simp only at HS hy hy2
                have hjn2 : n' ≤ j := by omega
                clear hz0 hf
                go_upto_region 16 with fail
                have n1 := cell_new wr #[.int .i64 0, .int .i64 0, .int .i64 0] 121 0 rfl
                have n2 := cell_new wr #[.int .i64 0, .int .i64 0, .int .i64 0] 121 1 rfl
                have n3 := cell_new wr #[.int .i64 0, .int .i64 0, .int .i64 0] 121 2 rfl
                have HR6 : Hid (CdRow (wr.alloc (.cells #[.int .i64 0, .int .i64 0, .int .i64 0] 121)) w.heap.size ⟨2, kd, ln, sz, [], 0, 0, rs, ov⟩ A n k _ n' k') := HR5.out.al
                have HB6 : Hid (Below w.heap.size w (wr.alloc (.cells #[.int .i64 0, .int .i64 0, .int .i64 0] 121))) := HB5.out.alloc hw5 _
                clear e0 e1 e2 e3 e4 e5 e6 e7 e8
                generalize (wr.alloc (.cells #[.int .i64 0, .int .i64 0, .int .i64 0] 121)) = w6 at *
                have hw6 := HB6.out.size
                go_wp2_with fail
                refine (bytes_in 2 _ 3 3 [0, 0, 0] _ (by decide) (IntsIn.three (by decide) (by decide) (by decide) rfl) (by omega)).mono ?_
                rintro e w7 ⟨rfl, b7⟩
                have hb7 : Below w6.heap.size w6 w7 := (Below.al (Below.refl w6.heap.size w6) (Nat.le_refl _)).trans (b7.mono (by simp))
                have HB7 := Lib.hid (HB6.out.trans (hb7.mono hw6))
                have HR7 := Lib.hid (HR6.out.bl hb7)
                clear b7 hb7 n1 n2 n3
                go_wp2
                go_roundw
                case rel => exact ⟨j + 1, by omega, by go_num, by rw [HS.out], HB7.out, HR7.out⟩
                case measure => simp [intOf]; omega
            · obtain rfl : j = 3 := by omega
              have y1 : (bytesW 2 [ov]).size ≤ 100 := Nat.le_trans bytesW_size (by simp)
              have y2 : ¬ 9223372036854775807 < (accS 2 kd ln sz rs 3).size + (bytesW 2 [ov]).size := by omega
              have HT := Lib.hid HP.out.symm
              clear hlt hj
              go_wp2_with fail
              refine (bytes_in 2 _ 1 1 [ov] _ (by decide) (IntsIn.one F6 rfl) (by omega)).mono ?_
              rintro e w6 ⟨rfl, b6⟩
              have HB6 := Lib.hid (HB5.out.trans (((Below.al (Below.refl wr.heap.size wr) (Nat.le_refl _)).trans (b6.mono (by simp))).mono hw5))
              have hws6 := HB6.out.size
              clear b6 e0 e1 e2 e3 e4 e5 e6 e7 e8
              go_upto_region 18 with fail
              rw [HT.out]
              rw [HP.out] at HBZ
              rw [HT.out] at HBZ
              clear y1 y2 hz5
              have HBC := HBZ.out
              generalize bytesC ⟨2, kd, ln, sz, [], 0, 0, rs, ov⟩ = bc at *
              have HZ : Hid (∀ v : World, Calls Tryz.prog 65 #[.int .i64 (32 - (bc.size : Int))] v fun e w' => e = .returned (.string ⟨(List.replicate (32 - bc.size) (0 : UInt8)).toArray⟩) ∧ Below v.heap.size v w') := fun v => by
                have h := zeros_any (32 - bc.size) v (by omega)
                rwa [show ((32 - bc.size : Nat) : Int) = 32 - (bc.size : Int) by omega] at h
              have hzs : (⟨(List.replicate (32 - bc.size) (0 : UInt8)).toArray⟩ : ByteArray).size ≤ 32 := by
                show (List.replicate (32 - bc.size) (0 : UInt8)).toArray.size ≤ 32
                simp
              generalize (⟨(List.replicate (32 - bc.size) (0 : UInt8)).toArray⟩ : ByteArray) = zs at *
              have y0 : ¬ 9223372036854775807 < bc.size + zs.size := by omega
              go_wp2_with fail
              refine (HZ.out _).mono ?_
              rintro e w9 ⟨rfl, b9⟩
              have HB9 := Lib.hid (HB6.out.trans (b9.mono hws6))
              clear b9
              go_wp2
              go_ret2
              rw [HW.out]
              exact ⟨rfl, HB9.out⟩
end Go.Proofs.YtapjbffhihhnbaaGreat

namespace Go.Proofs.YtapjbffhihhnbaaGreat
open Go.RowKit

set_option maxRecDepth 100000 in
theorem right_new1 (kd : Int) : rightC ⟨1, kd, 1, 0, [0, 0, 0, 0], 0, 0, [], 0⟩ = (decide (kd = 1) || decide (kd = 2)) := by
  simp [rightC, isZ, headB, oneB, twoB, blkB]
set_option maxRecDepth 100000 in
theorem right_new2 (kd : Int) : rightC ⟨2, kd, 1, 0, [], 0, 0, [], 0⟩ = (decide (kd = 1) || decide (kd = 2)) := by
  simp [rightC, isZ, headB, oneB, twoB, blkB, rightL]
set_option maxRecDepth 100000 in
theorem right_new0 {f : Int} (kd : Int) (h1 : f ≠ 1) (h2 : f ≠ 2) : rightC ⟨f, kd, 1, 0, [], 0, 0, [], 0⟩ = false := by
  simp [rightC, isZ, headB, oneB, twoB, h1, h2]
set_option maxRecDepth 100000 in
theorem newC_1 (kd : Int) : newC 1 kd = if rightC ⟨1, kd, 1, 0, [0, 0, 0, 0], 0, 0, [], 0⟩ = true then (⟨1, kd, 1, 0, [0, 0, 0, 0], 0, 0, [], 0⟩, 0) else (zeroC, 1) := by
  rw [right_new1]; rfl
set_option maxRecDepth 100000 in
theorem newC_2 (kd : Int) : newC 2 kd = if rightC ⟨2, kd, 1, 0, [], 0, 0, [], 0⟩ = true then (⟨2, kd, 1, 0, [], 0, 0, [], 0⟩, 0) else (zeroC, 1) := by
  rw [right_new2]; rfl
set_option maxRecDepth 100000 in
theorem newC_0 {f : Int} (kd : Int) (h1 : f ≠ 1) (h2 : f ≠ 2) : newC f kd = (zeroC, 1) := by
  unfold newC; rw [if_neg h1, if_neg h2]; split <;> rfl
set_option maxRecDepth 100000 in
theorem cd_two {kd : Int} (f : Int) (hf : Fit f) (hk : Fit kd) (w : World) (B : Nat) : CdAt w B (cdv ⟨f, kd, 1, 0, [], 0, 0, [], 0⟩ none 0 0 none 0 0) ⟨f, kd, 1, 0, [], 0, 0, [], 0⟩ :=
  ⟨none, 0, 0, none, 0, 0, rfl, ⟨rfl, by simp, fun k hk => absurd hk (by omega)⟩, ⟨rfl, by simp, fun k hk => absurd hk (by omega)⟩, by omega, by omega, hf, hk, (by show Fit 1; decide), (by show Fit 0; decide), (by show Fit 0; decide), (by show Fit 0; decide), (by show Fit 0; decide)⟩

set_option maxRecDepth 100000 in
theorem row_new1 (w : World) (o : Obj) (c : Cd) (A : Option Addr) (n k : Nat) (A' : Option Addr) (n' k' : Nat) : CdRow ((w.alloc o).alloc (.cells (cells9 c A n k A' n' k') 40)) (w.heap.size + 1) c A n k A' n' k' := by
  have h := CdRow.new (w.alloc o) c A n k A' n' k'
  rwa [show (w.alloc o).heap.size = w.heap.size + 1 by simp] at h
set_option maxRecDepth 100000 in
theorem row_at {w : World} {o o' : Obj} {c : Cd} {A : Option Addr} {n k : Nat} {A' : Option Addr} {n' k' : Nat} {C : Nat} {v : World} (h : CdRow ((w.alloc o).alloc o') (w.alloc o).heap.size c A n k A' n' k') (hb : Below C ((w.alloc o).alloc o') v) (hC : C = ((w.alloc o).alloc o').heap.size := by rfl) : CdRow v (w.heap.size + 1) c A n k A' n' k' := by
  subst hC
  rw [show (w.alloc o).heap.size = w.heap.size + 1 by simp] at h
  exact h.below hb (by simp)

end Go.Proofs.YtapjbffhihhnbaaGreat
