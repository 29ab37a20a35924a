/-
  LadderOf: the rungs of a map, or why it has none, are what the document says. No condition.
-/
import Derived.Test.YtiknbbkblldjiaaRefDouble
import Derived.Deep.RegionHeld3
import Derived.Deep.DeepFit
import Derived.Deep.CutRange
namespace Go.Proofs.Ytiknbbkblldjiaa.ladderOf
open Go.ChangeShapes Go.WideShapes Go.ChangeAt Go.RowKit
open Go.ChangeMaps (open_string shut_string)

theorem cut_at {w : World} {B : Nat} {A : Option Addr} {n : Nat} {zs : List Int} (h : IntsAt w B A n zs) : IntsAt w B A (min (n : Int) 400).toNat (zs.take (min (n : Int) 400).toNat) := h.take _ (by omega)
theorem eql22_some (W : World) (a : Addr) (n c : Nat) : (binOp .eql 22 (.slice (some a) n c) (.slice none 0 0)).run Try.prog W = .ok (.bool false) W := by kernel_rfl
theorem eql24_nil (W : World) : (binOp .eql 24 (.slice none 0 0) (.slice none 0 0)).run Try.prog W = .ok (.bool true) W := eql_nil W

theorem opt_len (zs : List Int) (k : Nat) (hk : k < 10) (l : List Int) (e : optP zs k = some l) : l.length ≤ 8 := by
  unfold optP at e
  split at e
  · cases e
  · cases e
    rw [pieceOf_len zs k hk]
    have := (offP_lt k hk).2.2
    omega

set_option maxHeartbeats 4000000 in
theorem walk (A : Option Addr) (n c : Nat) (zs0 : List Int) (w : World) (h : IntsAt w w.heap.size A n zs0 ∧ n ≤ c) :
    Calls Try.prog 3 #[.slice A n c] w fun e w' => e = .returned (.bool true) ∧ Below w.heap.size w w' := by
  obtain ⟨hA, hc⟩ := h
  have HA := Lib.hid (cut_at hA)
  have hm : (min (n : Int) 400).toNat ≤ 400 := by omega
  have hmc : (min (n : Int) 400).toNat ≤ c := by omega
  clear hA
  go_enter Try.func3, Try.ntmps3
  go_wp2_with fail
  refine (lives_any w).mono ?_
  rintro e w1 ⟨rfl, b1⟩
  have HA1 := Lib.hid (HA.out.below b1 (Nat.le_refl _))
  have HB1 := Lib.hid b1
  have hz1 := b1.size
  clear b1
  go_wp2_with fail
  generalize (min (n : Int) 400) = mi at *
  generalize mi.toNat = M at *
  generalize zs0.take M = zs at *
  have HL1 := Lib.hid HA1.out.len
  by_cases hE : fitsE zs = 0
  · refine (of_any A M c w.heap.size zs w1 HA1.out hz1 (by omega) hmc hE).mono ?_
    rintro e w2 ⟨A1, A2, A3, c1, c2, c3, rfl, h1, h2, h3, h4, h5, b2⟩
    have HB2 := Lib.hid (HB1.out.trans (b2.mono hz1))
    have hz2 := HB2.out.size
    have HA2 := Lib.hid (HA1.out.below b2 hz1)
    have H1 := Lib.hid h1
    have H2 := Lib.hid h2
    have H3 := Lib.hid h3
    clear b2 h1 h2 h3 HA1 HA
    have HBA : Hid (Below w2.heap.size w2 (w2.alloc (.cells #[.slice A1 4 c1, .slice A2 ((optP zs 1).getD []).length c2, .slice A3 (dblL fun j => optP zs (j + 2)).length c3] 26))) := (Below.refl _ w2).alloc (Nat.le_refl _) _
    have HF := Lib.hid (rfits_any A M c w.heap.size zs (w2.alloc (.cells #[.slice A1 4 c1, .slice A2 ((optP zs 1).getD []).length c2, .slice A3 (dblL fun j => optP zs (j + 2)).length c3] 26)) (HA2.out.below HBA.out hz2) (by omega))
    rw [hE] at HF
    go_wp2_with fail
    refine HF.out.mono ?_
    rintro e w3 ⟨rfl, rfl⟩
    go_wp2_with fail
    refine (rdouble_any A M c w.heap.size zs _ (HA2.out.below HBA.out hz2) (Nat.le_trans hz2 HBA.out.size)).mono ?_
    rintro e w4 ⟨A4, c4, rfl, h4l, b4⟩
    have hb24 := HBA.out.trans (b4.mono HBA.out.size)
    have HB24 := Lib.hid hb24
    have HB4 := Lib.hid (HB2.out.trans (hb24.mono hz2))
    have hz24 : w2.heap.size < w4.heap.size := by have := b4.size; simp at this; omega
    have HA4 := Lib.hid (HA2.out.below hb24 hz2)
    have H14 := Lib.hid (H1.out.below hb24 (Nat.le_refl _))
    have H24 := Lib.hid (H2.out.below hb24 (Nat.le_refl _))
    have H34 := Lib.hid (H3.out.below hb24 (Nat.le_refl _))
    have HD4 := Lib.hid h4l
    have hstr : w4.heap[w2.heap.size]? = some (.cells #[.slice A1 4 c1, .slice A2 ((optP zs 1).getD []).length c2, .slice A3 (dblL fun j => optP zs (j + 2)).length c3] 26 (0, 0)) := (b4.block _ (by simp)).trans (World.alloc_heap_new w2 _)
    obtain ⟨⟨q0, -⟩, ⟨q1, -⟩, ⟨q2, -⟩⟩ := cell3 hstr
    have KS0 : ∀ v, Below w4.heap.size w4 v → v.cell? ⟨w2.heap.size, 0, none⟩ = some (.slice A1 4 c1) ∧ v.cell? ⟨w2.heap.size, 1, none⟩ = some (.slice A2 ((optP zs 1).getD []).length c2) ∧ v.cell? ⟨w2.heap.size, 2, none⟩ = some (.slice A3 (dblOf zs).length c3) := fun v hb =>
      ⟨(hb.cell (p := ⟨w2.heap.size, 0, none⟩) hz24).trans q0, (hb.cell (p := ⟨w2.heap.size, 1, none⟩) hz24).trans q1, (hb.cell (p := ⟨w2.heap.size, 2, none⟩) hz24).trans q2⟩
    have KD := Lib.hid (fun v (hb : Below w4.heap.size w4 v) => rdirect_any A M c w.heap.size zs v (HA4.out.below hb (by omega)))
    have KL0 := fun v (hb : Below w4.heap.size w4 v) => rlist_any A M c w.heap.size zs 4 v (HA4.out.below hb (by omega)) (by have := hb.size; omega) (by omega)
    rw [show listR zs 4 = optP zs 1 from listR_opt zs 1 (by omega) (by omega)] at KL0
    rw [show ((4 : Nat) : Int) = 4 from rfl] at KL0
    have B4 : Hid (Below w4.heap.size w4 w4.drew) := Below.drews (Below.refl _ _) ⟨1, rfl⟩
    clear hb24 b4 h4l hstr q0 q1 q2 H1 H2 H3 HF HBA hE HA2
    cases ho1 : optP zs 1 with
    | none =>
      rw [ho1] at KS0 KL0 H24
      obtain ⟨rfl, rfl⟩ : A2 = none ∧ c2 = 0 := by have h2' : Value.slice A2 0 c2 = .slice none 0 0 := H24.out; injection h2' with e1 e2 e3; exact ⟨e1, e3⟩
      have KS1 : ∀ v, Below w4.heap.size w4 v → v.cell? ⟨w2.heap.size, 0, none⟩ = some (.slice A1 4 c1) ∧ v.cell? ⟨w2.heap.size, 1, none⟩ = some (.slice none 0 0) ∧ v.cell? ⟨w2.heap.size, 2, none⟩ = some (.slice A3 (dblOf zs).length c3) := KS0
      have KS := Lib.hid KS1
      have KL := Lib.hid KL0
      have S4 := Lib.hid (KS1 w4.drew B4.out)
      have heq := eql22_nil
      rw [show (Option.getD (none : Option (List Int)) []).length = 0 from rfl]
      clear KS0 KS1 KL0 ho1
      have hn8 : (dblOf zs).length ≤ 8 := by rw [show (dblOf zs).length = _ from dblL_len _]; split <;> omega
      generalize hn3 : (dblOf zs).length = n3 at *
      go_wp2_with fail
      go_region_held3 (fun W' => W'.cell? ⟨w2.heap.size, 0, none⟩ = some (.slice A1 4 c1) ∧ W'.cell? ⟨w2.heap.size, 1, none⟩ = some (.slice none 0 0) ∧ W'.cell? ⟨w2.heap.size, 2, none⟩ = some (.slice A3 n3 c3)) (first | exact S4.out | exact S5.out | exact S6.out | exact S7.out | exact S8.out | exact S9.out)
        (first
          | (go_at_call 14
             go_fit (KL.out v8 B8.out)
             rintro e v9 ⟨u9, rfl, ho9, b9⟩
             obtain rfl : u9 = .slice none 0 0 := ho9
             have B9 := Lib.hid (B8.out.trans (b9.mono B8.out.size))
             have S9 := Lib.hid (KS.out v9 B9.out)
             clear b9)
          | (go_at_call 12
             go_fit (same_ints none none 0 0 0 0 0 [] v7 (IntsAt.nil _ _ _) (IntsAt.nil _ _ _) (by omega))
             rintro e v8 ⟨rfl, d8⟩
             have B8 := Lib.hid (Below.drews B7.out d8)
             have S8 := Lib.hid (KS.out v8 B8.out)
             clear d8)
          | (go_at_call 14
             go_fit (KL.out v6 B6.out)
             rintro e v7 ⟨u7, rfl, ho7, b7⟩
             obtain rfl : u7 = .slice none 0 0 := ho7
             have B7 := Lib.hid (B6.out.trans (b7.mono B6.out.size))
             have S7 := Lib.hid (KS.out v7 B7.out)
             clear b7)
          | (go_at_call 12
             go_fit (same_ints A1 (some ⟨g5, 0, none⟩) 4 c1 4 _ _ (pieceOf zs 0) v5 (H14.out.below B5.out (Nat.le_of_lt hz24)) I5.out (by omega))
             rintro e v6 ⟨rfl, d6⟩
             have B6 := Lib.hid (Below.drews B5.out d6)
             have S6 := Lib.hid (KS.out v6 B6.out)
             clear d6)
          | (go_at_call 13
             go_fit (KD.out w4.drew B4.out)
             rintro e v5 ⟨g5, rfl, hi5, b5⟩
             have I5 := Lib.hid hi5
             have B5 := Lib.hid (B4.out.trans (b5.mono B4.out.size))
             have S5 := Lib.hid (KS.out v5 B5.out)
             clear b5 hi5))
      go_wp2
      go_loopw [6] (fun j wr => ∃ i : Nat, i ≤ n3 ∧ j = .int .i64 (i : Int) ∧ Below w4.heap.size w4 wr) (fun j _ => n3 - (intOf j).toNat)
      case atStart => exact ⟨0, by omega, rfl, B9.out⟩
      case round =>
        obtain ⟨i, hi, rfl, hb⟩ := hrel
        have HBW := Lib.hid hb
        clear hb
        by_cases hlt : i < n3
        · obtain ⟨b3, o3, u3, rfl, hb3, q3, l3⟩ := H34.out.2 i hlt
          obtain ⟨b4, o4, u4, rfl, hb4, q4, l4⟩ := HD4.out.2 i hlt
          have KQ : ∀ v, Below w4.heap.size w4 v → v.cell? ⟨w2.heap.size, 2, none⟩ = some (.slice (some ⟨b3, o3, none⟩) n3 c3) ∧ v.cell? ⟨b3, o3 + i, none⟩ = some u3 ∧ v.cell? ⟨b4, o4 + i, none⟩ = some u4 := fun v hb => ⟨(KS.out v hb).2.2, (hb.cell (p := ⟨b3, o3 + i, none⟩) (by show b3 < _; omega)).trans q3, (hb.cell (p := ⟨b4, o4 + i, none⟩) hb4).trans q4⟩
          have BW2 := Below.drews HBW.out (⟨1, rfl⟩ : Drew wr wr.drew)
          have L3 := l3.below BW2 (Nat.le_of_lt hz24)
          have L4 := l4.below BW2 (Nat.le_refl _)
          have d1 : decide ((i : Int) < (n3 : Int)) = true := by simp; omega
          have d2 : (i : Int) < (n3 : Int) := by omega
          have HBW2 := Lib.hid BW2
          have HKQ := Lib.hid KQ
          clear q3 q4 l3 l4 BW2 KQ
          have LL0 : ∀ l, (dblL fun j => optP zs (j + 2)).getD i none = some l → l.length ≤ 8 := fun l e => opt_len zs (i + 2) (by omega) l (by rw [← e]; exact (dblL_get (fun j => optP zs (j + 2)) i (by omega)).symm)
          have LL := Lib.hid LL0
          clear LL0
          generalize (dblL fun j => optP zs (j + 2)).getD i none = oo at *
          cases oo with
          | none =>
            obtain rfl : u3 = .slice none 0 0 := L3
            obtain rfl : u4 = .slice none 0 0 := L4
            have T0 := Lib.hid (HKQ.out wr.drew HBW2.out)
            have heqn := eql22_nil
            go_wp2_with fail
            go_region_held3 (fun W' => W'.cell? ⟨w2.heap.size, 2, none⟩ = some (.slice (some ⟨b3, o3, none⟩) n3 c3) ∧ W'.cell? ⟨b3, o3 + i, none⟩ = some (.slice none 0 0) ∧ W'.cell? ⟨b4, o4 + i, none⟩ = some (.slice none 0 0)) (first | exact T0.out | exact T1.out)
              (first
                | (go_at_call 12
                   go_fit (same_ints none none 0 0 0 0 0 [] wr.drew (IntsAt.nil _ _ _) (IntsAt.nil _ _ _) (by omega))
                   rintro e x1 ⟨rfl, dd⟩
                   have X1 := Lib.hid (Below.drews HBW2.out dd)
                   have T1 := Lib.hid (HKQ.out x1 X1.out)
                   clear dd))
            go_wp2
            go_roundw
            case rel => exact ⟨i + 1, by omega, by go_num, X1.out⟩
            case measure => simp [intOf]; omega
          | some l =>
            obtain ⟨a3, e3, rfl, -, i3⟩ := L3
            obtain ⟨a4, e4, rfl, -, i4⟩ := L4
            have T0 := Lib.hid (HKQ.out wr.drew HBW2.out)
            have I3 := Lib.hid i3
            have I4 := Lib.hid i4
            have heqn := eql22_some
            have hll : l.length ≤ 8 := LL.out l rfl
            clear i3 i4
            go_wp2_with fail
            go_region_held3 (fun W' => W'.cell? ⟨w2.heap.size, 2, none⟩ = some (.slice (some ⟨b3, o3, none⟩) n3 c3) ∧ W'.cell? ⟨b3, o3 + i, none⟩ = some (.slice (some a3) l.length e3) ∧ W'.cell? ⟨b4, o4 + i, none⟩ = some (.slice (some a4) l.length e4)) (first | exact T0.out | exact T1.out)
              (first
                | (go_at_call 12
                   go_fit (same_ints (some a3) (some a4) l.length e3 e4 _ _ l wr.drew I3.out I4.out (by omega))
                   rintro e x1 ⟨rfl, dd⟩
                   have X1 := Lib.hid (Below.drews HBW2.out dd)
                   have T1 := Lib.hid (HKQ.out x1 X1.out)
                   clear dd))
            go_wp2
            go_roundw
            case rel => exact ⟨i + 1, by omega, by go_num, X1.out⟩
            case measure => simp [intOf]; omega
        · have d1 : decide ((i : Int) < (n3 : Int)) = false := by simp; omega
          go_wp2
          go_ret
          exact ⟨rfl, HB4.out.trans (HBW.out.mono HB4.out.size)⟩
    | some l =>
      rw [ho1] at KS0 KL0 H24
      obtain ⟨a2, c2', e2, -, i2⟩ := H24.out
      have e2' : Value.slice A2 l.length c2 = .slice (some a2) l.length c2' := e2
      injection e2' with e21 e22 e23
      subst e21 e23
      have hl8 := opt_len zs 1 (by omega) l ho1
      have KS1 : ∀ v, Below w4.heap.size w4 v → v.cell? ⟨w2.heap.size, 0, none⟩ = some (.slice A1 4 c1) ∧ v.cell? ⟨w2.heap.size, 1, none⟩ = some (.slice (some a2) l.length c2) ∧ v.cell? ⟨w2.heap.size, 2, none⟩ = some (.slice A3 (dblOf zs).length c3) := KS0
      have KS := Lib.hid KS1
      have KL := Lib.hid KL0
      have S4 := Lib.hid (KS1 w4.drew B4.out)
      have I2 := Lib.hid i2
      have heq := eql22_some
      rw [show (Option.getD (some l) []).length = l.length from rfl]
      clear KS0 KS1 KL0 ho1 e2 e22 i2
      have hn8 : (dblOf zs).length ≤ 8 := by rw [show (dblOf zs).length = _ from dblL_len _]; split <;> omega
      generalize hn3 : (dblOf zs).length = n3 at *
      go_wp2_with fail
      go_region_held3 (fun W' => W'.cell? ⟨w2.heap.size, 0, none⟩ = some (.slice A1 4 c1) ∧ W'.cell? ⟨w2.heap.size, 1, none⟩ = some (.slice (some a2) l.length c2) ∧ W'.cell? ⟨w2.heap.size, 2, none⟩ = some (.slice A3 n3 c3)) (first | exact S4.out | exact S5.out | exact S6.out | exact S7.out | exact S8.out | exact S9.out)
        (first
          | (go_at_call 14
             go_fit (KL.out v8 B8.out)
             rintro e v9 ⟨u9, rfl, ho9, b9⟩
             obtain ⟨a9, e9, rfl, -, i9⟩ := ho9.lst
             clear i9 ho9
             have B9 := Lib.hid (B8.out.trans (b9.mono B8.out.size))
             have S9 := Lib.hid (KS.out v9 B9.out)
             clear b9)
          | (go_at_call 12
             go_fit (same_ints (some a2) (some a7) l.length c2 e7 _ _ l v7 (I2.out.below B7.out (Nat.le_of_lt hz24)) I7.out (by omega))
             rintro e v8 ⟨rfl, d8⟩
             have B8 := Lib.hid (Below.drews B7.out d8)
             have S8 := Lib.hid (KS.out v8 B8.out)
             clear d8)
          | (go_at_call 14
             go_fit (KL.out v6 B6.out)
             rintro e v7 ⟨u7, rfl, ho7, b7⟩
             obtain ⟨a7, e7, rfl, -, i7⟩ := ho7.lst
             have I7 := Lib.hid i7
             clear i7 ho7
             have B7 := Lib.hid (B6.out.trans (b7.mono B6.out.size))
             have S7 := Lib.hid (KS.out v7 B7.out)
             clear b7)
          | (go_at_call 12
             go_fit (same_ints A1 (some ⟨g5, 0, none⟩) 4 c1 4 _ _ (pieceOf zs 0) v5 (H14.out.below B5.out (Nat.le_of_lt hz24)) I5.out (by omega))
             rintro e v6 ⟨rfl, d6⟩
             have B6 := Lib.hid (Below.drews B5.out d6)
             have S6 := Lib.hid (KS.out v6 B6.out)
             clear d6)
          | (go_at_call 13
             go_fit (KD.out w4.drew B4.out)
             rintro e v5 ⟨g5, rfl, hi5, b5⟩
             have I5 := Lib.hid hi5
             have B5 := Lib.hid (B4.out.trans (b5.mono B4.out.size))
             have S5 := Lib.hid (KS.out v5 B5.out)
             clear b5 hi5))
      go_wp2
      go_loopw [6] (fun j wr => ∃ i : Nat, i ≤ n3 ∧ j = .int .i64 (i : Int) ∧ Below w4.heap.size w4 wr) (fun j _ => n3 - (intOf j).toNat)
      case atStart => exact ⟨0, by omega, rfl, B9.out⟩
      case round =>
        obtain ⟨i, hi, rfl, hb⟩ := hrel
        have HBW := Lib.hid hb
        clear hb
        by_cases hlt : i < n3
        · obtain ⟨b3, o3, u3, rfl, hb3, q3, l3⟩ := H34.out.2 i hlt
          obtain ⟨b4, o4, u4, rfl, hb4, q4, l4⟩ := HD4.out.2 i hlt
          have KQ : ∀ v, Below w4.heap.size w4 v → v.cell? ⟨w2.heap.size, 2, none⟩ = some (.slice (some ⟨b3, o3, none⟩) n3 c3) ∧ v.cell? ⟨b3, o3 + i, none⟩ = some u3 ∧ v.cell? ⟨b4, o4 + i, none⟩ = some u4 := fun v hb => ⟨(KS.out v hb).2.2, (hb.cell (p := ⟨b3, o3 + i, none⟩) (by show b3 < _; omega)).trans q3, (hb.cell (p := ⟨b4, o4 + i, none⟩) hb4).trans q4⟩
          have BW2 := Below.drews HBW.out (⟨1, rfl⟩ : Drew wr wr.drew)
          have L3 := l3.below BW2 (Nat.le_of_lt hz24)
          have L4 := l4.below BW2 (Nat.le_refl _)
          have d1 : decide ((i : Int) < (n3 : Int)) = true := by simp; omega
          have d2 : (i : Int) < (n3 : Int) := by omega
          have HBW2 := Lib.hid BW2
          have HKQ := Lib.hid KQ
          clear q3 q4 l3 l4 BW2 KQ
          have LL0 : ∀ l, (dblL fun j => optP zs (j + 2)).getD i none = some l → l.length ≤ 8 := fun l e => opt_len zs (i + 2) (by omega) l (by rw [← e]; exact (dblL_get (fun j => optP zs (j + 2)) i (by omega)).symm)
          have LL := Lib.hid LL0
          clear LL0
          generalize (dblL fun j => optP zs (j + 2)).getD i none = oo at *
          cases oo with
          | none =>
            obtain rfl : u3 = .slice none 0 0 := L3
            obtain rfl : u4 = .slice none 0 0 := L4
            have T0 := Lib.hid (HKQ.out wr.drew HBW2.out)
            have heqn := eql22_nil
            go_wp2_with fail
            go_region_held3 (fun W' => W'.cell? ⟨w2.heap.size, 2, none⟩ = some (.slice (some ⟨b3, o3, none⟩) n3 c3) ∧ W'.cell? ⟨b3, o3 + i, none⟩ = some (.slice none 0 0) ∧ W'.cell? ⟨b4, o4 + i, none⟩ = some (.slice none 0 0)) (first | exact T0.out | exact T1.out)
              (first
                | (go_at_call 12
                   go_fit (same_ints none none 0 0 0 0 0 [] wr.drew (IntsAt.nil _ _ _) (IntsAt.nil _ _ _) (by omega))
                   rintro e x1 ⟨rfl, dd⟩
                   have X1 := Lib.hid (Below.drews HBW2.out dd)
                   have T1 := Lib.hid (HKQ.out x1 X1.out)
                   clear dd))
            go_wp2
            go_roundw
            case rel => exact ⟨i + 1, by omega, by go_num, X1.out⟩
            case measure => simp [intOf]; omega
          | some l =>
            obtain ⟨a3, e3, rfl, -, i3⟩ := L3
            obtain ⟨a4, e4, rfl, -, i4⟩ := L4
            have T0 := Lib.hid (HKQ.out wr.drew HBW2.out)
            have I3 := Lib.hid i3
            have I4 := Lib.hid i4
            have heqn := eql22_some
            have hll : l.length ≤ 8 := LL.out l rfl
            clear i3 i4
            go_wp2_with fail
            go_region_held3 (fun W' => W'.cell? ⟨w2.heap.size, 2, none⟩ = some (.slice (some ⟨b3, o3, none⟩) n3 c3) ∧ W'.cell? ⟨b3, o3 + i, none⟩ = some (.slice (some a3) l.length e3) ∧ W'.cell? ⟨b4, o4 + i, none⟩ = some (.slice (some a4) l.length e4)) (first | exact T0.out | exact T1.out)
              (first
                | (go_at_call 12
                   go_fit (same_ints (some a3) (some a4) l.length e3 e4 _ _ l wr.drew I3.out I4.out (by omega))
                   rintro e x1 ⟨rfl, dd⟩
                   have X1 := Lib.hid (Below.drews HBW2.out dd)
                   have T1 := Lib.hid (HKQ.out x1 X1.out)
                   clear dd))
            go_wp2
            go_roundw
            case rel => exact ⟨i + 1, by omega, by go_num, X1.out⟩
            case measure => simp [intOf]; omega
        · have d1 : decide ((i : Int) < (n3 : Int)) = false := by simp; omega
          go_wp2
          go_ret
          exact ⟨rfl, HB4.out.trans (HBW.out.mono HB4.out.size)⟩
  · obtain ⟨E, hE2, h0⟩ : ∃ E, fitsE zs = E ∧ (E = 3 ∨ E = 12) := ⟨_, rfl, by unfold fitsE at hE ⊢; split <;> simp_all⟩
    refine (of_err E A M c w.heap.size zs w1 HA1.out hz1 (by omega) hmc hE2 h0).mono ?_
    rintro e w2 ⟨rfl, b2⟩
    have h0' : (E != 0) = true := bne_iff_ne.2 (by omega)
    have HB2 := Lib.hid (HB1.out.trans (b2.mono hz1))
    have hz2 := HB2.out.size
    have HA2 := Lib.hid (HA1.out.below b2 hz1)
    have HBA : Hid (Below w2.heap.size w2 (w2.alloc (.cells #[nilS, nilS, nilS] 26))) := (Below.refl _ w2).alloc (Nat.le_refl _) _
    have HF := Lib.hid (rfits_any A M c w.heap.size zs (w2.alloc (.cells #[nilS, nilS, nilS] 26)) (HA2.out.below HBA.out hz2) (by omega))
    rw [hE2] at HF
    have heq := eql22_nil
    have heq2 := eql24_nil
    clear b2 h0 hE2 hE
    go_wp2_with fail
    refine HF.out.mono ?_
    rintro e w3 ⟨rfl, rfl⟩
    go_wp2
    go_ret
    exact ⟨rfl, HB2.out.alloc hz2 _⟩

set_option maxRecDepth 100000 in
theorem lifted (os : Os) (started : os.Started) (H : Type) (enc : TypeId × Value → H) :
    ReturnsInHanded {} Try.checked os 3 .any (Rows.ladderOfSpec.pre6 enc Try.prog Try.f3 Rows.ladderOfRow.domain false) (Rows.ladderOfSpec.post enc Try.prog Try.f3 false true false false) := by
  refine returnsInHanded_of_change_sized (C := Try.checked) own started (by kernel_rfl) Try.func3
    (ChangeSpec.witness6 (enc := enc) (C := Try.checked) false ⟨#[], #[.slice none 0 0], []⟩ 8 (by kernel_rfl) (by kernel_rfl) (by kernel_rfl) (by kernel_rfl)) ?_
  intro W base args ds gs before hval0 hW hcnd hsz0 _
  have hval : ∀ (j : Nat) t v, Try.f3.params[j]? = some t → args[j]? = some v → Value.okWide Try.prog W .any base t v := hval0
  have hW' := hW
  obtain ⟨p, q, hA0, hV, rfl, hfz, hnd⟩ := hW
  have hA : DataW.TrodAll enc Try.prog W 0 (fun _ => true) true Try.f3.params.toList args.toList ds p := hA0
  rw [Try.params3] at hA hval
  obtain ⟨v0, vs0, d0, ds0, p0, q0, hargs, rfl, rfl, h0, r0⟩ := trodAll_cons hA
  obtain ⟨rfl, rfl, rfl⟩ := trodAll_nil r0
  obtain rfl : args = #[v0] := by cases args; simp_all
  obtain ⟨rfl, rfl⟩ := trodVars_none hV
  have lt0 : ∀ x ∈ p0, x.block < W.heap.size := by obtain ⟨m, hm⟩ := h0; exact DataW.trod_lt m _ _ _ hm
  obtain ⟨a0, len0, cap0, rfl⟩ := okWide_slice Try.underlying22 (hval 0 22 v0 rfl rfl)
  obtain ⟨l0, w0⟩ := ints_open h0
  clear hA0 hval0
  refine (walk a0 len0 cap0 l0 W w0).mono fun e W' ⟨he, bel⟩ => ?_
  subst he
  exact ⟨_, rfl, _, _, _, [], _, [], hW', trodAll_mk1 (shut_bool Try.underlying4 _), (trodAll_cons_mk (Below.trod laidOut (by kernel_rfl) (of_decide_eq_true (by kernel_rfl)) h0 bel lt0) trodAll_mk0), rfl, bel.frame _, fun h => by cases h⟩

theorem over : Rows.ladderOfRow.holds Try.pinned (OpenSpec.ofChange Rows.ladderOfSpec) :=
  OpenClaim.holds_of_wide 3 Try.f3 rfl rfl rfl rfl rfl rfl rfl ⟨rfl, rfl, rfl, rfl, rfl⟩ rfl rfl rfl rfl rfl (by kernel_rfl) Try.func3 (by kernel_rfl)
    (of_decide_eq_true (by kernel_rfl)) (by unfold Func.isWrapper; first | (rw [if_pos (by decide +kernel)]; kernel_rfl) | (rw [if_neg (by decide +kernel)]; exact ⟨rfl, rfl⟩))
    (fun os started H enc _ => lifted os started H enc)

end Go.Proofs.Ytiknbbkblldjiaa.ladderOf
namespace Go.Proofs.Ytiknbbkblldjiaa
theorem ladderOf_proved : Rows.LadderOfSaid := ladderOf.over
#print axioms ladderOf_proved
end Go.Proofs.Ytiknbbkblldjiaa
