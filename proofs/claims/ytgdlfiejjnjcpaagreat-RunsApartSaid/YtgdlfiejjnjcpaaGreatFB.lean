/-
  WALKS of stock: notFree, find, load. Condition: marks of a block; a deal on a calm slab.
-/
import Derived.Test.YtgdlfiejjnjcpaaGreatFA
import Derived.Test.YtgdlfiejjnjcpaaGreatEA
set_option linter.unusedVariables false
set_option linter.unusedSimpArgs false
set_option maxRecDepth 100000
set_option maxHeartbeats 4000000
namespace Go.Proofs.YtgdlfiejjnjcpaaGreat.Dl
open Go.RowKit
open Mk
open Sl (Turns SlabAt)
open Lg (Ch chCells chsCells FS LogAt Whole setL setL_len ownB bcell)
open Kr (crv rightK blockK okK kf kb kc KBox cells3 put3 put3_box put3_below marksK bit_marks marks_size I64)

/-- the bytes of m in block g. -/
def BytesAt (W : World) (g : Nat) (m : ByteArray) : Prop := ∀ j, j < m.size → W.cell? ⟨g, j, none⟩ = some (.int .u8 ((byteN m j).toNat : Int)) ∧ W.frozen? ⟨g, j, none⟩ = false
theorem or_lt (x y : UInt8) : bits .or .u8 (x.toNat : Int) (y.toNat : Int) = ((x ||| y).toNat : Int) := by
  rw [u8_or_nat _ _ x.toNat_lt y.toNat_lt, UInt8.toNat_or]

theorem BytesAt.step {W : World} {g k : Nat} {m a : ByteArray} (h : BytesAt W g (orB m a k)) (hk : k < a.size) : BytesAt (W.setCell ⟨g, k, none⟩ (.int .u8 ((byteN a k ||| byteN m k).toNat : Int))) g (orB m a (k + 1)) := by
  intro j hj
  rw [orB_size] at hj
  obtain ⟨h1, h2⟩ := h j (by rw [orB_size]; exact hj)
  rw [byte_orB _ _ _ _ (by omega)] at h1 ⊢
  by_cases e : j = k
  · subst e
    rw [if_pos (by omega)]
    exact ⟨by go_simp, by go_simp⟩
  · by_cases e2 : j < k
    · rw [if_pos e2] at h1
      rw [if_pos (by omega)]
      exact ⟨by go_simp, by go_simp⟩
    · rw [if_neg e2] at h1
      rw [if_neg (by omega)]
      exact ⟨by go_simp, by go_simp⟩

theorem notFree_any (f b u : Int) (m : ByteArray) (w : World) (hm : m.size = 128) (hb : I64 b) :
    Calls Tryz.prog 32 #[crv f b u, .string m] w fun e w' => e = .returned (.string (usedB b m)) ∧ Below w.heap.size w w' := by
  have HX0 : Hid (KBox (w.alloc (.cells (cells3 f b u) 62)) w.heap.size f b u) := KBox.new _ _ _ _
  have HB0 : Hid (Below w.heap.size w (w.alloc (.cells (cells3 f b u) 62))) := (Below.refl _ _).alloc (Nat.le_refl _) _
  have HMK := Lib.hid (fun W => Kr.marks_any b W hb)
  have HM := Lib.hid hm
  have HU : Hid (usedB b m = orB m (marksK b) 128) := by show _ = _; rfl
  have HZ := Lib.hid (marks_size b)
  generalize marksK b = a at *
  clear hm hb
  unfold cells3 at HX0 HB0
  unfold crv at *
  go_enter Tryz.func32, Tryz.ntmps32
  obtain ⟨x0, x1, x2⟩ := HX0.out.row
  go_wp2_with (go_at_call 63; refine (HMK.out _).mono ?_; rintro e w1 ⟨rfl, b1⟩)
  have HB1 := Lib.hid (HB0.out.trans (b1.mono HB0.out.size))
  obtain ⟨W1, cap, hcv, hb1, hc1, hf1⟩ := bytes_new a w1
  have HA0 : Hid (BytesAt W1 w1.heap.size (orB m a 0)) := fun j hj => ⟨hc1 j hj, hf1 j hj⟩
  have HB2 := Lib.hid (HB1.out.trans (hb1.mono HB1.out.size))
  have HGE : Hid (w.heap.size ≤ w1.heap.size) := HB1.out.size
  clear b1 hb1 hc1 hf1 x0 x1 x2
  go_wp2
  rw [hcv]
  clear hcv
  generalize w1.heap.size = g at *
  have HZA := HZ.out
  rw [HZA]
  go_wp2
  go_loopw [6, 13] (fun _ i wr => ∃ k : Nat, k ≤ 128 ∧ i = .int .i64 k ∧ BytesAt wr g (orB m a k) ∧ Below w.heap.size w wr) (fun _ i _ => 128 - (intOf i).toNat)
  case atStart => exact ⟨0, by omega, rfl, HA0.out, HB2.out⟩
  case round =>
    obtain ⟨k, hk, rfl, hA, hB⟩ := hrel
    have HA := Lib.hid hA
    have HB := Lib.hid hB
    have HSZ := Lib.hid ((orB_size m a k).trans HZ.out)
    clear hA hB
    by_cases hlt : k < 128
    · have hck := (HA.out k (by rw [HSZ.out]; exact hlt)).1
      have hfz := (HA.out k (by rw [HSZ.out]; exact hlt)).2
      have hmk : k < m.size := by rw [HM.out]; exact hlt
      have hby : byteN (orB m a k) k = byteN a k := by rw [byte_orB _ _ _ _ (by rw [HZ.out]; omega), if_neg (by omega)]
      have hbm := Mk.byte_at m k hmk
      have hv := or_lt (byteN a k) (byteN m k)
      rw [hby] at hck
      rw [hbm] at hv
      have HST : Hid (BytesAt (wr.setCell ⟨g, k, none⟩ (.int .u8 ((byteN a k ||| m[k]).toNat : Int))) g (orB m a (k + 1))) := by
        have h := HA.out.step (m := m) (a := a) (k := k) (by rw [HZ.out]; exact hlt)
        rwa [hbm] at h
      have HBT := Lib.hid (HB.out.setCell (p := ⟨g, k, none⟩) HGE.out (.int .u8 ((byteN a k ||| m[k]).toNat : Int)))
      clear hby hbm
      have ha : IntKind.i64.wrap (k : Int) = (k : Int) := IntWalk.i64_in _ (by omega)
      have hb : (0 : Int) ≤ (k : Int) := by omega
      have hcc : ((k : Int)).toNat = k := by omega
      have hd : (k : Int) < 128 := by omega
      go_upto_region 5 with fail
      go_region
      go_wp2
      go_roundw
      case rel => exact ⟨k + 1, by omega, by go_num, HST.out, HBT.out.drew⟩
      case measure => simp [intOf]; omega
    · have hke : k = 128 := by omega
      subst hke
      have hcv := conv_back (W := wr) (g := g) (cap := cap) (orB m a 128) (fun j hj => (HA.out j hj).1)
      rw [HSZ.out, ← HU.out] at hcv
      go_wp2
      go_ret
      exact ⟨rfl, HB.out⟩
/-! ### find -/
theorem sfind_any (f b u : Int) (m : ByteArray) (n : Int) (w : World) (hm : m.size = 128) (hb : I64 b) (hn : I64 n) (hn1 : 1 ≤ n) :
    Calls Tryz.prog 132 #[crv f b u, .string m, .int .i64 n] w fun e w' => e = .returned (.tuple #[.int .i64 ((fndP m b n).1 : Nat), .int .i64 ((fndP m b n).2 : Nat)]) ∧ Below w.heap.size w w' := by
  have HX0 : Hid (KBox (w.alloc (.cells (cells3 f b u) 62)) w.heap.size f b u) := KBox.new _ _ _ _
  have HB0 : Hid (Below w.heap.size w (w.alloc (.cells (cells3 f b u) 62))) := (Below.refl _ _).alloc (Nat.le_refl _) _
  have HNF := Lib.hid (fun W => notFree_any f b u m W hm hb)
  have hz := used_size b m
  have HRN := Lib.hid (fun W => run_any (usedB b m) 0 b n W (by rw [hz]; omega) (by omega) hb hn)
  have HLN := Lib.hid (fun W => longest_any (usedB b m) b W (by rw [hz]; omega) hb)
  have HE1 : Hid (∀ i, runR (usedB b m) 0 b n = some i → fndP m b n = (i, n.toNat)) := fun i h => by unfold fndP; rw [h]
  have HE2 : Hid (runR (usedB b m) 0 b n = none → fndP m b n = lonR (usedB b m) b) := fun h => by unfold fndP; rw [h]
  have HN1 : Hid (((n.toNat : Nat) : Int) = n) := by show _ = _; omega
  generalize fndP m b n = res at *
  generalize usedB b m = used at *
  generalize lonR used b = lon at *
  clear hm hb hn hn1 hz
  cases hr : runR used 0 b n with
  | some i =>
    rw [hr] at HRN
    have HE := Lib.hid (HE1.out i hr)
    simp only [runI, runB, Option.isSome] at HRN
    clear HE1 HE2 HLN hr
    unfold cells3 at HX0 HB0
    unfold crv at *
    go_enter Tryz.func132, Tryz.ntmps132
    obtain ⟨x0, x1, x2⟩ := HX0.out.row
    go_wp2_with (first
      | (go_at_call 32; refine (HNF.out _).mono ?_; rintro e w1 ⟨rfl, b1⟩
         have HB1 := Lib.hid (HB0.out.trans (b1.mono HB0.out.size))
         obtain ⟨y0, y1, y2⟩ := (HX0.out.below b1 HX0.out.lt).row
         clear x0 x1 x2 b1)
      | (go_at_call 146; refine (HRN.out _).mono ?_; rintro e w2 ⟨rfl, b2⟩))
    go_ret2
    rw [HE.out]
    exact ⟨by show Ending.returned (.tuple #[.int .i64 (i : Int), .int .i64 n]) = .returned (.tuple #[.int .i64 (i : Int), .int .i64 ((n.toNat : Nat) : Int)]); rw [HN1.out], Lg.Below.drews HB1.out b2⟩
  | none =>
    rw [hr] at HRN
    have HE := Lib.hid (HE2.out hr)
    simp only [runI, runB, Option.isSome] at HRN
    clear HE1 HE2 hr
    unfold cells3 at HX0 HB0
    unfold crv at *
    go_enter Tryz.func132, Tryz.ntmps132
    obtain ⟨x0, x1, x2⟩ := HX0.out.row
    go_wp2_with (first
      | (go_at_call 32; refine (HNF.out _).mono ?_; rintro e w1 ⟨rfl, b1⟩
         have HB1 := Lib.hid (HB0.out.trans (b1.mono HB0.out.size))
         obtain ⟨y0, y1, y2⟩ := (HX0.out.below b1 HX0.out.lt).row
         clear x0 x1 x2 b1)
      | (go_at_call 146; refine (HRN.out _).mono ?_; rintro e w2 ⟨rfl, n2, rfl⟩)
      | (go_at_call 147; refine (HLN.out _).mono ?_; rintro e w3 ⟨rfl, n3, rfl⟩))
    go_ret2
    rw [HE.out]
    exact ⟨rfl, Lg.Below.drews HB1.out ⟨_, rfl⟩⟩

/-! ### load -/
/-- the marks, as a deal reads them. -/
def mkB (V : List ByteArray) : ByteArray := V.getD 42 ⟨#[]⟩
theorem mk_size {w : World} {B d q p pd pm k c : Nat} {D V : List ByteArray} {v : Value} (h : DV w B d q p pd pm k c D V v) : (mkB V).size = 128 := h.whole.get (k := 42) (by rw [h.len]; have := h.least; omega)
def ldB (V : List ByteArray) : ByteArray := if okCr V = true then mkB V else ⟨#[]⟩
theorem load_dv (B d q p pd pm k c : Nat) (D V : List ByteArray) (v : Value) (w : World) (h : DV w B d q p pd pm k c D V v) :
    Calls Tryz.prog 30 #[.pointer (some ⟨d, 0, none⟩)] w fun e w' => e = .returned (.tuple #[crv (crF V) (crB V) (crC V), .string (ldB V), .int .i64 (crE V)]) ∧ Below w.heap.size w w' := by
  have HCR := Lib.hid (fun W (hW : Below w.heap.size w W) => crown_dv B d q p pd pm k c D V v W (h.below hW))
  have HRD := Lib.hid (fun W (hW : Below w.heap.size w W) => read_dv B d q p pd pm k c D V v 42 W (h.below hW))
  have e42 : hasB V.length 42 = true := hasB_t.2 (by rw [h.len]; have := h.least; omega)
  have e1 : rdB V 42 = mkB V := by unfold rdB; rw [if_pos e42]; rfl
  have e2 : rdE V 42 = 0 := by unfold rdE; rw [if_pos e42]
  rw [e1, e2] at HRD
  unfold RetCr at HCR
  unfold ldB
  have HZ : Hid (okCr V = false → crF V = 0 ∧ crB V = 0 ∧ crC V = 0 ∧ crE V = 15) := fun e => by unfold crF crB crC crE; rw [e]; exact ⟨rfl, rfl, rfl, rfl⟩
  have HY : Hid (okCr V = true → crE V = 0) := fun e => by unfold crE; rw [e]; rfl
  clear h e1 e2 e42
  have HN := Lib.hid (KBox.new3)
  have HNB : Hid (∀ (W : World) (o : Obj), Below W.heap.size W (W.alloc o)) := fun W o => (Below.refl _ _).alloc (Nat.le_refl _) _
  have HX0 : Hid (KBox (w.alloc (.cells #[.int .i64 0, .int .i64 0, .int .i64 0] 62)) w.heap.size 0 0 0) := KBox.new3 _ _ _ _
  have HB0 : Hid (Below w.heap.size w (w.alloc (.cells #[.int .i64 0, .int .i64 0, .int .i64 0] 62))) := (Below.refl _ _).alloc (Nat.le_refl _) _
  cases ho : okCr V with
  | false =>
    obtain ⟨z1, z2, z3, z4⟩ := HZ.out ho
    rw [z1, z2, z3, z4] at HCR ⊢
    rw [if_neg (by decide)]
    clear ho HZ HY z1 z2 z3 z4 HRD
    unfold crv at *
    go_enter Tryz.func30, Tryz.ntmps30
    go_wp2_with (go_at_call 35; refine (HCR.out _ HB0.out).mono ?_; rintro e w1 ⟨rfl, b1⟩
                 have HB1 := Lib.hid ((HB0.out.trans (b1.mono HB0.out.size)).alloc (Nat.le_trans HB0.out.size b1.size) (.cells #[.int .i64 0, .int .i64 0, .int .i64 0] 62))
                 have HX1 := Lib.hid ((HX0.out.below b1 HX0.out.lt).below (HNB.out w1 (.cells #[.int .i64 0, .int .i64 0, .int .i64 0] 62)) (Nat.lt_of_lt_of_le HX0.out.lt b1.size))
                 obtain ⟨r0, r1, r2⟩ := HX1.out.row
                 have zr := HX1.out.fz
                 clear b1 HX0 HB0)
    generalize w1.alloc (.cells #[.int .i64 0, .int .i64 0, .int .i64 0] 62) = w2 at *
    clear r0 r1 r2 zr
    have HX9 : Hid (KBox (put3 w2 w.heap.size 0 0 0) w.heap.size 0 0 0) := put3_box HX1.out
    have HB9 : Hid (Below w.heap.size w (put3 w2 w.heap.size 0 0 0)) := put3_below HB1.out (Nat.le_refl _)
    unfold put3 at HX9 HB9
    generalize World.setCell _ ⟨w.heap.size, 2, none⟩ _ = w9 at *
    obtain ⟨r0, r1, r2⟩ := HX9.out.row
    refine bodyPost_ret (v := .tuple #[crv 0 0 0, .string ⟨#[]⟩, .int .i64 15]) (by simp [results, go_sem, r0, r1, r2, crv]) rfl ?_
    exact ⟨rfl, HB9.out⟩
  | true =>
    have HE := Lib.hid (HY.out ho)
    rw [HE.out] at HCR ⊢
    rw [if_pos rfl]
    generalize crF V = f at *
    generalize crB V = b at *
    generalize crC V = u at *
    generalize mkB V = m at *
    clear ho HZ HY
    unfold crv at *
    go_enter Tryz.func30, Tryz.ntmps30
    go_wp2_with (first
      | (go_at_call 35; refine (HCR.out _ HB0.out).mono ?_; rintro e w1 ⟨rfl, b1⟩
         have HB1 := Lib.hid ((HB0.out.trans (b1.mono HB0.out.size)).alloc (Nat.le_trans HB0.out.size b1.size) (.cells #[.int .i64 f, .int .i64 b, .int .i64 u] 62))
         have HX1 := Lib.hid ((HX0.out.below b1 HX0.out.lt).below (HNB.out w1 (.cells #[.int .i64 f, .int .i64 b, .int .i64 u] 62)) (Nat.lt_of_lt_of_le HX0.out.lt b1.size))
         have HG1 := Lib.hid (HN.out w1 f b u)
         clear b1 HX0 HB0)
      | (go_at_call 62; refine (HRD.out _ HB1.out).mono ?_; rintro e w3 ⟨rfl, b3⟩
         have HB3 := Lib.hid (HB1.out.trans (b3.mono HB1.out.size))
         have HX3 := Lib.hid (HX1.out.below b3 HX1.out.lt)
         have HG3 := Lib.hid (HG1.out.below b3 HG1.out.lt)
         clear b3 HX1 HB1 HG1
         obtain ⟨r0, r1, r2⟩ := HX3.out.row
         obtain ⟨y0, y1, y2⟩ := HG3.out.row
         have zr := HX3.out.fz))
    clear r0 r1 r2 zr y0 y1 y2
    have HX9 : Hid (KBox (put3 w3 w.heap.size f b u) w.heap.size f b u) := put3_box HX3.out
    have HB9 : Hid (Below w.heap.size w (put3 w3 w.heap.size f b u)) := put3_below HB3.out (Nat.le_refl _)
    unfold put3 at HX9 HB9
    generalize World.setCell _ ⟨w.heap.size, 2, none⟩ _ = w9 at *
    obtain ⟨r0, r1, r2⟩ := HX9.out.row
    refine bodyPost_ret (v := .tuple #[crv f b u, .string m, .int .i64 0]) (by simp [results, go_sem, r0, r1, r2, crv]) rfl ?_
    exact ⟨rfl, HB9.out⟩
end Go.Proofs.YtgdlfiejjnjcpaaGreat.Dl
