/-
  WALK: cardOf returns the card whose numbers a text of 32 bytes has, format One and no format. Condition: the text has 32 bytes.
-/
import Derived.Test.YtmimfnbcffcdfaaCWrite
import Derived.Test.YtmimfnbcffcdfaaCDec
import Derived.BigRegion
namespace Go.Proofs.Ytmimfnbcffcdfaa
open Go.RowKit

/-- an answer that is a card. -/
def Fresh (N : Nat) (A : Option Addr) : Prop := ∀ b o, A = some ⟨b, o, none⟩ → N ≤ b
theorem Fresh.none (N : Nat) : Fresh N none := fun _ _ h => by cases h
theorem own_fresh {w : World} {base N n c sz : Nat} {e : TypeId} {A : Option Addr} {xs : List Value} (h : w.ownsRow base e sz (.slice A n c) n xs) (hN : N ≤ base) : Fresh N A := by
  intro b o hA
  subst hA
  rcases h.2 with ⟨h1, _⟩ | ⟨g, cap, cur, h1, h2, _⟩
  · injection h1 with h1; cases h1
  · injection h1 with h1; injection h1 with h1; injection h1 with h1; omega
/-- The value v reads as the card c, whose lists lie in blocks from number N on. -/
def CdNew (w : World) (N : Nat) (v : Value) (c : Cd) : Prop :=
  ∃ A n k A' n' k', Fresh N A ∧ Fresh N A' ∧ v = cdv c A n k A' n' k' ∧ IntsAt w w.heap.size A n c.ps ∧ SpsAt w w.heap.size A' n' c.rs ∧ n ≤ 9223372036854775807 ∧ n' ≤ 9223372036854775807 ∧ c.fit
theorem CdNew.at_ {w : World} {N : Nat} {v : Value} {c : Cd} (h : CdNew w N v c) : CdAt w w.heap.size v c := by
  obtain ⟨A, n, k, A', n', k', _, _, h⟩ := h
  exact ⟨A, n, k, A', n', k', h⟩
theorem cdn_zero (w : World) (N : Nat) : CdNew w N (cdv zeroC none 0 0 none 0 0) zeroC :=
  ⟨none, 0, 0, none, 0, 0, Fresh.none _, Fresh.none _, rfl, ⟨rfl, by simp [zeroC], fun k hk => absurd hk (by omega)⟩, ⟨rfl, by simp [zeroC], fun k hk => absurd hk (by omega)⟩, by omega, by omega, by simp [Cd.fit, zeroC, Fit]⟩
def RetCd (w : World) (c : Cd) (e : Ending) (w' : World) : Prop := ∃ v, e = .returned v ∧ CdNew w' w.heap.size v c ∧ Below w.heap.size w w'
theorem row_set {w : World} {g j : Nat} {cs cs' : Array Value} {t : TypeId} {v : Value} (h : w.heap[g]? = some (.cells cs t (0, 0))) (e : cs.setIfInBounds j v = cs') : (w.setCell ⟨g, j, none⟩ v).heap[g]? = some (.cells cs' t (0, 0)) := by
  rw [setCell_eq_setRow w g j cs t (0, 0) v h, e]
  exact setRow_heap w g cs cs' t (0, 0) h
theorem own_set {w : World} {base n sz : Nat} {e : TypeId} {v : Value} {xs : List Value} (h : w.ownsRow base e sz v n xs) (q j : Nat) (u : Value) (hq : q < base) : (w.setCell ⟨q, j, none⟩ u).ownsRow base e sz v n xs := by
  rcases h.2 with ⟨rfl, h0⟩ | ⟨g, cap, cur, rfl, h1, h2, h3⟩
  · exact ⟨h.1, Or.inl ⟨rfl, h0⟩⟩
  · refine ⟨h.1, Or.inr ⟨g, cap, cur, rfl, h1, ?_, h3⟩⟩
    rw [← h2]
    show (w.heap.modify q _)[g]? = _
    rw [Array.getElem?_modify, if_neg (by omega)]
theorem cd_fit (bs : List Int) (hb : ∀ i, 0 ≤ bs.getD i 0 ∧ bs.getD i 0 ≤ 255) (a n : Nat) (hn : n ≤ 4) : Fit (decF bs a n) := by
  have h1 := decF_bd bs hb n a
  have h2 := pow_le4 n hn
  unfold Fit; omega

set_option maxHeartbeats 2000000 in
theorem card1_any (s : ByteArray) (w : World) (hs : s.size = 32) (h1 : decF (bytesOf s) 0 1 = 1) : Calls Try.prog 33 #[.string s] w (RetCd w (cardD (bytesOf s))) := by
  have hlen : (bytesOf s).length = 32 := by rw [bytesOf_len, hs]
  have HRD := Lib.hid (readR1 hlen)
  have hpos : 0 < s.size := by omega
  have HC : Hid (cardD (bytesOf s) = ⟨1, decF (bytesOf s) 1 1, decF (bytesOf s) 2 2, decF (bytesOf s) 4 4, [decF (bytesOf s) 8 2, decF (bytesOf s) 10 2, decF (bytesOf s) 12 2, decF (bytesOf s) 14 2], decF (bytesOf s) 16 2, decF (bytesOf s) 18 2, [], 0⟩) := by
    show _ = _; unfold cardD; rw [if_pos h1]
  have hx : ((s[0].toNat : Nat) : Int) = 1 := (dec0 s hpos).symm.trans h1
  have HF : Hid (∀ a n, n ≤ 4 → Fit (decF (bytesOf s) a n)) := fun a n hn => cd_fit _ (bytesOf_bd s) a n hn
  have HRA := Lib.hid (fun (A : Option Addr) (n c B : Nat) (v : World) (hr : IntsAt v B A n (widthsC 1)) (hB : B ≤ v.heap.size) (hn : n ≤ 20000000000000) => read_any A n c B (widthsC 1) s v hr hB hn (by omega))
  rw [HRD.out] at HRA
  have HX := Lib.hid hx
  clear hlen hs h1 HRD hx
  generalize bytesOf s = bs at *
  have HWID : Hid (∀ v : World, Calls Try.prog 23 #[.int .i64 1] v fun e w' => RetI v (widthsC 1) e w') := fun v => widths_any 1 v
  go_enter Try.func33, Try.ntmps33
  go_wp2_with fail
  rw [HX.out, show wrap64 1 = 1 by decide +kernel]
  refine (HWID.out _).mono ?_
  rintro e w1 ⟨A1, c1, rfl, i1, b1⟩
  have HR0 : Hid (CdRow w1 w.heap.size zeroC none 0 0 none 0 0) := (CdRow.new w zeroC none 0 0 none 0 0).below b1 (by simp)
  have HB1 : Hid (Below w.heap.size w w1) := ((Below.refl _ _).alloc (Nat.le_refl _) _).trans (b1.mono (by simp))
  have I1 := Lib.hid i1
  clear b1 i1
  go_wp2_with fail
  refine (HRA.out _ _ _ _ _ I1.out (Nat.le_refl _) (by decide)).mono ?_
  rintro e w2 ⟨A2, n2, c2, rfl, hc2, i2, b2⟩
  have hn2 : 10 = n2 := i2.len
  subst hn2
  obtain ⟨b, o, rfl, hbw, -⟩ := i2.at_ (k := 0) (by omega)
  have HCELL : Hid (∀ k, k < 10 → w2.cell? ⟨b, o + k, none⟩ = some (.int .i64 ((fields1 bs).getD k 0))) := fun k hk => by
    obtain ⟨b', o', e, _, h⟩ := i2.at_ hk
    cases e; exact h
  have HR2 := Lib.hid (HR0.out.below b2 HR0.out.lt)
  have HB2 := Lib.hid (HB1.out.trans (b2.mono HB1.out.size))
  have hg2 := HR2.out.lt
  have hw2 := HB2.out.size
  have hcne : ¬ (c2 = 4) := by omega
  clear b2 i2 HR0 HB1 I1 HRA HWID
  have k1 : w2.cell? ⟨b, o + 1, none⟩ = some (.int .i64 (decF bs 1 1)) := HCELL.out 1 (by omega)
  have k2 : w2.cell? ⟨b, o + 2, none⟩ = some (.int .i64 (decF bs 2 2)) := HCELL.out 2 (by omega)
  have k3 : w2.cell? ⟨b, o + 3, none⟩ = some (.int .i64 (decF bs 4 4)) := HCELL.out 3 (by omega)
  go_wp2
  go_region
  have HG3 : Hid (CdRow (w2.alloc (.cells #[.int .i64 1, .int .i64 (decF bs 1 1), .int .i64 (decF bs 2 2), .int .i64 (decF bs 4 4), .slice none 0 0, .int .i64 0, .int .i64 0, .slice none 0 0, .int .i64 0] 25)).drew w2.heap.size ⟨1, decF bs 1 1, decF bs 2 2, decF bs 4 4, [], 0, 0, [], 0⟩ none 0 0 none 0 0) := CdRow.dr (CdRow.new w2 ⟨1, decF bs 1 1, decF bs 2 2, decF bs 4 4, [], 0, 0, [], 0⟩ none 0 0 none 0 0)
  have b3 : Below w2.heap.size w2 (w2.alloc (.cells #[.int .i64 1, .int .i64 (decF bs 1 1), .int .i64 (decF bs 2 2), .int .i64 (decF bs 4 4), .slice none 0 0, .int .i64 0, .int .i64 0, .slice none 0 0, .int .i64 0] 25)).drew := Below.dr ((Below.refl _ _).alloc (Nat.le_refl _) _)
  have HR3 := Lib.hid (HR2.out.below b3 hg2)
  have HB3 := Lib.hid (HB2.out.trans (b3.mono hw2))
  have HK : Hid (∀ k, k < 10 → (w2.alloc (.cells #[.int .i64 1, .int .i64 (decF bs 1 1), .int .i64 (decF bs 2 2), .int .i64 (decF bs 4 4), .slice none 0 0, .int .i64 0, .int .i64 0, .slice none 0 0, .int .i64 0] 25)).drew.cell? ⟨b, o + k, none⟩ = some (.int .i64 ((fields1 bs).getD k 0))) := fun k hk => (b3.cell (p := ⟨b, o + k, none⟩) hbw).trans (HCELL.out k hk)
  have hz3 : (w2.alloc (.cells #[.int .i64 1, .int .i64 (decF bs 1 1), .int .i64 (decF bs 2 2), .int .i64 (decF bs 4 4), .slice none 0 0, .int .i64 0, .int .i64 0, .slice none 0 0, .int .i64 0] 25)).drew.heap.size = w2.heap.size + 1 := by show (w2.heap.push _).size = _; simp
  have HZ3 := Lib.hid hz3
  clear hz3 b3 k1 k2 k3 HCELL HR2 HB2
  generalize (w2.alloc (.cells #[.int .i64 1, .int .i64 (decF bs 1 1), .int .i64 (decF bs 2 2), .int .i64 (decF bs 4 4), .slice none 0 0, .int .i64 0, .int .i64 0, .slice none 0 0, .int .i64 0] 25)).drew = w3 at *
  generalize w2.heap.size = g at *
  have HI3 : Hid (IntsAt w3 w3.heap.size (some ⟨b, o + 4, none⟩) 4 [decF bs 8 2, decF bs 10 2, decF bs 12 2, decF bs 14 2]) := by
    refine ⟨rfl, fun z hz => ?_, fun k hk => ⟨b, o + 4, rfl, by rw [HZ3.out]; omega, ?_⟩⟩
    · simp only [List.mem_cons, List.mem_nil_iff, or_false] at hz
      rcases hz with rfl | rfl | rfl | rfl <;> exact HF.out _ _ (by omega)
    · have h := HK.out (4 + k) (by omega)
      rw [← Nat.add_assoc] at h
      rw [h]
      have : k = 0 ∨ k = 1 ∨ k = 2 ∨ k = 3 := by omega
      rcases this with rfl | rfl | rfl | rfl <;> rfl
  have HCL := Lib.hid (cloneI_any b (o + 4) 4 (c2 - 4) w3.heap.size [decF bs 8 2, decF bs 10 2, decF bs 12 2, decF bs 14 2] w3 HI3.out (Nat.le_refl _) (by omega))
  go_wp2_with fail
  refine HCL.out.mono ?_
  intro e w4 hr
  obtain ⟨v4, rfl, o4, b4⟩ := hr
  obtain ⟨A4, c4, rfl, -⟩ := own_slice o4
  have HO4 : Hid (w4.ownsRow (g + 1) 3 1 (.slice A4 4 c4) 4 (ints [decF bs 8 2, decF bs 10 2, decF bs 12 2, decF bs 14 2])) := by
    show World.ownsRow _ _ _ _ _ _ _
    rw [← HZ3.out]; exact o4
  have HFI := Lib.hid HI3.out.2.1
  have hb3 : b < w3.heap.size := by rw [HZ3.out]; omega
  have HG4 := Lib.hid (HG3.out.below b4 HG3.out.lt)
  have HR4 := Lib.hid (HR3.out.below b4 HR3.out.lt)
  have HB4 := Lib.hid (HB3.out.trans (b4.mono HB3.out.size))
  have k8 : w4.cell? ⟨b, o + 8, none⟩ = some (.int .i64 (decF bs 16 2)) := (b4.cell (p := ⟨b, o + 8, none⟩) hb3).trans (HK.out 8 (by omega))
  have k9 : w4.cell? ⟨b, o + 9, none⟩ = some (.int .i64 (decF bs 18 2)) := (b4.cell (p := ⟨b, o + 9, none⟩) hb3).trans (HK.out 9 (by omega))
  have hg4 := HG4.out.lt
  have hb4' : b < w4.heap.size := Nat.lt_of_lt_of_le hb3 b4.size
  clear b4 o4 HG3 HR3 HB3 HK HI3 HCL
  obtain ⟨e0, e1, e2, e3, e4, e5, e6, e7, e8⟩ := HG4.out.cells
  have z0 := HG4.out.fz
  go_upto_region 9 with fail
  have HG5 : Hid (CdRow (w4.setCell ⟨g, 4, none⟩ (.slice A4 4 c4)) g ⟨1, decF bs 1 1, decF bs 2 2, decF bs 4 4, [decF bs 8 2, decF bs 10 2, decF bs 12 2, decF bs 14 2], 0, 0, [], 0⟩ A4 4 c4 none 0 0) := row_set HG4.out rfl
  have hb5 : Below g w4 (w4.setCell ⟨g, 4, none⟩ (.slice A4 4 c4)) := (Below.refl g w4).setCell (p := ⟨g, 4, none⟩) (Nat.le_refl g) _
  have k8' : (w4.setCell ⟨g, 4, none⟩ (.slice A4 4 c4)).cell? ⟨b, o + 8, none⟩ = some (.int .i64 (decF bs 16 2)) := (hb5.cell (p := ⟨b, o + 8, none⟩) hbw).trans k8
  have k9' : (w4.setCell ⟨g, 4, none⟩ (.slice A4 4 c4)).cell? ⟨b, o + 9, none⟩ = some (.int .i64 (decF bs 18 2)) := (hb5.cell (p := ⟨b, o + 9, none⟩) hbw).trans k9
  have HR5 := Lib.hid (HR4.out.below hb5 hg2)
  have HO5 := Lib.hid (own_set HO4.out g 4 (.slice A4 4 c4) (by omega))
  have HB5 : Hid (Below w.heap.size w (w4.setCell ⟨g, 4, none⟩ (.slice A4 4 c4))) := HB4.out.setCell (Nat.le_of_lt hg2) _
  clear e0 e1 e2 e3 e4 e5 e6 e7 e8 z0 hb5 k8 k9
  generalize w4.setCell ⟨g, 4, none⟩ (.slice A4 4 c4) = w5 at *
  obtain ⟨e0, e1, e2, e3, e4, e5, e6, e7, e8⟩ := HG5.out.cells
  have z0 := HG5.out.fz
  go_region
  go_upto_region 10 with fail
  have HG6 : Hid (CdRow ((w5.setCell ⟨g, 5, none⟩ (.int .i64 (decF bs 16 2))).setCell ⟨g, 6, none⟩ (.int .i64 (decF bs 18 2))).drew g ⟨1, decF bs 1 1, decF bs 2 2, decF bs 4 4, [decF bs 8 2, decF bs 10 2, decF bs 12 2, decF bs 14 2], decF bs 16 2, decF bs 18 2, [], 0⟩ A4 4 c4 none 0 0) := CdRow.dr (row_set (row_set HG5.out rfl) rfl)
  have hb6 : Below g w5 ((w5.setCell ⟨g, 5, none⟩ (.int .i64 (decF bs 16 2))).setCell ⟨g, 6, none⟩ (.int .i64 (decF bs 18 2))).drew := Below.dr ((((Below.refl g w5).setCell (p := ⟨g, 5, none⟩) (Nat.le_refl g) _)).setCell (p := ⟨g, 6, none⟩) (Nat.le_refl g) _)
  have HR6 := Lib.hid (HR5.out.below hb6 hg2)
  have HO6 : Hid (((w5.setCell ⟨g, 5, none⟩ (.int .i64 (decF bs 16 2))).setCell ⟨g, 6, none⟩ (.int .i64 (decF bs 18 2))).drew.ownsRow (g + 1) 3 1 (.slice A4 4 c4) 4 (ints [decF bs 8 2, decF bs 10 2, decF bs 12 2, decF bs 14 2])) := own_set (own_set HO5.out g 5 _ (by omega)) g 6 _ (by omega)
  have HB6 : Hid (Below w.heap.size w ((w5.setCell ⟨g, 5, none⟩ (.int .i64 (decF bs 16 2))).setCell ⟨g, 6, none⟩ (.int .i64 (decF bs 18 2))).drew) := Below.dr ((HB5.out.setCell (Nat.le_of_lt hg2) _).setCell (Nat.le_of_lt hg2) _)
  clear e0 e1 e2 e3 e4 e5 e6 e7 e8 z0 hb6 k8' k9'
  generalize ((w5.setCell ⟨g, 5, none⟩ (.int .i64 (decF bs 16 2))).setCell ⟨g, 6, none⟩ (.int .i64 (decF bs 18 2))).drew = w6 at *
  obtain ⟨e0, e1, e2, e3, e4, e5, e6, e7, e8⟩ := HG6.out.cells
  obtain ⟨r0, r1, r2, r3, r4, r5, r6, r7, r8⟩ := HR6.out.cells
  have zr := HR6.out.fz
  go_wp2
  have HR7 : Hid (CdRow (((((((((w6.setCell ⟨w.heap.size, 0, none⟩ (.int .i64 1)).setCell ⟨w.heap.size, 1, none⟩ (.int .i64 (decF bs 1 1))).setCell ⟨w.heap.size, 2, none⟩ (.int .i64 (decF bs 2 2))).setCell ⟨w.heap.size, 3, none⟩ (.int .i64 (decF bs 4 4))).setCell ⟨w.heap.size, 4, none⟩ (.slice A4 4 c4)).setCell ⟨w.heap.size, 5, none⟩ (.int .i64 (decF bs 16 2))).setCell ⟨w.heap.size, 6, none⟩ (.int .i64 (decF bs 18 2))).setCell ⟨w.heap.size, 7, none⟩ (.slice none 0 0)).setCell ⟨w.heap.size, 8, none⟩ (.int .i64 0)) w.heap.size ⟨1, decF bs 1 1, decF bs 2 2, decF bs 4 4, [decF bs 8 2, decF bs 10 2, decF bs 12 2, decF bs 14 2], decF bs 16 2, decF bs 18 2, [], 0⟩ A4 4 c4 none 0 0) := (row_set (row_set (row_set (row_set (row_set (row_set (row_set (row_set (row_set HR6.out rfl) rfl) rfl) rfl) rfl) rfl) rfl) rfl) rfl)
  have HO7 : Hid ((((((((((w6.setCell ⟨w.heap.size, 0, none⟩ (.int .i64 1)).setCell ⟨w.heap.size, 1, none⟩ (.int .i64 (decF bs 1 1))).setCell ⟨w.heap.size, 2, none⟩ (.int .i64 (decF bs 2 2))).setCell ⟨w.heap.size, 3, none⟩ (.int .i64 (decF bs 4 4))).setCell ⟨w.heap.size, 4, none⟩ (.slice A4 4 c4)).setCell ⟨w.heap.size, 5, none⟩ (.int .i64 (decF bs 16 2))).setCell ⟨w.heap.size, 6, none⟩ (.int .i64 (decF bs 18 2))).setCell ⟨w.heap.size, 7, none⟩ (.slice none 0 0)).setCell ⟨w.heap.size, 8, none⟩ (.int .i64 0)).ownsRow (g + 1) 3 1 (.slice A4 4 c4) 4 (ints [decF bs 8 2, decF bs 10 2, decF bs 12 2, decF bs 14 2])) := (own_set (own_set (own_set (own_set (own_set (own_set (own_set (own_set (own_set HO6.out w.heap.size 0 _ (by omega)) w.heap.size 1 _ (by omega)) w.heap.size 2 _ (by omega)) w.heap.size 3 _ (by omega)) w.heap.size 4 _ (by omega)) w.heap.size 5 _ (by omega)) w.heap.size 6 _ (by omega)) w.heap.size 7 _ (by omega)) w.heap.size 8 _ (by omega))
  have HB7 : Hid (Below w.heap.size w (((((((((w6.setCell ⟨w.heap.size, 0, none⟩ (.int .i64 1)).setCell ⟨w.heap.size, 1, none⟩ (.int .i64 (decF bs 1 1))).setCell ⟨w.heap.size, 2, none⟩ (.int .i64 (decF bs 2 2))).setCell ⟨w.heap.size, 3, none⟩ (.int .i64 (decF bs 4 4))).setCell ⟨w.heap.size, 4, none⟩ (.slice A4 4 c4)).setCell ⟨w.heap.size, 5, none⟩ (.int .i64 (decF bs 16 2))).setCell ⟨w.heap.size, 6, none⟩ (.int .i64 (decF bs 18 2))).setCell ⟨w.heap.size, 7, none⟩ (.slice none 0 0)).setCell ⟨w.heap.size, 8, none⟩ (.int .i64 0))) := (((((((((HB6.out.setCell (p := ⟨w.heap.size, 0, none⟩) (Nat.le_refl w.heap.size) _).setCell (p := ⟨w.heap.size, 1, none⟩) (Nat.le_refl w.heap.size) _).setCell (p := ⟨w.heap.size, 2, none⟩) (Nat.le_refl w.heap.size) _).setCell (p := ⟨w.heap.size, 3, none⟩) (Nat.le_refl w.heap.size) _).setCell (p := ⟨w.heap.size, 4, none⟩) (Nat.le_refl w.heap.size) _).setCell (p := ⟨w.heap.size, 5, none⟩) (Nat.le_refl w.heap.size) _).setCell (p := ⟨w.heap.size, 6, none⟩) (Nat.le_refl w.heap.size) _).setCell (p := ⟨w.heap.size, 7, none⟩) (Nat.le_refl w.heap.size) _).setCell (p := ⟨w.heap.size, 8, none⟩) (Nat.le_refl w.heap.size) _)
  clear e0 e1 e2 e3 e4 e5 e6 e7 e8 r0 r1 r2 r3 r4 r5 r6 r7 r8 zr
  generalize (((((((((w6.setCell ⟨w.heap.size, 0, none⟩ (.int .i64 1)).setCell ⟨w.heap.size, 1, none⟩ (.int .i64 (decF bs 1 1))).setCell ⟨w.heap.size, 2, none⟩ (.int .i64 (decF bs 2 2))).setCell ⟨w.heap.size, 3, none⟩ (.int .i64 (decF bs 4 4))).setCell ⟨w.heap.size, 4, none⟩ (.slice A4 4 c4)).setCell ⟨w.heap.size, 5, none⟩ (.int .i64 (decF bs 16 2))).setCell ⟨w.heap.size, 6, none⟩ (.int .i64 (decF bs 18 2))).setCell ⟨w.heap.size, 7, none⟩ (.slice none 0 0)).setCell ⟨w.heap.size, 8, none⟩ (.int .i64 0)) = w7 at *
  obtain ⟨r0, r1, r2, r3, r4, r5, r6, r7, r8⟩ := HR7.out.cells
  refine bodyPost_ret (v := cdv ⟨1, decF bs 1 1, decF bs 2 2, decF bs 4 4, [decF bs 8 2, decF bs 10 2, decF bs 12 2, decF bs 14 2], decF bs 16 2, decF bs 18 2, [], 0⟩ A4 4 c4 none 0 0) (by simp [results, Try.results33, go_sem, r0, r1, r2, r3, r4, r5, r6, r7, r8]) rfl ?_
  rw [HC.out]
  exact ⟨_, rfl, ⟨A4, 4, c4, none, 0, 0, own_fresh HO7.out (by omega), Fresh.none _, rfl, IntsAt.of_own HO7.out rfl HFI.out, ⟨rfl, by simp, fun k hk => absurd hk (by omega)⟩, by omega, by omega, (by show Fit 1; decide), HF.out _ _ (by omega), HF.out _ _ (by omega), HF.out _ _ (by omega), HF.out _ _ (by omega), HF.out _ _ (by omega), (by show Fit 0; decide)⟩, HB7.out⟩
end Go.Proofs.Ytmimfnbcffcdfaa
