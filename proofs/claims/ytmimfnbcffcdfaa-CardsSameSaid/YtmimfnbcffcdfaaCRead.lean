/-
  WALK: Read returns the card whose bytes a text is, or that it is none's. Condition: fewer than 2^49 bytes.
-/
import Derived.Test.YtmimfnbcffcdfaaCCard2
namespace Go.Proofs.Ytmimfnbcffcdfaa
open Go.RowKit

set_option maxHeartbeats 2000000 in
theorem card0_any (s : ByteArray) (w : World) (hs : s.size = 32) (h1 : decF (bytesOf s) 0 1 ≠ 1) (h2 : decF (bytesOf s) 0 1 ≠ 2) : Calls Try.prog 33 #[.string s] w (RetCd w (cardD (bytesOf s))) := by
  have hlen : (bytesOf s).length = 32 := by rw [bytesOf_len, hs]
  have hpos : 0 < s.size := by omega
  have HC : Hid (cardD (bytesOf s) = zeroC) := by
    show _ = _; unfold cardD; rw [if_neg h1, if_neg h2]
  have hx := dec0 s hpos
  have HRD := Lib.hid (readR0 (bs := bytesOf s) h1 h2)
  have hwr : wrap64 ((s[0].toNat : Nat) : Int) = decF (bytesOf s) 0 1 := by
    rw [hx]
    have : s[0].toNat < 256 := s[0].toNat_lt
    unfold wrap64; omega
  have HX := Lib.hid hwr
  generalize decF (bytesOf s) 0 1 = f at *
  have HRA := Lib.hid (fun (A : Option Addr) (n c B : Nat) (v : World) (hr : IntsAt v B A n (widthsC f)) (hB : B ≤ v.heap.size) (hn : n ≤ 20000000000000) => read_any A n c B (widthsC f) s v hr hB hn (by omega))
  rw [HRD.out] at HRA
  have HWL : Hid ((widthsC f).length ≤ 20000000000000) := by show _ ≤ _; rw [widthsC0 h1 h2]; simp
  clear hlen hs h1 h2 HRD hx hwr
  generalize bytesOf s = bs at *
  have HWID : Hid (∀ v : World, Calls Try.prog 23 #[.int .i64 f] v fun e w' => RetI v (widthsC f) e w') := fun v => widths_any f v
  go_enter Try.func33, Try.ntmps33
  go_wp2_with fail
  rw [HX.out]
  refine (HWID.out _).mono ?_
  rintro e w1 ⟨A1, c1, rfl, i1, b1⟩
  have HR0 : Hid (CdRow w1 w.heap.size zeroC none 0 0 none 0 0) := (CdRow.new w zeroC none 0 0 none 0 0).below b1 (by simp)
  have HB1 : Hid (Below w.heap.size w w1) := ((Below.refl _ _).alloc (Nat.le_refl _) _).trans (b1.mono (by simp))
  have I1 := Lib.hid i1
  clear b1 i1
  go_wp2_with fail
  refine (HRA.out _ _ _ _ _ I1.out (Nat.le_refl _) HWL.out).mono ?_
  rintro e w2 ⟨A2, n2, c2, rfl, hc2, i2, b2⟩
  have hn2 : 0 = n2 := i2.len
  subst hn2
  have HR2 := Lib.hid (HR0.out.below b2 HR0.out.lt)
  have HB2 := Lib.hid (HB1.out.trans (b2.mono HB1.out.size))
  clear b2 i2 HR0 HB1 I1 HRA HWID
  obtain ⟨r0, r1, r2, r3, r4, r5, r6, r7, r8⟩ := HR2.out.cells
  have zr := HR2.out.fz
  go_wp2
  clear r0 r1 r2 r3 r4 r5 r6 r7 r8 zr
  have HR8 : Hid (CdRow (put9 w2 w.heap.size zeroC none 0 0 none 0 0) w.heap.size zeroC none 0 0 none 0 0) := put9_row HR2.out
  have HB8 : Hid (Below w.heap.size w (put9 w2 w.heap.size zeroC none 0 0 none 0 0)) := put9_below HB2.out (Nat.le_refl _)
  unfold put9 zeroC at HR8 HB8
  simp only at HR8 HB8
  generalize World.setCell _ ⟨w.heap.size, 8, none⟩ _ = w8 at *
  obtain ⟨r0, r1, r2, r3, r4, r5, r6, r7, r8⟩ := HR8.out.cells
  refine bodyPost_ret (v := cdv zeroC none 0 0 none 0 0) (by simp [results, Try.results33, go_sem, r0, r1, r2, r3, r4, r5, r6, r7, r8, zeroC]) rfl ?_
  rw [HC.out]
  exact ⟨_, rfl, cdn_zero _ _, HB8.out⟩

theorem cardOf_any (s : ByteArray) (w : World) (hs : s.size = 32) : Calls Try.prog 33 #[.string s] w (RetCd w (cardD (bytesOf s))) := by
  by_cases h1 : decF (bytesOf s) 0 1 = 1
  · exact card1_any s w hs h1
  · by_cases h2 : decF (bytesOf s) 0 1 = 2
    · exact card2_any s w hs h2
    · exact card0_any s w hs h1 h2

/-- an answer that is a card and an error's number. -/
def RetCE (w : World) (c : Cd) (z : Int) (e : Ending) (w' : World) : Prop := ∃ v, e = .returned (.tuple #[v, .int .i64 z]) ∧ CdAt w' w'.heap.size v c ∧ Below w.heap.size w w'
theorem IntsAt.apart {w w' : World} {B n : Nat} {A : Option Addr} {l : List Int} {r : Nat} (h : IntsAt w B A n l) (hf : Fresh (r + 1) A) (hk : ∀ q, q ≠ r → w'.heap[q]? = w.heap[q]?) : IntsAt w' B A n l :=
  ⟨h.1, h.2.1, fun k hkn => by
    obtain ⟨b, o, e, hb, hc⟩ := h.2.2 k hkn
    have := hf b o e
    refine ⟨b, o, e, hb, ?_⟩
    rw [← hc]; unfold World.cell?; rw [hk b (by omega)]⟩
theorem SpsAt.apart {w w' : World} {B n : Nat} {A : Option Addr} {l : List Sp} {r : Nat} (h : SpsAt w B A n l) (hf : Fresh (r + 1) A) (hk : ∀ q, q ≠ r → w'.heap[q]? = w.heap[q]?) : SpsAt w' B A n l :=
  ⟨h.1, h.2.1, fun k hkn => by
    obtain ⟨b, o, e, hb, h1, h2, h3⟩ := h.2.2 k hkn
    have := hf b o e
    refine ⟨b, o, e, hb, ?_, ?_, ?_⟩
    · rw [← h1]; unfold World.cell?; rw [hk b (by omega)]
    · rw [← h2]; unfold World.cell?; rw [hk b (by omega)]
    · rw [← h3]; unfold World.cell?; rw [hk b (by omega)]⟩
/-- a card laid into block r, whose lists lie behind r. -/
theorem cd_put9 {w : World} {r : Nat} {c : Cd} {A : Option Addr} {n k : Nat} {A' : Option Addr} {n' k' B : Nat} (h : CdAt w B (cdv c A n k A' n' k') c) (hB : B ≤ w.heap.size) (h1 : Fresh (r + 1) A) (h2 : Fresh (r + 1) A') :
    CdAt (put9 w r c A n k A' n' k') (put9 w r c A n k A' n' k').heap.size (cdv c A n k A' n' k') c := by
  obtain ⟨Q, m, l, Q', m', l', e, i, s, bm, bm', f⟩ := h
  injection e with e
  have e := congrArg Array.toList e
  simp only [List.cons.injEq, Value.slice.injEq, and_true, true_and] at e
  obtain ⟨⟨rfl, rfl, rfl⟩, rfl, rfl, rfl⟩ := e
  rw [put9_size]
  exact ⟨A, n, k, A', n', k', rfl, (i.apart h1 fun q hq => put9_other hq).more hB, (s.apart h2 fun q hq => put9_other hq).more hB, bm, bm', f⟩
end Go.Proofs.Ytmimfnbcffcdfaa
