/-
  WALK: Read returns the card whose bytes a text is, or that it is none's. Condition: fewer than 2^49 bytes.
  WALK: Read returns the card whose bytes a text is, or that it is none's. No condition.
  WALK: the reference's Read returns the numbers of bytes, in a list of its own memory. Conditions: at most 17592186044416 widths, 1000000000000000 bytes.
  WALK: the reference's bytes are those of numbers of one width. Condition: at most 100000 numbers.
  MATHEMATICS: the numbers that the reference reads of a card's bytes. Condition: the text has 32 bytes.
  MATHEMATICS: a card's bytes are those of its numbers, part by part. Conditions: the card is valid.
  WALK: New returns a new file's card, or that it may not be. Condition: the numbers are of an int64.
-/
import Derived.Test.YtapjbffhihhnbaaGreatBI
import Derived.Test.YtapjbffhihhnbaaGreatBH
import Derived.Test.YtapjbffhihhnbaaGreatBC
namespace Go.Proofs.YtapjbffhihhnbaaGreat
open Go.RowKit

set_option maxRecDepth 100000 in
set_option maxHeartbeats 2000000 in
theorem card0_any (s : ByteArray) (w : World) (hs : s.size = 32) (h1 : decF (bytesOf s) 0 1 ≠ 1) (h2 : decF (bytesOf s) 0 1 ≠ 2) : Calls Tryz.prog 81 #[.string s] w (RetCd w (cardD (bytesOf s))) := by
  have hlen : (bytesOf s).length = 32 := by rw [bytesOf_len, hs]
  have hpos : 0 < s.size := by omega
  have HC : Hid (cardD (bytesOf s) = zeroC) := by
    show _ = _; unfold cardD; rw [if_neg h1, if_neg h2]
  have hx := dec0 s hpos
  have HRD := Lib.hid (readR0 (bs := bytesOf s) h1 h2)
  have hwr : wrap64 ((s[0].toNat : Nat) : Int) = decF (bytesOf s) 0 1 := by
    rw [hx]
    have : s[0].toNat < 256 := s[0].toNat_lt
    unfold wrap64; omega
  have HX := Lib.hid hwr
  generalize decF (bytesOf s) 0 1 = f at *
  have HRA := Lib.hid (fun (A : Option Addr) (n c B : Nat) (v : World) (hr : IntsAt v B A n (widthsC f)) (hB : B ≤ v.heap.size) (hn : n ≤ 20000000000000) => read_any A n c B (widthsC f) s v hr hB hn (by omega))
  rw [HRD.out] at HRA
  have HWL : Hid ((widthsC f).length ≤ 20000000000000) := by show _ ≤ _; rw [widthsC0 h1 h2]; simp
  clear hlen hs h1 h2 HRD hx hwr
  generalize bytesOf s = bs at *
  have HWID : Hid (∀ v : World, Calls Tryz.prog 84 #[.int .i64 f] v fun e w' => RetI v (widthsC f) e w') := fun v => widths_any f v
  go_enter Tryz.func81, Tryz.ntmps81
  go_wp2_with fail
  rw [HX.out]
  refine (HWID.out _).mono ?_
  rintro e w1 ⟨A1, c1, rfl, i1, b1⟩
  have HR0 : Hid (CdRow w1 w.heap.size zeroC none 0 0 none 0 0) := (CdRow.new w zeroC none 0 0 none 0 0).below b1 (by simp)
  have HB1 : Hid (Below w.heap.size w w1) := ((Below.refl _ _).alloc (Nat.le_refl _) _).trans (b1.mono (by simp))
  have I1 := Lib.hid i1
  clear b1 i1
  go_wp2_with fail
  refine (HRA.out _ _ _ _ _ I1.out (Nat.le_refl _) HWL.out).mono ?_
  rintro e w2 ⟨A2, n2, c2, rfl, hc2, i2, b2⟩
  have hn2 : 0 = n2 := i2.len
  subst hn2
  have HR2 := Lib.hid (HR0.out.below b2 HR0.out.lt)
  have HB2 := Lib.hid (HB1.out.trans (b2.mono HB1.out.size))
  clear b2 i2 HR0 HB1 I1 HRA HWID
  obtain ⟨r0, r1, r2, r3, r4, r5, r6, r7, r8⟩ := HR2.out.cells
  have zr := HR2.out.fz
  go_wp2
  clear r0 r1 r2 r3 r4 r5 r6 r7 r8 zr
  have HR8 : Hid (CdRow (put9 w2 w.heap.size zeroC none 0 0 none 0 0) w.heap.size zeroC none 0 0 none 0 0) := put9_row HR2.out
  have HB8 : Hid (Below w.heap.size w (put9 w2 w.heap.size zeroC none 0 0 none 0 0)) := put9_below HB2.out (Nat.le_refl _)
  unfold put9 zeroC at HR8 HB8
  simp only at HR8 HB8
  generalize World.setCell _ ⟨w.heap.size, 8, none⟩ _ = w8 at *
  obtain ⟨r0, r1, r2, r3, r4, r5, r6, r7, r8⟩ := HR8.out.cells
  refine bodyPost_ret (v := cdv zeroC none 0 0 none 0 0) (by simp [results, Tryz.results81, go_sem, r0, r1, r2, r3, r4, r5, r6, r7, r8, zeroC]) rfl ?_
  rw [HC.out]
  exact ⟨_, rfl, cdn_zero _ _, HB8.out⟩

set_option maxRecDepth 100000 in
theorem cardOf_any (s : ByteArray) (w : World) (hs : s.size = 32) : Calls Tryz.prog 81 #[.string s] w (RetCd w (cardD (bytesOf s))) := by
  by_cases h1 : decF (bytesOf s) 0 1 = 1
  · exact card1_any s w hs h1
  · by_cases h2 : decF (bytesOf s) 0 1 = 2
    · exact card2_any s w hs h2
    · exact card0_any s w hs h1 h2

/-- an answer that is a card and an error's number. -/
def RetCE (w : World) (c : Cd) (z : Int) (e : Ending) (w' : World) : Prop := ∃ v, e = .returned (.tuple #[v, .int .i64 z]) ∧ CdAt w' w'.heap.size v c ∧ Below w.heap.size w w'
set_option maxRecDepth 100000 in
theorem IntsAt.apart {w w' : World} {B n : Nat} {A : Option Addr} {l : List Int} {r : Nat} (h : IntsAt w B A n l) (hf : Fresh (r + 1) A) (hk : ∀ q, q ≠ r → w'.heap[q]? = w.heap[q]?) : IntsAt w' B A n l :=
  ⟨h.1, h.2.1, fun k hkn => by
    obtain ⟨b, o, e, hb, hc⟩ := h.2.2 k hkn
    have := hf b o e
    refine ⟨b, o, e, hb, ?_⟩
    rw [← hc]; unfold World.cell?; rw [hk b (by omega)]⟩
set_option maxRecDepth 100000 in
theorem SpsAt.apart {w w' : World} {B n : Nat} {A : Option Addr} {l : List Sp} {r : Nat} (h : SpsAt w B A n l) (hf : Fresh (r + 1) A) (hk : ∀ q, q ≠ r → w'.heap[q]? = w.heap[q]?) : SpsAt w' B A n l :=
  ⟨h.1, h.2.1, fun k hkn => by
    obtain ⟨b, o, e, hb, h1, h2, h3⟩ := h.2.2 k hkn
    have := hf b o e
    refine ⟨b, o, e, hb, ?_, ?_, ?_⟩
    · rw [← h1]; unfold World.cell?; rw [hk b (by omega)]
    · rw [← h2]; unfold World.cell?; rw [hk b (by omega)]
    · rw [← h3]; unfold World.cell?; rw [hk b (by omega)]⟩
set_option maxRecDepth 100000 in
/-- a card laid into block r, whose lists lie behind r. -/
theorem cd_put9 {w : World} {r : Nat} {c : Cd} {A : Option Addr} {n k : Nat} {A' : Option Addr} {n' k' B : Nat} (h : CdAt w B (cdv c A n k A' n' k') c) (hB : B ≤ w.heap.size) (h1 : Fresh (r + 1) A) (h2 : Fresh (r + 1) A') :
    CdAt (put9 w r c A n k A' n' k') (put9 w r c A n k A' n' k').heap.size (cdv c A n k A' n' k') c := by
  obtain ⟨Q, m, l, Q', m', l', e, i, s, bm, bm', f⟩ := h
  injection e with e
  have e := congrArg Array.toList e
  simp only [List.cons.injEq, Value.slice.injEq, and_true, true_and] at e
  obtain ⟨⟨rfl, rfl, rfl⟩, rfl, rfl, rfl⟩ := e
  rw [put9_size]
  exact ⟨A, n, k, A', n', k', rfl, (i.apart h1 fun q hq => put9_other hq).more hB, (s.apart h2 fun q hq => put9_other hq).more hB, bm, bm', f⟩

/-- an answer that is a card and an error's number, the card's lists of the call's own. -/
def RetCN (w : World) (c : Cd) (z : Int) (e : Ending) (w' : World) : Prop := ∃ v, e = .returned (.tuple #[v, .int .i64 z]) ∧ CdNew w' w.heap.size v c ∧ Below w.heap.size w w'
theorem cd_new {w : World} {N : Nat} {c c' : Cd} {A : Option Addr} {n k : Nat} {A' : Option Addr} {n' k' : Nat} (h : CdAt w w.heap.size (cdv c' A n k A' n' k') c) (h1 : Fresh N A) (h2 : Fresh N A') : CdNew w N (cdv c' A n k A' n' k') c := by
  obtain ⟨Q, m, l, Q', m', l', e, i, s, bm, bm', f⟩ := h
  have e0 := e
  injection e with e
  have e := congrArg Array.toList e
  simp only [List.cons.injEq, Value.slice.injEq, and_true] at e
  obtain ⟨_, _, _, _, ⟨rfl, rfl, rfl⟩, _, _, ⟨rfl, rfl, rfl⟩, _⟩ := e
  exact ⟨A, n, k, A', n', k', h1, h2, e0, i, s, bm, bm', f⟩
theorem CdNew.more {w : World} {N N' : Nat} {v : Value} {c : Cd} (h : CdNew w N v c) (hN : N' ≤ N) : CdNew w N' v c := by
  obtain ⟨A, n, k, A', n', k', h1, h2, h⟩ := h
  exact ⟨A, n, k, A', n', k', fun b o e => Nat.le_trans hN (h1 b o e), fun b o e => Nat.le_trans hN (h2 b o e), h⟩
theorem RetCN.ce {w : World} {c : Cd} {z : Int} {e : Ending} {w' : World} (h : RetCN w c z e w') : RetCE w c z e w' := by
  obtain ⟨v, h1, h2, h3⟩ := h
  exact ⟨v, h1, h2.at_, h3⟩
end Go.Proofs.YtapjbffhihhnbaaGreat

namespace Go.Proofs.YtapjbffhihhnbaaGreat
open Go.RowKit

set_option maxRecDepth 100000 in
theorem writeC_size2 {c : Cd} {t : ByteArray} {z : Int} (h : writeC c = (t, z)) : t.size ≤ 32 := by
  cases hr : rightC c with
  | false => rw [writeC_no hr] at h; injection h with h1 _; subst h1; exact Nat.zero_le _
  | true => have := writeC_size hr; rw [h] at this; exact Nat.le_of_eq this

set_option maxRecDepth 100000 in
set_option maxHeartbeats 4000000 in
theorem read9_new (s : ByteArray) (w : World) (hsz : s.size ≤ 9223372036854775807) : Calls Tryz.prog 54 #[.string s] w (RetCN w (readC s).1 (readC s).2) := by
  by_cases h32 : s.size = 32
  · have HCA := Lib.hid (fun v => cardOf_any s v h32)
    have HRC : Hid (readC s = if writeC (cardD (bytesOf s)) = (s, 0) then (cardD (bytesOf s), 0) else (zeroC, 15)) := by show _ = _; unfold readC; simp only [h32, true_and]
    generalize cardD (bytesOf s) = c at *
    have HWA := Lib.hid (fun v B w hc hB => write9_any v c B w hc hB)
    obtain ⟨t, z, hw⟩ : ∃ t z, writeC c = (t, z) := ⟨_, _, rfl⟩
    rw [hw] at HWA
    have hne : ((s.size : Int) != 32) = false := by simp [h32]
    have HZ : Hid (z = 0 ∨ z = 1) := by
      show _ ∨ _
      cases hr : rightC c with
      | false => rw [writeC_no hr] at hw; injection hw with _ h; exact Or.inr h.symm
      | true => rw [writeC_ok hr] at hw; injection hw with _ h; exact Or.inl h.symm
    rw [hw] at HRC
    clear h32 hw
    go_enter Tryz.func54, Tryz.ntmps54
    go_wp2_with fail
    refine (HCA.out _).mono ?_
    rintro e w2 ⟨v2, rfl, hc2, b2⟩
    obtain ⟨A, n, k, A', n', k', q1, q2, rfl, i2, s2, bn, bn', f2⟩ := hc2
    have HQ1 : Hid (Fresh (w.heap.size + 1) A) := fun b o e => by have := q1 b o e; simp at this; omega
    have HQ2 : Hid (Fresh (w.heap.size + 1) A') := fun b o e => by have := q2 b o e; simp at this; omega
    clear q1 q2
    have HC2 : Hid (CdAt w2 w2.heap.size (cdv c A n k A' n' k') c) := ⟨A, n, k, A', n', k', rfl, i2, s2, bn, bn', f2⟩
    have HR2 : Hid (CdRow w2 w.heap.size zeroC none 0 0 none 0 0) := (CdRow.new w zeroC none 0 0 none 0 0).below b2 (by simp)
    have HB2 : Hid (Below w.heap.size w w2) := ((Below.refl _ _).alloc (Nat.le_refl _) _).trans (b2.mono (by simp))
    have hg2 := HR2.out.lt
    clear i2 s2 bn bn' f2 b2 hne
    go_upto_region 4 with fail
    have HG3 : Hid (CdRow (w2.alloc (.cells #[.int .i64 c.fm, .int .i64 c.kd, .int .i64 c.ln, .int .i64 c.sz, .slice A n k, .int .i64 c.sg, .int .i64 c.db, .slice A' n' k', .int .i64 c.ov] 40)) w2.heap.size c A n k A' n' k') := CdRow.new w2 c A n k A' n' k'
    have b3 : Below w2.heap.size w2 (w2.alloc (.cells #[.int .i64 c.fm, .int .i64 c.kd, .int .i64 c.ln, .int .i64 c.sz, .slice A n k, .int .i64 c.sg, .int .i64 c.db, .slice A' n' k', .int .i64 c.ov] 40)) := (Below.refl _ _).alloc (Nat.le_refl _) _
    have HC3 := Lib.hid (HC2.out.below b3 (Nat.le_refl _))
    have HR3 := Lib.hid (HR2.out.below b3 hg2)
    have HB3 := Lib.hid (HB2.out.trans (b3.mono HB2.out.size))
    have hs3 := HG3.out.lt
    clear b3 HC2 HR2
    generalize w2.alloc (.cells #[.int .i64 c.fm, .int .i64 c.kd, .int .i64 c.ln, .int .i64 c.sz, .slice A n k, .int .i64 c.sg, .int .i64 c.db, .slice A' n' k', .int .i64 c.ov] 40) = w3 at *
    obtain ⟨e0, e1, e2, e3, e4, e5, e6, e7, e8⟩ := HG3.out.cells
    go_wp2_with fail
    refine (HWA.out _ w2.heap.size w3 HC3.out (Nat.le_of_lt hs3)).mono ?_
    rintro e w4 ⟨rfl, b4⟩
    have HG4 := Lib.hid (HG3.out.below b4 hs3)
    have HC4 := Lib.hid (HC3.out.below b4 (Nat.le_of_lt hs3))
    have HR4 := Lib.hid (HR3.out.below b4 HR3.out.lt)
    have HB4 := Lib.hid (HB3.out.trans (b4.mono HB3.out.size))
    have hg4 := HG4.out.lt
    clear e0 e1 e2 e3 e4 e5 e6 e7 e8 b4 HG3 HC3 HR3 HB3
    generalize w2.heap.size = g at *
    obtain ⟨e0, e1, e2, e3, e4, e5, e6, e7, e8⟩ := HG4.out.cells
    obtain ⟨r0, r1, r2, r3, r4, r5, r6, r7, r8⟩ := HR4.out.cells
    have zr := HR4.out.fz
    rcases HZ.out with rfl | rfl
    · by_cases hts : t = s
      · subst hts
        have HE : Hid (readC t = (c, 0)) := by show _ = _; rw [HRC.out, if_pos rfl]
        clear HRC
        go_wp2
        clear e0 e1 e2 e3 e4 e5 e6 e7 e8 r0 r1 r2 r3 r4 r5 r6 r7 r8 zr
        have HR8 : Hid (CdRow (put9 w4 w.heap.size c A n k A' n' k') w.heap.size c A n k A' n' k') := put9_row HR4.out
        have HB8 : Hid (Below w.heap.size w (put9 w4 w.heap.size c A n k A' n' k')) := put9_below HB4.out (Nat.le_refl _)
        have HC8 : Hid (CdAt (put9 w4 w.heap.size c A n k A' n' k') (put9 w4 w.heap.size c A n k A' n' k').heap.size (cdv c A n k A' n' k') c) := cd_put9 HC4.out (Nat.le_of_lt hg4) HQ1.out HQ2.out
        unfold put9 at HR8 HB8 HC8
        generalize World.setCell _ ⟨w.heap.size, 8, none⟩ _ = w8 at *
        obtain ⟨r0, r1, r2, r3, r4, r5, r6, r7, r8⟩ := HR8.out.cells
        refine bodyPost_ret (v := .tuple #[cdv c A n k A' n' k', .int .i64 0]) (by simp [results, Tryz.results54, go_sem, r0, r1, r2, r3, r4, r5, r6, r7, r8]) rfl ?_
        rw [HE.out]
        exact ⟨_, rfl, cd_new HC8.out (fun b o e => by have := HQ1.out b o e; omega) (fun b o e => by have := HQ2.out b o e; omega), HB8.out⟩
      · have HE : Hid (readC s = (zeroC, 15)) := by show _ = _; rw [HRC.out, if_neg (fun h => hts (by injection h))]
        have hl : t.toList ≠ s.toList := fun h => hts (ByteArray.ext (Array.ext' (by rw [ByteArray.toList_eq, ByteArray.toList_eq] at h; exact h)))
        have q1 : (t.toList == s.toList) = false := by simpa using hl
        have q2 : (t.toList != s.toList) = true := by simpa using hl
        clear HRC hts hl
        go_wp2
        clear e0 e1 e2 e3 e4 e5 e6 e7 e8 r0 r1 r2 r3 r4 r5 r6 r7 r8 zr
        have HR8 : Hid (CdRow (put9 w4 w.heap.size zeroC none 0 0 none 0 0) w.heap.size zeroC none 0 0 none 0 0) := put9_row HR4.out
        have HB8 : Hid (Below w.heap.size w (put9 w4 w.heap.size zeroC none 0 0 none 0 0)) := put9_below HB4.out (Nat.le_refl _)
        unfold put9 zeroC at HR8 HB8
        simp only at HR8 HB8
        generalize World.setCell _ ⟨w.heap.size, 8, none⟩ _ = w8 at *
        obtain ⟨r0, r1, r2, r3, r4, r5, r6, r7, r8⟩ := HR8.out.cells
        refine bodyPost_ret (v := .tuple #[cdv zeroC none 0 0 none 0 0, .int .i64 15]) (by simp [results, Tryz.results54, go_sem, r0, r1, r2, r3, r4, r5, r6, r7, r8, zeroC]) rfl ?_
        rw [HE.out]
        exact ⟨_, rfl, cdn_zero _ _, HB8.out⟩
    · have HE : Hid (readC s = (zeroC, 15)) := by show _ = _; rw [HRC.out, if_neg (fun h => by injection h with _ h; cases h)]
      clear HRC
      go_wp2
      clear e0 e1 e2 e3 e4 e5 e6 e7 e8 r0 r1 r2 r3 r4 r5 r6 r7 r8 zr
      have HR8 : Hid (CdRow (put9 w4 w.heap.size zeroC none 0 0 none 0 0) w.heap.size zeroC none 0 0 none 0 0) := put9_row HR4.out
      have HB8 : Hid (Below w.heap.size w (put9 w4 w.heap.size zeroC none 0 0 none 0 0)) := put9_below HB4.out (Nat.le_refl _)
      unfold put9 zeroC at HR8 HB8
      simp only at HR8 HB8
      generalize World.setCell _ ⟨w.heap.size, 8, none⟩ _ = w8 at *
      obtain ⟨r0, r1, r2, r3, r4, r5, r6, r7, r8⟩ := HR8.out.cells
      refine bodyPost_ret (v := .tuple #[cdv zeroC none 0 0 none 0 0, .int .i64 15]) (by simp [results, Tryz.results54, go_sem, r0, r1, r2, r3, r4, r5, r6, r7, r8, zeroC]) rfl ?_
      rw [HE.out]
      exact ⟨_, rfl, cdn_zero _ _, HB8.out⟩
  · have hne : ((s.size : Int) != 32) = true := bne_iff_ne.2 (by omega)
    have HE : Hid (readC s = (zeroC, 15)) := by show _ = _; unfold readC; rw [if_neg (fun h => h32 h.1)]
    have HB : Hid (∀ o : Obj, Below w.heap.size w (w.alloc o)) := fun o => (Below.refl _ _).alloc (Nat.le_refl _) _
    clear h32
    go_enter Tryz.func54, Tryz.ntmps54
    go_wp2
    refine bodyPost_ret (v := .tuple #[cdv zeroC none 0 0 none 0 0, .int .i64 15]) (by simp [results, Tryz.results54, go_sem, zeroC]) rfl ?_
    rw [HE.out]
    exact ⟨_, rfl, cdn_zero _ _, HB.out _⟩
theorem read9_any (s : ByteArray) (w : World) (hsz : s.size ≤ 9223372036854775807) : Calls Tryz.prog 54 #[.string s] w (RetCE w (readC s).1 (readC s).2) := (read9_new s w hsz).mono fun _ _ h => h.ce
end Go.Proofs.YtapjbffhihhnbaaGreat

namespace Go.Proofs.YtapjbffhihhnbaaGreat
open Go.RowKit

set_option maxRecDepth 100000 in
set_option maxHeartbeats 1000000 in
theorem rread_new (A : Option Addr) (n c B : Nat) (ws : List Int) (s : ByteArray) (w : World) (hr : IntsAt w B A n ws) (hB : B ≤ w.heap.size) (hn : n ≤ 17592186044416) (hs : s.size ≤ 1000000000000000) :
    Calls Tryz.prog 93 #[.slice A n c, .string s] w fun e w' => ∃ A' n' c', e = .returned (.tuple #[.slice A' n' c', .int .i64 (readR ws (bytesOf s)).2]) ∧ n' ≤ c' ∧ Fresh w.heap.size A' ∧ IntsAt w' w'.heap.size A' n' (readR ws (bytesOf s)).1 ∧ Below w.heap.size w w' := by
  by_cases hok : okTo ws ws.length = true
  · have hsz := sizeS_good ws hok
    have hsb := sumTo_bd ws ws.length hok
    rw [hr.len] at hsb
    have hsn : decide (sizeS ws < 0) = false := by rw [hsz]; simp; rw [hr.len]; omega
    by_cases hsh : (s.size : Int) < sumTo ws ws.length
    · have HW := Lib.hid (readR_short (bs := bytesOf s) hok (by rw [bytesOf_len]; exact hsh))
      have hlt : decide ((s.size : Int) < sizeS ws) = true := by rw [hsz]; simpa using hsh
      clear hok hsz hsb hsh
      go_enter Tryz.func93, Tryz.ntmps93
      go_wp2_with (go_at_call 132; refine (rsize_any A n c B ws w hr (by omega)).mono ?_; rintro e w' ⟨rfl, rfl⟩)
      go_ret2
      exact ⟨none, 0, 0, by rw [HW.out]; rfl, Nat.le_refl _, Fresh.none _, by rw [HW.out]; exact ⟨rfl, by simp, by intro k hk; omega⟩, Below.refl _ _⟩
    · obtain ⟨i0, hi, hz0, hz1, hz2⟩ := info_parts Tryz.info3
      have HW := Lib.hid (readR_ok (bs := bytesOf s) hok (by rw [bytesOf_len]; exact hsh))
      have hlt : decide ((s.size : Int) < sizeS ws) = false := by rw [hsz]; simpa using hsh
      have HOK := Lib.hid hok
      have HL := Lib.hid hr.len
      have HSH := Lib.hid hsh
      clear hok hsz hsb hsh
      go_enter Tryz.func93, Tryz.ntmps93
      go_wp2_with (go_at_call 132; refine (rsize_any A n c B ws w hr (by omega)).mono ?_; rintro e w' ⟨rfl, rfl⟩)
      clear hsn hlt
      go_loopw [6, 7, 8] (fun r at_ i wr => ∃ k : Nat, k ≤ n ∧ i = .int .i64 k ∧ at_ = .int .i64 (sumTo ws k) ∧ wr.ownsRow w.heap.size 3 1 r k ((readTo ws (bytesOf s) k).map (.int .i64)) ∧ Below w.heap.size w wr) (fun _ _ i _ => n - (intOf i).toNat)
      case atStart => exact ⟨0, Nat.zero_le _, rfl, rfl, World.ownsRow_nil _ _ _ _, Below.refl _ _⟩
      case round =>
        obtain ⟨k, hk, rfl, rfl, hown, hbel⟩ := hrel
        by_cases hkn : k < n
        · have hrk := hr.below hbel hB
          obtain ⟨b, o, rfl, hb, hc⟩ := hrk.at_ hkn
          have hwk := okTo_at ws (k := k) (n := ws.length) (by rw [HL.out]; exact hkn) HOK.out
          have hs1 := sumTo_bd ws k (okTo_mono ws k ws.length (by rw [HL.out]; exact hk) HOK.out)
          have hs2 := sumTo_mono ws (k + 1) ws.length (by rw [HL.out]; exact hkn) HOK.out
          have hs3 : sumTo ws (k + 1) ≤ s.size := by have := HSH.out; omega
          have HS : Hid (sumTo ws (k + 1) = sumTo ws k + ws.getD k 0) := by show _ = _; rfl
          have HR : Hid (readTo ws (bytesOf s) (k + 1) = readTo ws (bytesOf s) k ++ [decF (bytesOf s) (sumTo ws k).toNat (ws.getD k 0).toNat]) := by show _ = _; rfl
          have hz := wOk_d hwk
          have hz1r : 1 ≤ ws.getD k 0 ∧ ws.getD k 0 ≤ 4 := by omega
          rw [HS.out] at hs3
          clear hwk hz hrk hs2
          generalize ws.getD k 0 = z at *
          generalize sumTo ws k = a at *
          obtain ⟨zn, rfl⟩ := Int.eq_ofNat_of_zero_le (show 0 ≤ z by omega)
          obtain ⟨an, rfl⟩ := Int.eq_ofNat_of_zero_le hs1.1
          rw [Int.toNat_natCast, Int.toNat_natCast] at HR
          have hzx : w.heap.size ≤ wr.heap.size := hbel.size
          go_wp2
          go_loop [9, 10] (fun v i => ∃ j : Nat, j ≤ zn ∧ i = .int .i64 ((zn : Int) - 1 - j) ∧ v = .int .i64 (decF (bytesOf s) (an + zn - j) j)) (fun _ i => (intOf i + 1).toNat)
          case atStart => exact ⟨0, Nat.zero_le _, by simp, rfl⟩
          case round =>
            obtain ⟨j, hj, rfl, rfl⟩ := hrel
            have hd := decF_bd (bytesOf s) (bytesOf_bd s) j (an + zn - j)
            by_cases hjz : j < zn
            · obtain ⟨i, hii0⟩ : ∃ i : Nat, i = zn - 1 - j := ⟨_, rfl⟩
              have hii : ((zn : Int) - 1 - j) = (i : Int) := by omega
              have hil : an + i < s.size := by omega
              have HB := Lib.hid (bytesOf_at s (an + i) hil)
              have hp := pow_le3 j (by omega)
              have HD : Hid (decF (bytesOf s) (an + zn - (j + 1)) (j + 1) = (bytesOf s).getD (an + i) 0 + 256 * decF (bytesOf s) (an + zn - j) j) := by
                show _ = _
                rw [show an + zn - (j + 1) = an + i by omega, decF, show an + i + 1 = an + zn - j by omega]
              rw [hii]
              have HI := Lib.hid hii0
              clear hii hii0
              generalize decF (bytesOf s) (an + zn - j) j = v at *
              have hv : 0 ≤ v ∧ v < 16777216 := by omega
              clear hd hp
              have HO := Lib.hid (i64_add_byte v s[an + i] hv.1 hv.2)
              go_wp2
              refine ⟨⟨j + 1, by omega, ?_, ?_⟩, ?_⟩
              · congr 1; have := HI.out; omega
              · rw [HO.out, HD.out, HB.out]; congr 1; omega
              · simp [intOf]
            · have hje : j = zn := by omega
              subst hje
              rw [show an + j - j = an by omega] at *
              have hneg : decide (0 ≤ (j : Int) - 1 - j) = false := by simp; omega
              generalize decF (bytesOf s) an j = v at *
              have hp4 := pow_le4 j (by omega)
              have hv : 0 ≤ v ∧ v < 4294967296 := by omega
              clear hd hp4
              rw [show ((j : Int) - 1 - j) = -1 by omega] at *
              clear hneg
              go_wp2_with (first | (at_builtin; refine wpList_append_own _ rfl _ _ 37 rfl w.heap.size 3 i0 (.int .i64 0) 1 8 Tryz.underlying37 hi hz0 hz1 hz2 rfl (by decide) _ _ _ rfl (hown.alloc _) ⟨wr.heap.size, 0, none⟩ 1 1 [.int .i64 v] rfl rfl (cell_one_new _ _ _) (one_cell_int _ _) (by unfold maxLen; omega) (by omega) (by simp; omega) ?_))
              intro v' w1 hown2 hgrow _
              have hb2 : Below w.heap.size w w1 := (hbel.alloc (by omega) _).grown hgrow (by simp; omega) (fun g hg => (hown.lt g hg).1)
              have hc1 : w1.cell? ⟨b, o + k, none⟩ = some (.int .i64 j) := ((hb2.cell (p := ⟨b, o + k, none⟩) (by show b < _; omega)).trans (hbel.cell (p := ⟨b, o + k, none⟩) (by show b < _; omega)).symm).trans hc
              clear hgrow hown hbel hc
              go_wp2
              go_roundw
              case rel => exact ⟨k + 1, by omega, by go_num, by rw [HS.out], by rw [HR.out]; simpa using hown2, hb2⟩
              case measure => simp [intOf]; omega
        · have hke : k = n := by omega
          subst hke
          have hsh : ∃ A' c', u6 = .slice A' k c' ∧ k ≤ c' := by
            rcases hown.2 with ⟨h, h0⟩ | ⟨g, cap, cur, h, _, _, hc, _⟩
            · subst h0; exact ⟨none, 0, h, Nat.le_refl _⟩
            · exact ⟨_, _, h, hc⟩
          obtain ⟨A', c', rfl, hkc⟩ := hsh
          have HFR := Lib.hid (own_fresh hown (Nat.le_refl _))
          have HFIN := Lib.hid (ints_of_own hown (readTo_bd ws (bytesOf s) (bytesOf_bd s) k (okTo_mono ws k ws.length (by rw [HL.out]; exact hk) HOK.out)))
          go_wp2
          go_ret2
          exact ⟨A', k, c', by rw [HW.out]; rfl, hkc, HFR.out, by rw [HW.out, HL.out]; exact HFIN.out, hbel⟩
  · have hsn : decide (sizeS ws < 0) = true := by simp only [decide_eq_true_eq]; exact (sizeS_neg ws).2 hok
    have HW := Lib.hid (readR_arg (bs := bytesOf s) hok)
    clear hok
    go_enter Tryz.func93, Tryz.ntmps93
    go_wp2_with (go_at_call 132; refine (rsize_any A n c B ws w hr (by omega)).mono ?_; rintro e w' ⟨rfl, rfl⟩)
    go_ret2
    exact ⟨none, 0, 0, by rw [HW.out]; rfl, Nat.le_refl _, Fresh.none _, by rw [HW.out]; exact ⟨rfl, by simp, by intro k hk; omega⟩, Below.refl _ _⟩
end Go.Proofs.YtapjbffhihhnbaaGreat

namespace Go.Proofs.YtapjbffhihhnbaaGreat
open Go.RowKit

set_option maxRecDepth 100000 in
theorem rep_succ (z : Int) (k : Nat) : List.replicate (k + 1) z = List.replicate k z ++ [z] := List.replicate_succ'
def bytesW (z : Int) (l : List Int) : ByteArray := strOfNums (writeR (List.replicate l.length z) l).1

set_option maxRecDepth 100000 in
set_option maxHeartbeats 2000000 in
theorem bytes_any (z : Int) (A : Option Addr) (n c B : Nat) (l : List Int) (w : World) (hz : Fit z) (hA : IntsAt w B A n l) (hB : B ≤ w.heap.size) (hn : n ≤ 100000) :
    Calls Tryz.prog 94 #[.int .i64 z, .slice A n c] w fun e w' => e = .returned (.string (bytesW z l)) ∧ Below w.heap.size w w' := by
  have HL := Lib.hid hA.len
  have HA : Hid (∀ v, Below w.heap.size w v → IntsAt v B A n l) := fun v hv => hA.below hv hB
  have HZ := Lib.hid hz
  have HE : Hid (bytesW z l = strOfNums (writeR (List.replicate n z) l).1) := by show _ = _; unfold bytesW; rw [hA.len]
  have HRS : Hid (∀ k, List.replicate (k + 1) z = List.replicate k z ++ [z]) := rep_succ z
  generalize bytesW z l = R at *
  clear hA hz
  go_enter Tryz.func94, Tryz.ntmps94
  go_wp2
  go_loopw [5, 6] (fun v i wr => ∃ k : Nat, k ≤ n ∧ i = .int .i64 (k : Int) ∧ wr.ownsRow w.heap.size 3 1 v (List.replicate k z).length (ints (List.replicate k z)) ∧ Below w.heap.size w wr) (fun _ i _ => n - (intOf i).toNat)
  case atStart => exact ⟨0, by omega, rfl, World.ownsRow_nil _ _ _ _, Below.refl _ _⟩
  case round =>
    obtain ⟨k, hk, rfl, ho, hb⟩ := hrel
    have HO := Lib.hid ho
    have HB := Lib.hid hb
    have hws := hb.size
    clear ho hb
    by_cases hlt : k < n
    · go_wp2_with (at_builtin; refine pushN_law rfl (.tmp 15) (.tmp 17) rfl w.heap.size wr u5 (List.replicate k z) [z] 1 1 _ rfl rfl rfl rfl HO.out (by simp; omega) hws ?_)
      intro v' w6 ho6 hb6
      have HO6 := Lib.hid ho6
      have HB6 := Lib.hid (HB.out.trans hb6)
      clear ho6 hb6
      go_wp2
      go_roundw
      case rel => exact ⟨k + 1, by omega, by go_num, by rw [HRS.out]; simpa [ints] using HO6.out, HB6.out⟩
      case measure => simp [intOf]; omega
    · obtain rfl : k = n := by omega
      have HW : Hid (∃ A' c', u5 = .slice A' k c' ∧ IntsAt wr wr.heap.size A' k (List.replicate k z)) := by
        have ho := HO.out
        rw [List.length_replicate] at ho
        obtain ⟨A', c', rfl, -⟩ := own_slice ho
        refine ⟨A', c', rfl, ?_⟩
        have h := IntsAt.of_own (l := List.replicate k z) (A := A') (c := c') HO.out (by rw [List.length_replicate]) (fun x hx => by rw [List.eq_of_mem_replicate hx]; exact HZ.out)
        rw [List.length_replicate] at h
        exact h
      obtain ⟨A', c', rfl, i5⟩ := HW.out
      have I5 := Lib.hid i5
      have IA := Lib.hid ((HA.out wr HB.out).more (Nat.le_trans hB hws))
      clear HW i5 HO hlt hk
      go_wp2_with fail
      refine (rwrite_any A' A k c' k c wr.heap.size (List.replicate k z) l wr I5.out IA.out (Nat.le_refl _) (by omega) (by omega)).mono ?_
      rintro e w6 ⟨rfl, b6⟩
      have HB6 := Lib.hid (HB.out.trans (b6.mono hws))
      clear b6
      go_wp2
      go_ret
      rw [HE.out]
      exact ⟨rfl, HB6.out⟩
end Go.Proofs.YtapjbffhihhnbaaGreat

namespace Go.Proofs.YtapjbffhihhnbaaGreat
open Go.RowKit

def fieldsH (bs : List Int) : List Int := [decF bs 0 1, decF bs 1 1, decF bs 2 2, decF bs 4 4]
def fieldsP (bs : List Int) : List Int := [decF bs 8 2, decF bs 10 2, decF bs 12 2, decF bs 14 2, decF bs 16 2, decF bs 18 2]
def fieldsN (bs : List Int) : List Int := [decF bs 8 1, decF bs 9 2, decF bs 11 2, decF bs 13 2, decF bs 15 2, decF bs 17 2, decF bs 19 2, decF bs 21 2, decF bs 23 2, decF bs 25 2, decF bs 27 2]
set_option maxRecDepth 100000 in
theorem readH {bs : List Int} (h : bs.length = 32) : readR [1, 1, 2, 4] bs = (fieldsH bs, 0) := readR_ok (by decide) (by rw [h]; decide)
set_option maxRecDepth 100000 in
theorem bytes_ext (s : ByteArray) (k i : Nat) : (bytesOf (s.extract k s.size)).getD i 0 = (bytesOf s).getD (k + i) 0 := by
  have e : bytesOf (s.extract k s.size) = (bytesOf s).drop k := by
    simp only [bytesOf, ByteArray.data_extract, Array.toList_extract]
    rw [List.extract_eq_take_drop, List.map_take, List.map_drop]
    rw [List.take_of_length_le (by simp)]
  rw [e, getD_drop]
set_option maxRecDepth 100000 in
theorem dec8 (s : ByteArray) (a n : Nat) : decF (bytesOf (s.extract 8 s.size)) a n = decF (bytesOf s) (8 + a) n :=
  decF_congr _ _ _ _ _ fun i _ => by rw [bytes_ext, Nat.add_assoc]
set_option maxRecDepth 100000 in
theorem len8 {s : ByteArray} (h : s.size = 32) : (bytesOf (s.extract 8 s.size)).length = 24 := by
  rw [bytesOf_len, ByteArray.size_extract, h]; rfl
set_option maxRecDepth 100000 in
theorem readP {s : ByteArray} (h : s.size = 32) : readR [2, 2, 2, 2, 2, 2] (bytesOf (s.extract 8 s.size)) = (fieldsP (bytesOf s), 0) := by
  rw [readR_ok (by decide) (by rw [len8 h]; decide)]
  have e : readTo [2, 2, 2, 2, 2, 2] (bytesOf (s.extract 8 s.size)) 6 = [decF (bytesOf (s.extract 8 s.size)) 0 2, decF (bytesOf (s.extract 8 s.size)) 2 2, decF (bytesOf (s.extract 8 s.size)) 4 2, decF (bytesOf (s.extract 8 s.size)) 6 2, decF (bytesOf (s.extract 8 s.size)) 8 2, decF (bytesOf (s.extract 8 s.size)) 10 2] := rfl
  show (readTo _ _ 6, _) = _
  rw [e]
  simp only [dec8, fieldsP]
set_option maxRecDepth 100000 in
theorem readN {s : ByteArray} (h : s.size = 32) : readR [1, 2, 2, 2, 2, 2, 2, 2, 2, 2, 2] (bytesOf (s.extract 8 s.size)) = (fieldsN (bytesOf s), 0) := by
  rw [readR_ok (by decide) (by rw [len8 h]; decide)]
  generalize hbs : bytesOf (s.extract 8 s.size) = bs8
  have e : readTo [1, 2, 2, 2, 2, 2, 2, 2, 2, 2, 2] bs8 11 = [decF bs8 0 1, decF bs8 1 2, decF bs8 3 2, decF bs8 5 2, decF bs8 7 2, decF bs8 9 2, decF bs8 11 2, decF bs8 13 2, decF bs8 15 2, decF bs8 17 2, decF bs8 19 2] := rfl
  show (readTo _ _ 11, _) = _
  rw [e, ← hbs]
  simp only [dec8, fieldsN]
/-- the card that the reference builds. -/
def refCard (bs : List Int) : Cd :=
  if decF bs 0 1 = 0 then zeroC else if decF bs 0 1 = 1 then cardD bs else if decF bs 0 1 = 2 then cardD bs else ⟨decF bs 0 1, decF bs 1 1, decF bs 2 2, decF bs 4 4, [], 0, 0, [], 0⟩
set_option maxRecDepth 100000 in
theorem ref_read {s : ByteArray} (h : s.size = 32) : readC s = if writeC (refCard (bytesOf s)) = (s, 0) then (refCard (bytesOf s), 0) else (zeroC, 15) := by
  unfold readC
  simp only [h, true_and]
  by_cases h0 : decF (bytesOf s) 0 1 = 0
  · have e : refCard (bytesOf s) = zeroC := by unfold refCard; rw [if_pos h0]
    have e2 : cardD (bytesOf s) = zeroC := by unfold cardD; rw [if_neg (by rw [h0]; decide), if_neg (by rw [h0]; decide)]
    rw [e, e2]
  · by_cases h1 : decF (bytesOf s) 0 1 = 1
    · have e : refCard (bytesOf s) = cardD (bytesOf s) := by unfold refCard; rw [if_neg h0, if_pos h1]
      rw [e]
    · by_cases h2 : decF (bytesOf s) 0 1 = 2
      · have e : refCard (bytesOf s) = cardD (bytesOf s) := by unfold refCard; rw [if_neg h0, if_neg h1, if_pos h2]
        rw [e]
      · have e : refCard (bytesOf s) = ⟨decF (bytesOf s) 0 1, decF (bytesOf s) 1 1, decF (bytesOf s) 2 2, decF (bytesOf s) 4 4, [], 0, 0, [], 0⟩ := by unfold refCard; rw [if_neg h0, if_neg h1, if_neg h2]
        have e2 : cardD (bytesOf s) = zeroC := by unfold cardD; rw [if_neg h1, if_neg h2]
        have hr : rightC ⟨decF (bytesOf s) 0 1, decF (bytesOf s) 1 1, decF (bytesOf s) 2 2, decF (bytesOf s) 4 4, [], 0, 0, [], 0⟩ = false := by simp [rightC, isZ, headB, oneB, twoB, h0, h1, h2]
        rw [e, e2, writeC_no hr, if_neg, if_neg]
        · intro hh; injection hh with _ hh; cases hh
        · intro hh
          injection hh with hh
          apply h0
          rw [← hh]
          decide +kernel
end Go.Proofs.YtapjbffhihhnbaaGreat

namespace Go.Proofs.YtapjbffhihhnbaaGreat
open Go.RowKit

set_option maxRecDepth 100000 in
theorem ok_rep {z : Int} (hz : wOk z = true) (n : Nat) : ∀ k, k ≤ n → okTo (List.replicate n z) k = true := by
  intro k
  induction k with
  | zero => intro _; rfl
  | succ k ih =>
    intro h
    have : (List.replicate n z).getD k 0 = z := by simp [List.getD, show k < n by omega]
    simp only [okTo, ih (by omega), this, hz]; rfl
set_option maxRecDepth 100000 in
theorem fit_rep {z : Int} {l : List Int} (hf : ∀ x ∈ l, fitB x z = true) : ∀ k, k ≤ l.length → fitTo (List.replicate l.length z) l k = true := by
  intro k
  induction k with
  | zero => intro _; rfl
  | succ k ih =>
    intro h
    have e : (List.replicate l.length z).getD k 0 = z := by simp [List.getD, show k < l.length by omega]
    have e2 : l.getD k 0 = l[k] := by simp [List.getD, show k < l.length by omega]
    simp only [fitTo, ih (by omega), e, e2, hf _ (List.getElem_mem _)]; rfl
set_option maxRecDepth 100000 in
theorem enc_rep {z : Int} (l : List Int) : ∀ k, k ≤ l.length → encTo (List.replicate l.length z) l k = (l.take k).flatMap fun x => encF x z.toNat := by
  intro k
  induction k with
  | zero => intro _; rfl
  | succ k ih =>
    intro h
    have e : (List.replicate l.length z).getD k 0 = z := by simp [List.getD, show k < l.length by omega]
    have e2 : l.getD k 0 = l[k] := by simp [List.getD, show k < l.length by omega]
    simp only [encTo, ih (by omega), e, e2]
    rw [List.take_add_one, List.getElem?_eq_getElem (by omega), List.flatMap_append]
    simp
set_option maxRecDepth 100000 in
theorem bytesW_eq {z : Int} {l : List Int} (hz : wOk z = true) (hf : ∀ x ∈ l, fitB x z = true) : bytesW z l = strOfNums (l.flatMap fun x => encF x z.toNat) := by
  unfold bytesW
  rw [writeR_ok (by rw [List.length_replicate]; exact ok_rep hz _ _ (Nat.le_refl _)) List.length_replicate (by rw [List.length_replicate]; exact fit_rep hf _ (Nat.le_refl _)), List.length_replicate]
  show strOfNums (encTo _ _ _) = _
  rw [enc_rep l _ (Nat.le_refl _), List.take_length]
set_option maxRecDepth 100000 in
theorem bytesW_size {z : Int} {l : List Int} : (bytesW z l).size ≤ 4 * l.length := by
  unfold bytesW
  rw [strOfNums_size]
  have := writeR_len (List.replicate l.length z) l
  rwa [List.length_replicate] at this

def headS (fm kd ln sz : Int) : ByteArray := bytesW 1 [fm, kd] ++ bytesW 2 [ln] ++ bytesW 4 [sz]
def accS (fm kd ln sz : Int) (rs : List Sp) : Nat → ByteArray
  | 0 => headS fm kd ln sz ++ bytesW 1 [(rs.length : Int)]
  | j + 1 => accS fm kd ln sz rs j ++ bytesW 2 (runI rs j)
set_option maxRecDepth 100000 in
theorem nums_inj {a b : List Int} (h : a = b) : strOfNums a = strOfNums b := by rw [h]
set_option maxRecDepth 100000 in
theorem headS_eq {fm kd ln sz : Int} (hf : 0 ≤ fm ∧ fm ≤ 255) (hk : 0 ≤ kd ∧ kd ≤ 255) (hl : 0 ≤ ln ∧ ln ≤ 65535) (hs : 0 ≤ sz ∧ sz ≤ 4294967295) :
    headS fm kd ln sz = strOfNums (encF fm 1 ++ encF kd 1 ++ encF ln 2 ++ encF sz 4) := by
  unfold headS
  rw [bytesW_eq (by decide) (by simp [fitB, mostOf]; omega), bytesW_eq (by decide) (by simp [fitB, mostOf]; omega), bytesW_eq (by decide) (by simp [fitB, mostOf]; omega), nums_append, nums_append]
  apply nums_inj
  simp
set_option maxRecDepth 100000 in
theorem one_parts {kd ln sz sg db : Int} {ps : List Int} (h : rightC ⟨1, kd, ln, sz, ps, sg, db, [], 0⟩ = true) : bytesC ⟨1, kd, ln, sz, ps, sg, db, [], 0⟩ = headS 1 kd ln sz ++ (bytesW 2 ps ++ bytesW 2 [sg, db]) := by
  have hw := bytesC_ok h
  rcases rightC_iff.1 h with h0 | ⟨hh, ho | ht⟩
  · injection h0 with h0; cases h0
  · obtain ⟨h1, h2, h3⟩ := headB_iff.1 hh
    obtain ⟨e1, e2, e3, e4, e5, e6, e7, e8⟩ := oneB_iff.1 ho
    simp only at h1 h2 h3 e2 e3 e4 e5 e6
    have g5 := blkB_iff.1 e5
    have g6 := blkB_iff.1 e6
    rw [headS_eq (by omega) (by omega) (by omega) (by omega), bytesW_eq (l := ps) (by decide) (fun x hx => by have := blkB_iff.1 (e4 x hx); simp [fitB, mostOf]; omega), bytesW_eq (l := [sg, db]) (by decide) (by simp [fitB, mostOf]; omega), nums_append, nums_append]
    unfold bytesC
    rw [hw]
    apply nums_inj
    obtain ⟨a, b, c, d, rfl⟩ := four e3
    simp [encTo, widthsC, valuesC]
  · have := (twoB_iff.1 ht).1; simp only at this; omega
set_option maxRecDepth 100000 in
theorem two_parts {kd ln sz ov : Int} {rs : List Sp} (h : rightC ⟨2, kd, ln, sz, [], 0, 0, rs, ov⟩ = true) : bytesC ⟨2, kd, ln, sz, [], 0, 0, rs, ov⟩ = accS 2 kd ln sz rs 3 ++ bytesW 2 [ov] := by
  have hw := bytesC_ok h
  rcases rightC_iff.1 h with h0 | ⟨hh, ho | ht⟩
  · injection h0 with h0; cases h0
  · have := (oneB_iff.1 ho).1; simp only at this; omega
  · obtain ⟨h1, h2, h3⟩ := headB_iff.1 hh
    obtain ⟨e1, e2, e3, e4, e5, e6, e7, e8, e9⟩ := twoB_iff.1 ht
    simp only at h1 h2 h3 e2 e3 e5 e6
    have g5 := blkB_iff.1 e5
    have r0 := run_fit e6 0
    have r1 := run_fit e6 1
    have r2 := run_fit e6 2
    unfold accS accS accS accS runI
    unfold bytesC
    rw [hw]
    have hv : valuesC ⟨2, kd, ln, sz, [], 0, 0, rs, ov⟩ = [2, kd, ln, sz, (rs.length : Int), (rs.getD 0 Sp.z).at_, (rs.getD 0 Sp.z).st, (rs.getD 0 Sp.z).len, (rs.getD 1 Sp.z).at_, (rs.getD 1 Sp.z).st, (rs.getD 1 Sp.z).len, (rs.getD 2 Sp.z).at_, (rs.getD 2 Sp.z).st, (rs.getD 2 Sp.z).len, ov] := by
      simp [valuesC, runI]
    rw [hv]
    generalize rs.getD 0 Sp.z = s0 at *
    generalize rs.getD 1 Sp.z = s1 at *
    generalize rs.getD 2 Sp.z = s2 at *
    rw [headS_eq (by omega) (by omega) (by omega) (by omega), bytesW_eq (l := [(rs.length : Int)]) (by decide) (by simp [fitB, mostOf]; omega), bytesW_eq (l := [ov]) (by decide) (by simp [fitB, mostOf]; omega),
      bytesW_eq (l := [s0.at_, s0.st, s0.len]) (by decide) (by simp [fitB, mostOf]; omega), bytesW_eq (l := [s1.at_, s1.st, s1.len]) (by decide) (by simp [fitB, mostOf]; omega), bytesW_eq (l := [s2.at_, s2.st, s2.len]) (by decide) (by simp [fitB, mostOf]; omega), nums_append, nums_append, nums_append, nums_append, nums_append]
    apply nums_inj
    simp [encTo, widthsC]
set_option maxRecDepth 100000 in
theorem headS_size (fm kd ln sz : Int) : (headS fm kd ln sz).size ≤ 16 := by
  unfold headS
  rw [ByteArray.size_append, ByteArray.size_append]
  have h1 := bytesW_size (z := 1) (l := [fm, kd])
  have h2 := bytesW_size (z := 2) (l := [ln])
  have h3 := bytesW_size (z := 4) (l := [sz])
  simp only [List.length_cons, List.length_nil] at h1 h2 h3
  omega
set_option maxRecDepth 100000 in
theorem accS_size (fm kd ln sz : Int) (rs : List Sp) (j : Nat) : (accS fm kd ln sz rs j).size ≤ 20 + 12 * j := by
  induction j with
  | zero =>
    unfold accS
    rw [ByteArray.size_append]
    have h1 := headS_size fm kd ln sz
    have h2 := bytesW_size (z := 1) (l := [(rs.length : Int)])
    simp only [List.length_cons, List.length_nil] at h2
    omega
  | succ j ih =>
    unfold accS
    rw [ByteArray.size_append]
    have h2 := bytesW_size (z := 2) (l := runI rs j)
    simp only [runI, List.length_cons, List.length_nil] at h2
    unfold runI
    omega
set_option maxRecDepth 100000 in
/-- the bytes, padded by zeros. -/
theorem write_zeros {c : Cd} (h : rightC c = true) : writeC c = (bytesC c ++ (⟨(List.replicate (32 - (bytesC c).size) (0 : UInt8)).toArray⟩ : ByteArray), 0) := by
  rw [writeC_ok h, pad_add]
end Go.Proofs.YtapjbffhihhnbaaGreat

namespace Go.Proofs.YtapjbffhihhnbaaGreat
open Go.RowKit

def newC (f kd : Int) : Cd × Int :=
  if (decide (kd = 1) || decide (kd = 2)) = true then
    (if f = 1 then (⟨1, kd, 1, 0, [0, 0, 0, 0], 0, 0, [], 0⟩, 0) else if f = 2 then (⟨2, kd, 1, 0, [], 0, 0, [], 0⟩, 0) else (zeroC, 1))
  else (zeroC, 1)

set_option maxRecDepth 100000 in
theorem make4 (W : World) : (Instr.makeSlice 37 (.int .i64 4) (.int .i64 4)).run Tryz.prog W = .ok (.slice (some ⟨W.heap.size, 0, none⟩) 4 4) (W.alloc (.cells #[.int .i64 0, .int .i64 0, .int .i64 0, .int .i64 0] 3)) := by
  obtain ⟨i0, hi, hz0, hz1, hz2⟩ := info_parts Tryz.info3
  have h := run_make (P := Tryz.prog) W 37 3 i0 (.int .i64 0) Tryz.underlying37 hi hz0 .i64 .i64 (4 : Int) (4 : Int) (by omega) (by omega) (by rw [hz2]; decide) (by omega)
  have e : madeCells (Value.int .i64 0).cells (4 * i0.size) = #[.int .i64 0, .int .i64 0, .int .i64 0, .int .i64 0] := by
    apply Array.toList_inj.1
    have e1 : (Value.int .i64 0).cells = #[.int .i64 0] := rfl
    rw [hz1, Nat.mul_one, e1, toList_madeCells_one]
    rfl
  rw [← e]
  simpa using h
set_option maxRecDepth 100000 in
theorem four0 (W : World) : IntsAt (W.alloc (.cells #[.int .i64 0, .int .i64 0, .int .i64 0, .int .i64 0] 3)) (W.heap.size + 1) (some ⟨W.heap.size, 0, none⟩) 4 [0, 0, 0, 0] :=
  ints_new (w := W) [0, 0, 0, 0] (by decide)

end Go.Proofs.YtapjbffhihhnbaaGreat
