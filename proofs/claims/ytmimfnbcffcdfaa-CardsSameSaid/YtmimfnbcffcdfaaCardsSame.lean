/-
  THE LAW CardsSame: which cards are the same, and which are new, is what the document says. It holds for every input.
-/
import Derived.Test.YtmimfnbcffcdfaaCFrame
import Derived.Test.YtmimfnbcffcdfaaCRefNew
namespace Go.Proofs.Ytmimfnbcffcdfaa.cardsSame
open Go.ChangeShapes Go.WideShapes Go.ChangeAt Go.RowKit

def OneSt (W : World) (g : Nat) (c : Cd) (A : Option Addr) (n k : Nat) (A' : Option Addr) (n' k' : Nat) : Prop := CdRow W g c A n k A' n' k' ∧ CdAt W W.heap.size (cdv c A n k A' n' k') c
section
variable {W W' : World} {g : Nat} {c : Cd} {A : Option Addr} {n k : Nat} {A' : Option Addr} {n' k' : Nat}
theorem OneSt.bl (h : OneSt W g c A n k A' n' k') (hb : Below W.heap.size W W') : OneSt W' g c A n k A' n' k' := ⟨h.1.below hb h.1.lt, (h.2.below hb (Nat.le_refl _)).more hb.size⟩
theorem OneSt.dr (h : OneSt W g c A n k A' n' k') : OneSt W.drew g c A n k A' n' k' := h.bl (Below.dr (Below.refl _ _))
end
theorem box4 {W : World} {g0 g1 g7 g9 : Nat} {a b d : Cd} {A : Option Addr} {n k : Nat} {A' : Option Addr} {n' k' : Nat} {C : Option Addr} {m l : Nat} {C' : Option Addr} {m' l' : Nat} {D : Option Addr} {p q : Nat} {D' : Option Addr} {p' q' : Nat} {E : Option Addr} {t u : Nat} {E' : Option Addr} {t' u' : Nat}
    (h1 : OneSt W g0 a A n k A' n' k') (h2 : OneSt W g1 b C m l C' m' l') (h3 : OneSt W g7 d D p q D' p' q') (h4 : OneSt W g9 d E t u E' t' u') :
    W.cell? ⟨g0, 0, none⟩ = some (.int .i64 a.fm) ∧ W.cell? ⟨g0, 1, none⟩ = some (.int .i64 a.kd) ∧ W.cell? ⟨g0, 2, none⟩ = some (.int .i64 a.ln) ∧ W.cell? ⟨g0, 3, none⟩ = some (.int .i64 a.sz) ∧ W.cell? ⟨g0, 4, none⟩ = some (.slice A n k) ∧ W.cell? ⟨g0, 5, none⟩ = some (.int .i64 a.sg) ∧ W.cell? ⟨g0, 6, none⟩ = some (.int .i64 a.db) ∧ W.cell? ⟨g0, 7, none⟩ = some (.slice A' n' k') ∧ W.cell? ⟨g0, 8, none⟩ = some (.int .i64 a.ov) ∧ W.cell? ⟨g1, 0, none⟩ = some (.int .i64 b.fm) ∧ W.cell? ⟨g1, 1, none⟩ = some (.int .i64 b.kd) ∧ W.cell? ⟨g1, 2, none⟩ = some (.int .i64 b.ln) ∧ W.cell? ⟨g1, 3, none⟩ = some (.int .i64 b.sz) ∧ W.cell? ⟨g1, 4, none⟩ = some (.slice C m l) ∧ W.cell? ⟨g1, 5, none⟩ = some (.int .i64 b.sg) ∧ W.cell? ⟨g1, 6, none⟩ = some (.int .i64 b.db) ∧ W.cell? ⟨g1, 7, none⟩ = some (.slice C' m' l') ∧ W.cell? ⟨g1, 8, none⟩ = some (.int .i64 b.ov) ∧ W.cell? ⟨g7, 0, none⟩ = some (.int .i64 d.fm) ∧ W.cell? ⟨g7, 1, none⟩ = some (.int .i64 d.kd) ∧ W.cell? ⟨g7, 2, none⟩ = some (.int .i64 d.ln) ∧ W.cell? ⟨g7, 3, none⟩ = some (.int .i64 d.sz) ∧ W.cell? ⟨g7, 4, none⟩ = some (.slice D p q) ∧ W.cell? ⟨g7, 5, none⟩ = some (.int .i64 d.sg) ∧ W.cell? ⟨g7, 6, none⟩ = some (.int .i64 d.db) ∧ W.cell? ⟨g7, 7, none⟩ = some (.slice D' p' q') ∧ W.cell? ⟨g7, 8, none⟩ = some (.int .i64 d.ov) ∧ W.cell? ⟨g9, 0, none⟩ = some (.int .i64 d.fm) ∧ W.cell? ⟨g9, 1, none⟩ = some (.int .i64 d.kd) ∧ W.cell? ⟨g9, 2, none⟩ = some (.int .i64 d.ln) ∧ W.cell? ⟨g9, 3, none⟩ = some (.int .i64 d.sz) ∧ W.cell? ⟨g9, 4, none⟩ = some (.slice E t u) ∧ W.cell? ⟨g9, 5, none⟩ = some (.int .i64 d.sg) ∧ W.cell? ⟨g9, 6, none⟩ = some (.int .i64 d.db) ∧ W.cell? ⟨g9, 7, none⟩ = some (.slice E' t' u') ∧ W.cell? ⟨g9, 8, none⟩ = some (.int .i64 d.ov) := by
  obtain ⟨a0, a1, a2, a3, a4, a5, a6, a7, a8⟩ := h1.1.cells
  obtain ⟨b0, b1, b2, b3, b4, b5, b6, b7, b8⟩ := h2.1.cells
  obtain ⟨d0, d1, d2, d3, d4, d5, d6, d7, d8⟩ := h3.1.cells
  exact ⟨a0, a1, a2, a3, a4, a5, a6, a7, a8, b0, b1, b2, b3, b4, b5, b6, b7, b8, d0, d1, d2, d3, d4, d5, d6, d7, d8, h4.1.cells⟩

set_option maxRecDepth 100000 in
set_option maxHeartbeats 4000000 in
theorem walk {va vb : Value} (a b : Cd) (x y : Int) (w : World) (ha : CdAt w w.heap.size va a) (hb : CdAt w w.heap.size vb b) (hxy : (-9223372036854775808 ≤ x ∧ x ≤ 9223372036854775807) ∧ (-9223372036854775808 ≤ y ∧ y ≤ 9223372036854775807)) :
    Calls Try.prog 6 #[va, vb, .agg #[.int .i64 x, .int .i64 y]] w fun e w' => e = .returned (.bool true) ∧ Below w.heap.size w w' := by
  obtain ⟨A, n, k, A', n', k', rfl, ia, sa, ba, ba', fa⟩ := ha
  obtain ⟨C, m, l, C', m', l', rfl, ib, sb, bb, bb', fb⟩ := hb
  have HA0 : Hid (CdAt w w.heap.size (cdv a A n k A' n' k') a) := ⟨A, n, k, A', n', k', rfl, ia, sa, ba, ba', fa⟩
  have HB0 : Hid (CdAt w w.heap.size (cdv b C m l C' m' l') b) := ⟨C, m, l, C', m', l', rfl, ib, sb, bb, bb', fb⟩
  obtain ⟨R, hR⟩ := flag (a = b)
  obtain ⟨d, hd⟩ : ∃ d, d = (newC x y).1 := ⟨_, rfl⟩
  obtain ⟨z, hz⟩ : ∃ z, z = (newC x y).2 := ⟨_, rfl⟩
  have HN1 : Hid (∀ u : World, Calls Try.prog 17 #[.int .i64 x, .int .i64 y] u (RetCE u d z)) := fun u => by rw [hd, hz]; exact new_any x y u hxy.1 hxy.2
  have HN2 : Hid (∀ u : World, Calls Try.prog 18 #[.int .i64 x, .int .i64 y] u (RetCE u d z)) := fun u => by rw [hd, hz]; exact rnew_any x y u hxy.1 hxy.2
  have HR := Lib.hid hR
  clear ia sa ba ba' fa ib sb bb bb' fb hd hz hR
  go_enter Try.func6, Try.ntmps6
  go_wp2_with fail
  have ew : ∀ (o o' : Obj), ((w.alloc o).alloc o').heap.size = w.heap.size + 1 + 1 := fun o o' => by simp
  have HX1 : Hid (OneSt (((w.alloc (.cells #[.int .i64 a.fm, .int .i64 a.kd, .int .i64 a.ln, .int .i64 a.sz, .slice A n k, .int .i64 a.sg, .int .i64 a.db, .slice A' n' k', .int .i64 a.ov] 25)).alloc (.cells #[.int .i64 b.fm, .int .i64 b.kd, .int .i64 b.ln, .int .i64 b.sz, .slice C m l, .int .i64 b.sg, .int .i64 b.db, .slice C' m' l', .int .i64 b.ov] 25)).alloc (.cells #[.int .i64 x, .int .i64 y] 36)) w.heap.size a A n k A' n' k') := by
    have h : OneSt (w.alloc (.cells #[.int .i64 a.fm, .int .i64 a.kd, .int .i64 a.ln, .int .i64 a.sz, .slice A n k, .int .i64 a.sg, .int .i64 a.db, .slice A' n' k', .int .i64 a.ov] 25)) w.heap.size a A n k A' n' k' := ⟨CdRow.new w a A n k A' n' k', (HA0.out.below ((Below.refl w.heap.size w).alloc (Nat.le_refl _) (.cells #[.int .i64 a.fm, .int .i64 a.kd, .int .i64 a.ln, .int .i64 a.sz, .slice A n k, .int .i64 a.sg, .int .i64 a.db, .slice A' n' k', .int .i64 a.ov] 25)) (Nat.le_refl _)).more (by simp)⟩
    exact (h.bl ((Below.refl _ _).alloc (Nat.le_refl _) _)).bl ((Below.refl _ _).alloc (Nat.le_refl _) _)
  have HY1 : Hid (OneSt (((w.alloc (.cells #[.int .i64 a.fm, .int .i64 a.kd, .int .i64 a.ln, .int .i64 a.sz, .slice A n k, .int .i64 a.sg, .int .i64 a.db, .slice A' n' k', .int .i64 a.ov] 25)).alloc (.cells #[.int .i64 b.fm, .int .i64 b.kd, .int .i64 b.ln, .int .i64 b.sz, .slice C m l, .int .i64 b.sg, .int .i64 b.db, .slice C' m' l', .int .i64 b.ov] 25)).alloc (.cells #[.int .i64 x, .int .i64 y] 36)) (w.heap.size + 1) b C m l C' m' l') := by
    have h : OneSt ((w.alloc (.cells #[.int .i64 a.fm, .int .i64 a.kd, .int .i64 a.ln, .int .i64 a.sz, .slice A n k, .int .i64 a.sg, .int .i64 a.db, .slice A' n' k', .int .i64 a.ov] 25)).alloc (.cells #[.int .i64 b.fm, .int .i64 b.kd, .int .i64 b.ln, .int .i64 b.sz, .slice C m l, .int .i64 b.sg, .int .i64 b.db, .slice C' m' l', .int .i64 b.ov] 25)) (w.heap.size + 1) b C m l C' m' l' := ⟨row_new1 w _ b C m l C' m' l', ((HB0.out.below ((Below.refl w.heap.size w).alloc (Nat.le_refl _) (.cells #[.int .i64 a.fm, .int .i64 a.kd, .int .i64 a.ln, .int .i64 a.sz, .slice A n k, .int .i64 a.sg, .int .i64 a.db, .slice A' n' k', .int .i64 a.ov] 25)) (Nat.le_refl _)).below ((Below.refl w.heap.size (w.alloc (.cells #[.int .i64 a.fm, .int .i64 a.kd, .int .i64 a.ln, .int .i64 a.sz, .slice A n k, .int .i64 a.sg, .int .i64 a.db, .slice A' n' k', .int .i64 a.ov] 25))).alloc (by simp) (.cells #[.int .i64 b.fm, .int .i64 b.kd, .int .i64 b.ln, .int .i64 b.sz, .slice C m l, .int .i64 b.sg, .int .i64 b.db, .slice C' m' l', .int .i64 b.ov] 25)) (Nat.le_refl _)).more (by simp; omega)⟩
    exact h.bl ((Below.refl _ _).alloc (Nat.le_refl _) _)
  have q0 : (((w.alloc (.cells #[.int .i64 a.fm, .int .i64 a.kd, .int .i64 a.ln, .int .i64 a.sz, .slice A n k, .int .i64 a.sg, .int .i64 a.db, .slice A' n' k', .int .i64 a.ov] 25)).alloc (.cells #[.int .i64 b.fm, .int .i64 b.kd, .int .i64 b.ln, .int .i64 b.sz, .slice C m l, .int .i64 b.sg, .int .i64 b.db, .slice C' m' l', .int .i64 b.ov] 25)).alloc (.cells #[.int .i64 x, .int .i64 y] 36)).cell? ⟨w.heap.size + 1 + 1, 0, none⟩ = some (.int .i64 x) := by
    have h := cell_new ((w.alloc (.cells #[.int .i64 a.fm, .int .i64 a.kd, .int .i64 a.ln, .int .i64 a.sz, .slice A n k, .int .i64 a.sg, .int .i64 a.db, .slice A' n' k', .int .i64 a.ov] 25)).alloc (.cells #[.int .i64 b.fm, .int .i64 b.kd, .int .i64 b.ln, .int .i64 b.sz, .slice C m l, .int .i64 b.sg, .int .i64 b.db, .slice C' m' l', .int .i64 b.ov] 25)) #[.int .i64 x, .int .i64 y] 36 0 rfl
    rwa [ew] at h
  have q1 : (((w.alloc (.cells #[.int .i64 a.fm, .int .i64 a.kd, .int .i64 a.ln, .int .i64 a.sz, .slice A n k, .int .i64 a.sg, .int .i64 a.db, .slice A' n' k', .int .i64 a.ov] 25)).alloc (.cells #[.int .i64 b.fm, .int .i64 b.kd, .int .i64 b.ln, .int .i64 b.sz, .slice C m l, .int .i64 b.sg, .int .i64 b.db, .slice C' m' l', .int .i64 b.ov] 25)).alloc (.cells #[.int .i64 x, .int .i64 y] 36)).cell? ⟨w.heap.size + 1 + 1, 1, none⟩ = some (.int .i64 y) := by
    have h := cell_new ((w.alloc (.cells #[.int .i64 a.fm, .int .i64 a.kd, .int .i64 a.ln, .int .i64 a.sz, .slice A n k, .int .i64 a.sg, .int .i64 a.db, .slice A' n' k', .int .i64 a.ov] 25)).alloc (.cells #[.int .i64 b.fm, .int .i64 b.kd, .int .i64 b.ln, .int .i64 b.sz, .slice C m l, .int .i64 b.sg, .int .i64 b.db, .slice C' m' l', .int .i64 b.ov] 25)) #[.int .i64 x, .int .i64 y] 36 1 rfl
    rwa [ew] at h
  have hq : w.heap.size + 1 + 1 < (((w.alloc (.cells #[.int .i64 a.fm, .int .i64 a.kd, .int .i64 a.ln, .int .i64 a.sz, .slice A n k, .int .i64 a.sg, .int .i64 a.db, .slice A' n' k', .int .i64 a.ov] 25)).alloc (.cells #[.int .i64 b.fm, .int .i64 b.kd, .int .i64 b.ln, .int .i64 b.sz, .slice C m l, .int .i64 b.sg, .int .i64 b.db, .slice C' m' l', .int .i64 b.ov] 25)).alloc (.cells #[.int .i64 x, .int .i64 y] 36)).heap.size := by simp
  have HB1 : Hid (Below w.heap.size w (((w.alloc (.cells #[.int .i64 a.fm, .int .i64 a.kd, .int .i64 a.ln, .int .i64 a.sz, .slice A n k, .int .i64 a.sg, .int .i64 a.db, .slice A' n' k', .int .i64 a.ov] 25)).alloc (.cells #[.int .i64 b.fm, .int .i64 b.kd, .int .i64 b.ln, .int .i64 b.sz, .slice C m l, .int .i64 b.sg, .int .i64 b.db, .slice C' m' l', .int .i64 b.ov] 25)).alloc (.cells #[.int .i64 x, .int .i64 y] 36))) := (((Below.refl _ _).alloc (Nat.le_refl _) _).alloc (by simp) _).alloc (by simp; omega) _
  clear ew HA0 HB0
  generalize (((w.alloc (.cells #[.int .i64 a.fm, .int .i64 a.kd, .int .i64 a.ln, .int .i64 a.sz, .slice A n k, .int .i64 a.sg, .int .i64 a.db, .slice A' n' k', .int .i64 a.ov] 25)).alloc (.cells #[.int .i64 b.fm, .int .i64 b.kd, .int .i64 b.ln, .int .i64 b.sz, .slice C m l, .int .i64 b.sg, .int .i64 b.db, .slice C' m' l', .int .i64 b.ov] 25)).alloc (.cells #[.int .i64 x, .int .i64 y] 36)) = w1 at *
  refine (lives_any _).mono ?_
  rintro e w2 ⟨rfl, b2⟩
  have HX2 := Lib.hid (HX1.out.bl b2)
  have HY2 := Lib.hid (HY1.out.bl b2)
  have p0 := bcell b2 q0 hq
  have p1 := bcell b2 q1 hq
  have hq2 := Nat.lt_of_lt_of_le hq b2.size
  have HB2 := Lib.hid (HB1.out.trans (b2.mono HB1.out.size))
  clear b2 HX1 HY1 q0 q1 hq HB1
  go_wp2_with fail
  refine (HN1.out _).mono ?_
  rintro e w3 ⟨vd, rfl, hd3, b3⟩
  obtain ⟨D, p, q, D', p', q', rfl, i3, s3, bp, bp', f3⟩ := hd3
  have HV3 : Hid (CdAt w3 w3.heap.size (cdv d D p q D' p' q') d) := ⟨D, p, q, D', p', q', rfl, i3, s3, bp, bp', f3⟩
  have HX3 := Lib.hid (HX2.out.bl b3)
  have HY3 := Lib.hid (HY2.out.bl b3)
  have q0 := bcell b3 p0 hq2
  have q1 := bcell b3 p1 hq2
  have hq3 := Nat.lt_of_lt_of_le hq2 b3.size
  have HB3 := Lib.hid (HB2.out.trans (b3.mono HB2.out.size))
  clear b3 HX2 HY2 p0 p1 hq2 HB2 i3 s3 bp bp' f3
  go_upto_region 4 with fail
  have b4 : Below w3.heap.size w3 (w3.alloc (.cells (cells9 d D p q D' p' q') 25)) := (Below.refl _ _).alloc (Nat.le_refl _) _
  have HD4 : Hid (OneSt (w3.alloc (.cells (cells9 d D p q D' p' q') 25)) w3.heap.size d D p q D' p' q') := ⟨CdRow.new w3 d D p q D' p' q', (HV3.out.below b4 (Nat.le_refl _)).more b4.size⟩
  have HX4 := Lib.hid (HX3.out.bl b4)
  have HY4 := Lib.hid (HY3.out.bl b4)
  have p0 := bcell b4 q0 hq3
  have p1 := bcell b4 q1 hq3
  have HB4 := Lib.hid (HB3.out.trans (b4.mono HB3.out.size))
  clear b4 HX3 HY3 q0 q1 hq3 HB3 HV3
  unfold cells9 at HD4 HX4 HY4 p0 p1 HB4
  generalize w3.alloc (.cells #[.int .i64 d.fm, .int .i64 d.kd, .int .i64 d.ln, .int .i64 d.sz, .slice D p q, .int .i64 d.sg, .int .i64 d.db, .slice D' p' q', .int .i64 d.ov] 25) = w4 at *
  generalize w3.heap.size = g7 at *
  go_wp2_with fail
  refine (HN2.out _).mono ?_
  rintro e w5 ⟨ve, rfl, hd5, b5⟩
  obtain ⟨E, t, u, E', t', u', rfl, i5, s5, bt, bt', f5⟩ := hd5
  have HV5 : Hid (CdAt w5 w5.heap.size (cdv d E t u E' t' u') d) := ⟨E, t, u, E', t', u', rfl, i5, s5, bt, bt', f5⟩
  have HX5 := Lib.hid (HX4.out.bl b5)
  have HY5 := Lib.hid (HY4.out.bl b5)
  have HD5 := Lib.hid (HD4.out.bl b5)
  have HB5 := Lib.hid (HB4.out.trans (b5.mono HB4.out.size))
  clear b5 HX4 HY4 HD4 p0 p1 HB4 i5 s5 bt bt' f5
  go_upto_region 5 with fail
  have b6 : Below w5.heap.size w5 (w5.alloc (.cells (cells9 d E t u E' t' u') 25)) := (Below.refl _ _).alloc (Nat.le_refl _) _
  have HE6 : Hid (OneSt (w5.alloc (.cells (cells9 d E t u E' t' u') 25)) w5.heap.size d E t u E' t' u') := ⟨CdRow.new w5 d E t u E' t' u', (HV5.out.below b6 (Nat.le_refl _)).more b6.size⟩
  have HX6 := Lib.hid (HX5.out.bl b6)
  have HY6 := Lib.hid (HY5.out.bl b6)
  have HD6 := Lib.hid (HD5.out.bl b6)
  have HB6 := Lib.hid (HB5.out.trans (b6.mono HB5.out.size))
  clear b6 HX5 HY5 HD5 HB5 HV5
  unfold cells9 at HE6 HD6 HX6 HY6 HB6
  generalize w5.alloc (.cells #[.int .i64 d.fm, .int .i64 d.kd, .int .i64 d.ln, .int .i64 d.sz, .slice E t u, .int .i64 d.sg, .int .i64 d.db, .slice E' t' u', .int .i64 d.ov] 25) = w6 at *
  generalize w5.heap.size = g9 at *
  have S6 := Lib.hid (box4 HX6.out HY6.out HD6.out HE6.out)
  have HX7 := Lib.hid HX6.out.dr
  have HY7 := Lib.hid HY6.out.dr
  have HD7 := Lib.hid HD6.out.dr
  have HE7 := Lib.hid HE6.out.dr
  have HB7 := Lib.hid (Below.dr HB6.out)
  go_region_held3 (fun v' => v'.cell? ⟨w.heap.size, 0, none⟩ = some (.int .i64 a.fm) ∧ v'.cell? ⟨w.heap.size, 1, none⟩ = some (.int .i64 a.kd) ∧ v'.cell? ⟨w.heap.size, 2, none⟩ = some (.int .i64 a.ln) ∧ v'.cell? ⟨w.heap.size, 3, none⟩ = some (.int .i64 a.sz) ∧ v'.cell? ⟨w.heap.size, 4, none⟩ = some (.slice A n k) ∧ v'.cell? ⟨w.heap.size, 5, none⟩ = some (.int .i64 a.sg) ∧ v'.cell? ⟨w.heap.size, 6, none⟩ = some (.int .i64 a.db) ∧ v'.cell? ⟨w.heap.size, 7, none⟩ = some (.slice A' n' k') ∧ v'.cell? ⟨w.heap.size, 8, none⟩ = some (.int .i64 a.ov) ∧ v'.cell? ⟨w.heap.size + 1, 0, none⟩ = some (.int .i64 b.fm) ∧ v'.cell? ⟨w.heap.size + 1, 1, none⟩ = some (.int .i64 b.kd) ∧ v'.cell? ⟨w.heap.size + 1, 2, none⟩ = some (.int .i64 b.ln) ∧ v'.cell? ⟨w.heap.size + 1, 3, none⟩ = some (.int .i64 b.sz) ∧ v'.cell? ⟨w.heap.size + 1, 4, none⟩ = some (.slice C m l) ∧ v'.cell? ⟨w.heap.size + 1, 5, none⟩ = some (.int .i64 b.sg) ∧ v'.cell? ⟨w.heap.size + 1, 6, none⟩ = some (.int .i64 b.db) ∧ v'.cell? ⟨w.heap.size + 1, 7, none⟩ = some (.slice C' m' l') ∧ v'.cell? ⟨w.heap.size + 1, 8, none⟩ = some (.int .i64 b.ov) ∧ v'.cell? ⟨g7, 0, none⟩ = some (.int .i64 d.fm) ∧ v'.cell? ⟨g7, 1, none⟩ = some (.int .i64 d.kd) ∧ v'.cell? ⟨g7, 2, none⟩ = some (.int .i64 d.ln) ∧ v'.cell? ⟨g7, 3, none⟩ = some (.int .i64 d.sz) ∧ v'.cell? ⟨g7, 4, none⟩ = some (.slice D p q) ∧ v'.cell? ⟨g7, 5, none⟩ = some (.int .i64 d.sg) ∧ v'.cell? ⟨g7, 6, none⟩ = some (.int .i64 d.db) ∧ v'.cell? ⟨g7, 7, none⟩ = some (.slice D' p' q') ∧ v'.cell? ⟨g7, 8, none⟩ = some (.int .i64 d.ov) ∧ v'.cell? ⟨g9, 0, none⟩ = some (.int .i64 d.fm) ∧ v'.cell? ⟨g9, 1, none⟩ = some (.int .i64 d.kd) ∧ v'.cell? ⟨g9, 2, none⟩ = some (.int .i64 d.ln) ∧ v'.cell? ⟨g9, 3, none⟩ = some (.int .i64 d.sz) ∧ v'.cell? ⟨g9, 4, none⟩ = some (.slice E t u) ∧ v'.cell? ⟨g9, 5, none⟩ = some (.int .i64 d.sg) ∧ v'.cell? ⟨g9, 6, none⟩ = some (.int .i64 d.db) ∧ v'.cell? ⟨g9, 7, none⟩ = some (.slice E' t' u') ∧ v'.cell? ⟨g9, 8, none⟩ = some (.int .i64 d.ov))
    (first | exact S6.out | exact S8.out | exact S9.out | exact S10.out | exact S11.out)
    (first
      | (go_at_call 15; go_fit (rsame_any _ _ d d _ true _ (by simp) HD10.out.2 HE10.out.2 (Nat.le_refl _))
         rintro e w11 ⟨rfl, b11⟩
         have HX11 := Lib.hid (HX10.out.bl b11)
         have HY11 := Lib.hid (HY10.out.bl b11)
         have HD11 := Lib.hid (HD10.out.bl b11)
         have HE11 := Lib.hid (HE10.out.bl b11)
         have HB11 := Lib.hid (HB10.out.trans (b11.mono HB10.out.size))
         have S11 := Lib.hid (box4 HX11.out HY11.out HD11.out HE11.out)
         clear b11)
      | (go_at_call 16; go_fit (same_any _ _ a a _ true _ (by simp) HX9.out.2 HX9.out.2 (Nat.le_refl _))
         rintro e w10 ⟨rfl, b10⟩
         have HX10 := Lib.hid (HX9.out.bl b10)
         have HY10 := Lib.hid (HY9.out.bl b10)
         have HD10 := Lib.hid (HD9.out.bl b10)
         have HE10 := Lib.hid (HE9.out.bl b10)
         have HB10 := Lib.hid (HB9.out.trans (b10.mono HB9.out.size))
         have S10 := Lib.hid (box4 HX10.out HY10.out HD10.out HE10.out)
         clear b10)
      | (go_at_call 15; go_fit (rsame_any _ _ a b _ R _ HR.out HX8.out.2 HY8.out.2 (Nat.le_refl _))
         rintro e w9 ⟨rfl, b9⟩
         have HX9 := Lib.hid (HX8.out.bl b9)
         have HY9 := Lib.hid (HY8.out.bl b9)
         have HD9 := Lib.hid (HD8.out.bl b9)
         have HE9 := Lib.hid (HE8.out.bl b9)
         have HB9 := Lib.hid (HB8.out.trans (b9.mono HB8.out.size))
         have S9 := Lib.hid (box4 HX9.out HY9.out HD9.out HE9.out)
         clear b9)
      | (go_at_call 16; go_fit (same_any _ _ a b _ R _ HR.out HX7.out.2 HY7.out.2 (Nat.le_refl _))
         rintro e w8 ⟨rfl, b8⟩
         have HX8 := Lib.hid (HX7.out.bl b8)
         have HY8 := Lib.hid (HY7.out.bl b8)
         have HD8 := Lib.hid (HD7.out.bl b8)
         have HE8 := Lib.hid (HE7.out.bl b8)
         have HB8 := Lib.hid (HB7.out.trans (b8.mono HB7.out.size))
         have S8 := Lib.hid (box4 HX8.out HY8.out HD8.out HE8.out)
         clear b8))
  all_goals
    go_wp2
    go_ret
    exact ⟨rfl, HB11.out⟩

set_option maxRecDepth 100000 in
theorem lifted (os : Os) (started : os.Started) (H : Type) (enc : TypeId × Value → H) :
    ReturnsInHanded {} Try.checked os 6 .any (Rows.cardsSameSpec.pre6 enc Try.prog Try.f6 Rows.cardsSameRow.domain false) (Rows.cardsSameSpec.post enc Try.prog Try.f6 false true false false) := by
  refine returnsInHanded_of_change_sized (C := Try.checked) own started (by kernel_rfl) Try.func6
    (ChangeSpec.witness6 (enc := enc) (C := Try.checked) false ⟨#[], #[.agg #[.int .i64 0, .int .i64 0, .int .i64 0, .int .i64 0, .slice none 0 0, .int .i64 0, .int .i64 0, .slice none 0 0, .int .i64 0], .agg #[.int .i64 0, .int .i64 0, .int .i64 0, .int .i64 0, .slice none 0 0, .int .i64 0, .int .i64 0, .slice none 0 0, .int .i64 0], .agg #[.int .i64 0, .int .i64 0]], []⟩ 8 (by kernel_rfl) (by kernel_rfl) (by kernel_rfl) (by kernel_rfl)) ?_
  intro W base args ds gs before hval0 hW hcnd hsz0 _
  have hval : ∀ (j : Nat) t v, Try.f6.params[j]? = some t → args[j]? = some v → Value.okWide Try.prog W .any base t v := hval0
  have hW' := hW
  obtain ⟨p, q, hA0, hV, rfl, hfz, hnd⟩ := hW
  have hA : DataW.TrodAll enc Try.prog W 0 (fun _ => true) true Try.f6.params.toList args.toList ds p := hA0
  rw [Try.params6] at hA hval
  obtain ⟨v0, vs0, d0, ds0, p0, q0, hargs, rfl, rfl, h0, r0⟩ := trodAll_cons hA
  obtain ⟨v1, vs1, d1, ds1, p1, q1, rfl, rfl, rfl, h1, r1⟩ := trodAll_cons r0
  obtain ⟨v2, vs2, d2, ds2, p2, q2, rfl, rfl, rfl, h2, r2⟩ := trodAll_cons r1
  obtain ⟨rfl, rfl, rfl⟩ := trodAll_nil r2
  obtain rfl : args = #[v0, v1, v2] := by cases args; simp_all
  obtain ⟨rfl, rfl⟩ := trodVars_none hV
  have lt0 : ∀ x ∈ p0, x.block < W.heap.size := by obtain ⟨m, hm⟩ := h0; exact DataW.trod_lt m _ _ _ hm
  obtain ⟨a0, -, w0⟩ := cd_open (hval 0 25 v0 rfl rfl) h0
  have lt1 : ∀ x ∈ p1, x.block < W.heap.size := by obtain ⟨m, hm⟩ := h1; exact DataW.trod_lt m _ _ _ hm
  obtain ⟨b1, -, w1⟩ := cd_open (hval 1 25 v1 rfl rfl) h1
  have lt2 : ∀ x ∈ p2, x.block < W.heap.size := by obtain ⟨m, hm⟩ := h2; exact DataW.trod_lt m _ _ _ hm
  obtain ⟨x2, y2, rfl, w2⟩ := arr_open (hval 2 36 v2 rfl rfl) h2
  clear hA0 hval0
  refine (walk a0 b1 x2 y2 W w0 w1 w2).mono fun e W' ⟨he, bel⟩ => ?_
  subst he
  exact ⟨_, rfl, _, _, _, [], _, [], hW', trodAll_mk1 (shut_bool Try.underlying4 _), (trodAll_cons_mk (Below.trod laidOut (by kernel_rfl) (of_decide_eq_true (by kernel_rfl)) h0 bel lt0) (trodAll_cons_mk (Below.trod laidOut (by kernel_rfl) (of_decide_eq_true (by kernel_rfl)) h1 bel lt1) (trodAll_cons_mk (Below.trod laidOut (by kernel_rfl) (of_decide_eq_true (by kernel_rfl)) h2 bel lt2) trodAll_mk0))), rfl, bel.frame _, fun h => by cases h⟩

theorem over : Rows.cardsSameRow.holds Try.pinned (OpenSpec.ofChange Rows.cardsSameSpec) :=
  OpenClaim.holds_of_wide 6 Try.f6 rfl rfl rfl rfl rfl rfl rfl ⟨rfl, rfl, rfl, rfl, rfl⟩ rfl rfl rfl rfl rfl (by kernel_rfl) Try.func6 (by kernel_rfl)
    (of_decide_eq_true (by kernel_rfl)) (by unfold Func.isWrapper; first | (rw [if_pos (by decide +kernel)]; kernel_rfl) | (rw [if_neg (by decide +kernel)]; exact ⟨rfl, rfl⟩))
    (fun os started H enc _ => lifted os started H enc)

end Go.Proofs.Ytmimfnbcffcdfaa.cardsSame
namespace Go.Proofs.Ytmimfnbcffcdfaa
theorem cardsSame_proved : Rows.CardsSameSaid := cardsSame.over
#print axioms cardsSame_proved
end Go.Proofs.Ytmimfnbcffcdfaa
