/-
  THE LAW DealCards: a card that is set is the file's, and all other files' cards are as they were; a crown that is set is the disk's. It holds for every input.
-/
import Derived.Test.YtapjbffhihhnbaaGreatEG
import Derived.Deep.CutRange
import Derived.Deep.RegionHeld3
import Derived.Deep.DeepMust
import Derived.Deep.DeepFit
set_option linter.unusedVariables false
set_option linter.unusedSimpArgs false
namespace Go.Proofs.YtapjbffhihhnbaaGreat.Dl.dealCards
open Go.ChangeShapes Go.WideShapes Go.ChangeAt Go.RowKit
open Go.ChangeMaps (open_string shut_string)
open Sl (Turns SlabAt)
open Lg (FS LogAt Whole ownB bcell newD newD_len newD_whole)
open Kr (crv KBox)

/-- an image's row, of n blocks. -/
def SsAtN (w : World) (g : Nat) (D : List ByteArray) (n : Nat) : Prop := Sl.RowAt w g D ∧ D.length = n
theorem SsAtN.ss {w : World} {g : Nat} {D : List ByteArray} {n : Nat} (h : SsAtN w g D n) : Lg.SsAt w w.heap.size (some ⟨g, 0, none⟩) n D := by
  have := Lg.rowSs (B := w.heap.size) h.1 h.1.lt
  rwa [h.2] at this
theorem boxes (w0 : World) (c : Cd) (A : Option Addr) (n k : Nat) (A' : Option Addr) (n' k' : Nat) (f b u : Int) :
    (CdRow ((w0.alloc (.cells (cells9 c A n k A' n' k') 40)).alloc (.cells #[.int .i64 f, .int .i64 b, .int .i64 u] 36)).drew w0.heap.size c A n k A' n' k' ∧ KBox ((w0.alloc (.cells (cells9 c A n k A' n' k') 40)).alloc (.cells #[.int .i64 f, .int .i64 b, .int .i64 u] 36)).drew (w0.heap.size + 1) f b u ∧ Below w0.heap.size w0 ((w0.alloc (.cells (cells9 c A n k A' n' k') 40)).alloc (.cells #[.int .i64 f, .int .i64 b, .int .i64 u] 36)).drew) ∧
    (CdRow ((w0.alloc (.cells #[.int .i64 f, .int .i64 b, .int .i64 u] 36)).alloc (.cells (cells9 c A n k A' n' k') 40)).drew (w0.heap.size + 1) c A n k A' n' k' ∧ KBox ((w0.alloc (.cells #[.int .i64 f, .int .i64 b, .int .i64 u] 36)).alloc (.cells (cells9 c A n k A' n' k') 40)).drew w0.heap.size f b u ∧ Below w0.heap.size w0 ((w0.alloc (.cells #[.int .i64 f, .int .i64 b, .int .i64 u] 36)).alloc (.cells (cells9 c A n k A' n' k') 40)).drew) := by
  have nb : ∀ (W : World) (o : Obj), Below W.heap.size W (W.alloc o) := fun W o => (Below.refl _ _).alloc (Nat.le_refl _) _
  have two : ∀ o o' : Obj, Below w0.heap.size w0 ((w0.alloc o).alloc o').drew := fun o o' => Lg.Below.drews ((nb w0 o).trans ((nb _ o').mono (nb w0 o).size)) ⟨1, rfl⟩
  have h1 : CdRow ((w0.alloc (.cells (cells9 c A n k A' n' k') 40)).alloc (.cells #[.int .i64 f, .int .i64 b, .int .i64 u] 36)) w0.heap.size c A n k A' n' k' := (CdRow.new w0 c A n k A' n' k').below (nb _ _) (by simp)
  have h2 := KBox.new3 (w0.alloc (.cells (cells9 c A n k A' n' k') 40)) f b u
  have h3 := CdRow.new (w0.alloc (.cells #[.int .i64 f, .int .i64 b, .int .i64 u] 36)) c A n k A' n' k'
  have h4 : KBox ((w0.alloc (.cells #[.int .i64 f, .int .i64 b, .int .i64 u] 36)).alloc (.cells (cells9 c A n k A' n' k') 40)) w0.heap.size f b u := (KBox.new3 w0 f b u).below (nb _ _) (by simp)
  rw [World.size_alloc] at h2 h3
  exact ⟨⟨h1, h2, two _ _⟩, ⟨h3, h4, two _ _⟩⟩
/-- what holds behind k steps. -/
def CdSt (wb wr : World) (B d q p pd pm k : Nat) : Prop := ∃ (K c : Nat) (D V : List ByteArray) (v : Value), DV wr B d q p pd pm K c D V v ∧ D.length = 100 ∧ c ≤ 100 * k ∧ K ≤ k ∧ Below wb.heap.size wb wr

set_option maxRecDepth 100000 in
set_option maxHeartbeats 8000000 in
theorem walk {vo : Value} (a : Option Addr) (len cap : Nat) (l : List OpD) (o : OpD) (w : World) (ho : OpsAt w w.heap.size a len l ∧ len ≤ cap) (hop : OpAt w w.heap.size vo o) :
    Calls Tryz.prog 5 #[.slice a len cap, vo] w fun e w' => e = .returned (.bool true) ∧ Below w.heap.size w w' := by
  obtain ⟨hA, hnc⟩ := ho
  obtain ⟨A, n, nk, A', n', nk', rfl, hcd, -⟩ := hop
  obtain ⟨m, hm⟩ : ∃ m, m = min len 150 := ⟨_, rfl⟩
  have HM := Lib.hid hm
  have hm25 : m ≤ 150 := by omega
  have HA := Lib.hid (hA.take m (by omega))
  generalize l.take m = ops at *
  have HL := Lib.hid (fun W => lives12_any W)
  have HE := Lib.hid (fun W => early12_any a len cap W hnc)
  rw [← hm] at HE
  have HBG := Lib.hid (fun W => begin12_any 100 (by omega) (by omega) W)
  have HDL : Hid ((newD 100).length = 100) := newD_len 100
  have HCD := Lib.hid hcd
  have HX0 : Hid (ORow (w.alloc (.cells (ocells o A n nk A' n' nk') 42)) w.heap.size o A n nk A' n' nk') := ORow.new w o A n nk A' n' nk'
  have HB0 : Hid (Below w.heap.size w (w.alloc (.cells (ocells o A n nk A' n' nk') 42))) := (Below.refl _ _).alloc (Nat.le_refl _) _
  have HNB : Hid (∀ (W : World) (o : Obj), Below W.heap.size W (W.alloc o)) := fun W o => (Below.refl _ _).alloc (Nat.le_refl _) _
  unfold ocells at HX0 HB0
  clear hA hm hnc hcd
  go_enter Tryz.func5, Tryz.ntmps5
  go_upto_region 1 with fail
  generalize hw0 : w.alloc (.cells #[.int .i64 o.k, .int .i64 o.i, .string o.s, .int .i64 o.f, .int .i64 o.b, .int .i64 o.u, .int .i64 o.cd.fm, .int .i64 o.cd.kd, .int .i64 o.cd.ln, .int .i64 o.cd.sz, .slice A n nk, .int .i64 o.cd.sg, .int .i64 o.cd.db, .slice A' n' nk', .int .i64 o.cd.ov] 42) = w0 at *
  clear hw0
  go_cut [5, 6, 7] from 22 to 27 (fun v5 v6 v7 wx => ∃ x y : Nat, v5 = .int .i64 o.i ∧ v6 = .pointer (some ⟨x, 0, none⟩) ∧ v7 = .pointer (some ⟨y, 0, none⟩) ∧ CdRow wx x o.cd A n nk A' n' nk' ∧ KBox wx y o.f o.b o.u ∧ Below w.heap.size w wx)
  case first =>
    have HCW : Hid (∀ (W : World) (j : Nat), Below w0.heap.size w0 W → W.cell? ⟨w.heap.size, j, none⟩ = w0.cell? ⟨w.heap.size, j, none⟩) := fun W j hW => hW.cell (p := ⟨w.heap.size, j, none⟩) HX0.out.lt
    have HAA : Hid (∀ u t, Below w0.heap.size w0 (w0.alloc (.cells u t))) := fun u t => HNB.out _ _
    have HBB : Hid (∀ u t u' t', Below w0.heap.size w0 ((w0.alloc (.cells u t)).alloc (.cells u' t'))) := fun u t u' t' => (HAA.out u t).trans ((HNB.out _ _).mono (HAA.out u t).size)
    obtain ⟨-, x1, -, x3, x4, x5⟩ := HX0.out.cells
    obtain ⟨x6, x7, x8, x9, x10, x11, x12, x13, x14⟩ := HX0.out.cells9
    have d1 : w0.drew.cell? ⟨w.heap.size, 1, none⟩ = some (.int .i64 o.i) := x1
    have a1 : ∀ u t, (w0.alloc (.cells u t)).cell? ⟨w.heap.size, 1, none⟩ = some (.int .i64 o.i) := fun u t => (HCW.out _ 1 (HAA.out u t)).trans x1
    have b1 : ∀ u t u' t', ((w0.alloc (.cells u t)).alloc (.cells u' t')).cell? ⟨w.heap.size, 1, none⟩ = some (.int .i64 o.i) := fun u t u' t' => (HCW.out _ 1 (HBB.out u t u' t')).trans x1
    have d3 : w0.drew.cell? ⟨w.heap.size, 3, none⟩ = some (.int .i64 o.f) := x3
    have a3 : ∀ u t, (w0.alloc (.cells u t)).cell? ⟨w.heap.size, 3, none⟩ = some (.int .i64 o.f) := fun u t => (HCW.out _ 3 (HAA.out u t)).trans x3
    have b3 : ∀ u t u' t', ((w0.alloc (.cells u t)).alloc (.cells u' t')).cell? ⟨w.heap.size, 3, none⟩ = some (.int .i64 o.f) := fun u t u' t' => (HCW.out _ 3 (HBB.out u t u' t')).trans x3
    have d4 : w0.drew.cell? ⟨w.heap.size, 4, none⟩ = some (.int .i64 o.b) := x4
    have a4 : ∀ u t, (w0.alloc (.cells u t)).cell? ⟨w.heap.size, 4, none⟩ = some (.int .i64 o.b) := fun u t => (HCW.out _ 4 (HAA.out u t)).trans x4
    have b4 : ∀ u t u' t', ((w0.alloc (.cells u t)).alloc (.cells u' t')).cell? ⟨w.heap.size, 4, none⟩ = some (.int .i64 o.b) := fun u t u' t' => (HCW.out _ 4 (HBB.out u t u' t')).trans x4
    have d5 : w0.drew.cell? ⟨w.heap.size, 5, none⟩ = some (.int .i64 o.u) := x5
    have a5 : ∀ u t, (w0.alloc (.cells u t)).cell? ⟨w.heap.size, 5, none⟩ = some (.int .i64 o.u) := fun u t => (HCW.out _ 5 (HAA.out u t)).trans x5
    have b5 : ∀ u t u' t', ((w0.alloc (.cells u t)).alloc (.cells u' t')).cell? ⟨w.heap.size, 5, none⟩ = some (.int .i64 o.u) := fun u t u' t' => (HCW.out _ 5 (HBB.out u t u' t')).trans x5
    have d6 : w0.drew.cell? ⟨w.heap.size, 6, none⟩ = some (.int .i64 o.cd.fm) := x6
    have a6 : ∀ u t, (w0.alloc (.cells u t)).cell? ⟨w.heap.size, 6, none⟩ = some (.int .i64 o.cd.fm) := fun u t => (HCW.out _ 6 (HAA.out u t)).trans x6
    have b6 : ∀ u t u' t', ((w0.alloc (.cells u t)).alloc (.cells u' t')).cell? ⟨w.heap.size, 6, none⟩ = some (.int .i64 o.cd.fm) := fun u t u' t' => (HCW.out _ 6 (HBB.out u t u' t')).trans x6
    have d7 : w0.drew.cell? ⟨w.heap.size, 7, none⟩ = some (.int .i64 o.cd.kd) := x7
    have a7 : ∀ u t, (w0.alloc (.cells u t)).cell? ⟨w.heap.size, 7, none⟩ = some (.int .i64 o.cd.kd) := fun u t => (HCW.out _ 7 (HAA.out u t)).trans x7
    have b7 : ∀ u t u' t', ((w0.alloc (.cells u t)).alloc (.cells u' t')).cell? ⟨w.heap.size, 7, none⟩ = some (.int .i64 o.cd.kd) := fun u t u' t' => (HCW.out _ 7 (HBB.out u t u' t')).trans x7
    have d8 : w0.drew.cell? ⟨w.heap.size, 8, none⟩ = some (.int .i64 o.cd.ln) := x8
    have a8 : ∀ u t, (w0.alloc (.cells u t)).cell? ⟨w.heap.size, 8, none⟩ = some (.int .i64 o.cd.ln) := fun u t => (HCW.out _ 8 (HAA.out u t)).trans x8
    have b8 : ∀ u t u' t', ((w0.alloc (.cells u t)).alloc (.cells u' t')).cell? ⟨w.heap.size, 8, none⟩ = some (.int .i64 o.cd.ln) := fun u t u' t' => (HCW.out _ 8 (HBB.out u t u' t')).trans x8
    have d9 : w0.drew.cell? ⟨w.heap.size, 9, none⟩ = some (.int .i64 o.cd.sz) := x9
    have a9 : ∀ u t, (w0.alloc (.cells u t)).cell? ⟨w.heap.size, 9, none⟩ = some (.int .i64 o.cd.sz) := fun u t => (HCW.out _ 9 (HAA.out u t)).trans x9
    have b9 : ∀ u t u' t', ((w0.alloc (.cells u t)).alloc (.cells u' t')).cell? ⟨w.heap.size, 9, none⟩ = some (.int .i64 o.cd.sz) := fun u t u' t' => (HCW.out _ 9 (HBB.out u t u' t')).trans x9
    have d10 : w0.drew.cell? ⟨w.heap.size, 10, none⟩ = some (.slice A n nk) := x10
    have a10 : ∀ u t, (w0.alloc (.cells u t)).cell? ⟨w.heap.size, 10, none⟩ = some (.slice A n nk) := fun u t => (HCW.out _ 10 (HAA.out u t)).trans x10
    have b10 : ∀ u t u' t', ((w0.alloc (.cells u t)).alloc (.cells u' t')).cell? ⟨w.heap.size, 10, none⟩ = some (.slice A n nk) := fun u t u' t' => (HCW.out _ 10 (HBB.out u t u' t')).trans x10
    have d11 : w0.drew.cell? ⟨w.heap.size, 11, none⟩ = some (.int .i64 o.cd.sg) := x11
    have a11 : ∀ u t, (w0.alloc (.cells u t)).cell? ⟨w.heap.size, 11, none⟩ = some (.int .i64 o.cd.sg) := fun u t => (HCW.out _ 11 (HAA.out u t)).trans x11
    have b11 : ∀ u t u' t', ((w0.alloc (.cells u t)).alloc (.cells u' t')).cell? ⟨w.heap.size, 11, none⟩ = some (.int .i64 o.cd.sg) := fun u t u' t' => (HCW.out _ 11 (HBB.out u t u' t')).trans x11
    have d12 : w0.drew.cell? ⟨w.heap.size, 12, none⟩ = some (.int .i64 o.cd.db) := x12
    have a12 : ∀ u t, (w0.alloc (.cells u t)).cell? ⟨w.heap.size, 12, none⟩ = some (.int .i64 o.cd.db) := fun u t => (HCW.out _ 12 (HAA.out u t)).trans x12
    have b12 : ∀ u t u' t', ((w0.alloc (.cells u t)).alloc (.cells u' t')).cell? ⟨w.heap.size, 12, none⟩ = some (.int .i64 o.cd.db) := fun u t u' t' => (HCW.out _ 12 (HBB.out u t u' t')).trans x12
    have d13 : w0.drew.cell? ⟨w.heap.size, 13, none⟩ = some (.slice A' n' nk') := x13
    have a13 : ∀ u t, (w0.alloc (.cells u t)).cell? ⟨w.heap.size, 13, none⟩ = some (.slice A' n' nk') := fun u t => (HCW.out _ 13 (HAA.out u t)).trans x13
    have b13 : ∀ u t u' t', ((w0.alloc (.cells u t)).alloc (.cells u' t')).cell? ⟨w.heap.size, 13, none⟩ = some (.slice A' n' nk') := fun u t u' t' => (HCW.out _ 13 (HBB.out u t u' t')).trans x13
    have d14 : w0.drew.cell? ⟨w.heap.size, 14, none⟩ = some (.int .i64 o.cd.ov) := x14
    have a14 : ∀ u t, (w0.alloc (.cells u t)).cell? ⟨w.heap.size, 14, none⟩ = some (.int .i64 o.cd.ov) := fun u t => (HCW.out _ 14 (HAA.out u t)).trans x14
    have b14 : ∀ u t u' t', ((w0.alloc (.cells u t)).alloc (.cells u' t')).cell? ⟨w.heap.size, 14, none⟩ = some (.int .i64 o.cd.ov) := fun u t u' t' => (HCW.out _ 14 (HBB.out u t u' t')).trans x14
    go_wp2_with fail
    go_region
    all_goals go_wp2_with fail
    all_goals go_meet
    all_goals
      have hbx := boxes w0 o.cd A n nk A' n' nk' o.f o.b o.u
      first
        | exact ⟨_, _, rfl, rfl, rfl, hbx.1.1, hbx.1.2.1, HB0.out.trans (hbx.1.2.2.mono HB0.out.size)⟩
        | exact ⟨_, _, rfl, rfl, rfl, hbx.2.1, hbx.2.2.1, HB0.out.trans (hbx.2.2.2.mono HB0.out.size)⟩
  case rest =>
    obtain ⟨x, y, rfl, rfl, rfl, hx, hy, hbx⟩ := hcut
    have HXC := Lib.hid hx
    have HYC := Lib.hid hy
    have HBC := Lib.hid hbx
    clear hx hy hbx HX0 HB0
    go_wp2_with fail
    refine (HL.out _).mono ?_
    rintro e w1 ⟨rfl, b1⟩
    have HX1 := Lib.hid (HXC.out.below b1 HXC.out.lt)
    have HY1 := Lib.hid (HYC.out.below b1 HYC.out.lt)
    have HB1 := Lib.hid (HBC.out.trans (b1.mono HBC.out.size))
    clear b1 HXC HYC HBC HL
    go_wp2_with fail
    refine (HE.out w1).mono ?_
    rintro e w2 ⟨rfl, h2⟩
    subst h2
    go_wp2_with fail
    refine (HBG.out _).mono ?_
    rintro e w3 ⟨d, q, p, pd, pm, rfl, hd, hq, hp, hpd, hpm, d3, b3⟩
    have HGE : Hid (w1.heap.size ≤ d ∧ w1.heap.size ≤ q ∧ w1.heap.size ≤ p ∧ w1.heap.size ≤ pd ∧ w1.heap.size ≤ pm ∧ w1.heap.size ≤ w3.heap.size) := ⟨hd, hq, hp, hpd, hpm, b3.size⟩
    have HST0 : Hid (CdSt w1 w3 w3.heap.size d q p pd pm 0) := ⟨0, 0, _, _, _, d3, HDL.out, by omega, Nat.le_refl _, b3⟩
    have hs1 : w.heap.size ≤ w1.heap.size := HB1.out.size
    clear d3 b3 hd hq hp hpd hpm HBG HE HDL
    generalize hB : w3.heap.size = B at *
    clear hB
    go_wp2
    go_loopw [10] (fun j wr => ∃ k : Nat, k ≤ m ∧ j = .int .i64 (k : Int) ∧ CdSt w1 wr B d q p pd pm k) (fun j _ => m - (intOf j).toNat)
    case atStart => exact ⟨0, Nat.zero_le _, rfl, HST0.out⟩
    case round =>
      obtain ⟨k, hk, rfl, hst⟩ := hrel
      by_cases h1 : k < m
      · have hlt : (k : Int) < (m : Int) := by omega
        have x0 : (0 : Int) ≤ (k : Int) := by omega
        obtain ⟨K, c, D, V, v, dv, hdl, hc, hK, hb⟩ := hst
        obtain ⟨b, o1, A1, n1, k1, A2, n2, k2, rfl, hbB, hcs, hop⟩ := HA.out.op h1
        have hbw : Below w.heap.size w wr := HB1.out.trans (hb.mono HB1.out.size)
        have HCL := Lib.hid (fun (W : World) (hW : Below wr.heap.size wr W) (j : Nat) (hj : j < 15) => ((hbw.trans (hW.mono hbw.size)).cell (p := ⟨b, o1 + k * 15 + j, none⟩) (by show b < _; exact hbB)).trans (hcs j hj))
        have HOPW := Lib.hid hop
        generalize ops.getD k OpD.z = op at *
        have HCC : Hid (∀ W : World, Below wr.heap.size wr W → W.cell? ⟨b, o1 + k * 15, none⟩ = some (.int .i64 op.k) ∧ W.cell? ⟨b, o1 + k * 15 + 1, none⟩ = some (.int .i64 op.i) ∧ W.cell? ⟨b, o1 + k * 15 + 2, none⟩ = some (.string op.s) ∧ W.cell? ⟨b, o1 + k * 15 + 3, none⟩ = some (.int .i64 op.f) ∧ W.cell? ⟨b, o1 + k * 15 + 4, none⟩ = some (.int .i64 op.b) ∧ W.cell? ⟨b, o1 + k * 15 + 5, none⟩ = some (.int .i64 op.u) ∧ W.cell? ⟨b, o1 + k * 15 + 6, none⟩ = some (.int .i64 op.cd.fm) ∧ W.cell? ⟨b, o1 + k * 15 + 7, none⟩ = some (.int .i64 op.cd.kd) ∧ W.cell? ⟨b, o1 + k * 15 + 8, none⟩ = some (.int .i64 op.cd.ln) ∧ W.cell? ⟨b, o1 + k * 15 + 9, none⟩ = some (.int .i64 op.cd.sz) ∧ W.cell? ⟨b, o1 + k * 15 + 10, none⟩ = some (.slice A1 n1 k1) ∧ W.cell? ⟨b, o1 + k * 15 + 11, none⟩ = some (.int .i64 op.cd.sg) ∧ W.cell? ⟨b, o1 + k * 15 + 12, none⟩ = some (.int .i64 op.cd.db) ∧ W.cell? ⟨b, o1 + k * 15 + 13, none⟩ = some (.slice A2 n2 k2) ∧ W.cell? ⟨b, o1 + k * 15 + 14, none⟩ = some (.int .i64 op.cd.ov)) := fun W hW => ⟨HCL.out W hW 0 (by omega), HCL.out W hW 1 (by omega), HCL.out W hW 2 (by omega), HCL.out W hW 3 (by omega), HCL.out W hW 4 (by omega), HCL.out W hW 5 (by omega), HCL.out W hW 6 (by omega), HCL.out W hW 7 (by omega), HCL.out W hW 8 (by omega), HCL.out W hW 9 (by omega), HCL.out W hW 10 (by omega), HCL.out W hW 11 (by omega), HCL.out W hW 12 (by omega), HCL.out W hW 13 (by omega), HCL.out W hW 14 (by omega)⟩
        have HDV := Lib.hid dv
        have HDLN := Lib.hid hdl
        have HBW := Lib.hid hbw
        have HBB := Lib.hid hb
        have HCN := Lib.hid hc
        have HKN := Lib.hid hK
        have HWD := Lib.hid dv.wholeD
        have STP := Lib.hid (fun (W : World) (hW : Below wr.heap.size wr W) (r gb cb gn cn R : Nat) (hR : RD W R r gb cb gn cn 100 D D) (hBR : B ≤ R) => step_any B d q p pd pm K c D V v R r gb cb gn cn 100 D D _ op w.heap.size W (HDV.out.below hW) hR hBR HDLN.out HWD.out HWD.out (HOPW.out.below (HBW.out.trans (hW.mono HBW.out.size)) (Nat.le_refl _)) (Nat.le_trans HBW.out.size hW.size) (Nat.le_trans hs1 HGE.out.1) (by have := HCN.out; omega) (by have := HKN.out; omega))
        have HI8 : Hid (Calls Tryz.prog 11 #[.pointer (some ⟨p, 0, none⟩)] wr.drew fun e w' => e = .returned (.slice (some ⟨wr.heap.size, 0, none⟩) 100 100) ∧ SsAtN w' wr.heap.size D 100 ∧ Below wr.heap.size wr w') := by
          have h := Lg.image_calm p pd pm D c wr.drew (HDV.out.below (Lg.Below.drews (Below.refl _ _) ⟨1, rfl⟩)).sl
          rw [HDLN.out] at h
          exact h.mono fun e w' h => ⟨h.1, ⟨h.2.1, HDLN.out⟩, ⟨h.2.2.os, h.2.2.tape, h.2.2.output, h.2.2.size, h.2.2.block⟩⟩
        clear dv hdl hb hbw hc hK hcs hop HCL
        have DRW : Hid (Below wr.heap.size wr wr.drew) := Lg.Below.drews (Below.refl _ _) ⟨1, rfl⟩
        obtain ⟨e0, e1, e2, e3, e4, e5, e6, e7, e8, e9, e10, e11, e12, e13, e14⟩ := HCC.out wr.drew DRW.out
        go_wp2_with fail
        go_region_with (first
          | (go_at_call 12; refine (STP.out _ HB10.out _ _ _ _ _ _ HR10.out HBR.out).mono ?_
             rintro e w11 ⟨res, k', c', D', V', v', gb', cb', gn', cn', base', now', rfl, hk', hc', d11, r11, hw11, hwb11, hl11, t11, hag, hne⟩
             have HD11 := Lib.hid d11
             have HL11 := Lib.hid hl11
             have HK11 := Lib.hid hk'
             have HC11 := Lib.hid hc'
             have HRR := Lib.hid HR10.out.gn_ge.1
             have HRR2 := Lib.hid HR10.out.hR
             have HB11 : Hid (Below w1.heap.size w1 w11) := (HBB.out.trans (HB10.out.mono HBB.out.size)).trans (t11.below (Nat.le_trans HBB.out.size HB10.out.size) (by
               intro j hj
               have h1 := HGE.out
               have h2 := HRR.out
               have h3 := HRR2.out
               have h4 := HBR.out
               have h5 : w1.heap.size ≤ B := HGE.out.2.2.2.2.2
               simp only [List.mem_cons] at hj
               rcases hj with rfl | rfl | rfl | rfl | rfl | rfl | rfl | hj
               · exact h1.1
               · exact h1.2.1
               · exact h1.2.2.1
               · exact h1.2.2.2.1
               · exact h1.2.2.2.2.1
               · omega
               · omega
               · rcases HDV.out.own_ge j (List.mem_cons_of_mem _ hj) with e | e <;> omega))
             clear hne hag d11 r11 t11 hw11 hwb11 hl11 hk' hc' e0 e1 e2 e3 e4 e5 e6 e7 e8 e9 e10 e11 e12 e13 e14)
          | (go_at_call 10; refine (rbegin_any _ 100 100 w9.heap.size D w9 HS9.out (Nat.le_refl _) (by omega) (by omega)).mono ?_
             rintro e w10 ⟨r, gb, cb, gn, cn, rfl, r10, b10⟩
             have HB10 := Lib.hid (HB9.out.trans (b10.mono HB9.out.size))
             have HR10 := Lib.hid r10
             have HBR : Hid (B ≤ w9.heap.size) := Nat.le_trans HDV.out.hB HB9.out.size
             clear r10 b10 e0 e1 e2 e3 e4 e5 e6 e7 e8 e9 e10 e11 e12 e13 e14
             obtain ⟨e0, e1, e2, e3, e4, e5, e6, e7, e8, e9, e10, e11, e12, e13, e14⟩ := HCC.out w10 HB10.out)
          | (go_at_call 11; refine HI8.out.mono ?_
             rintro e w9 ⟨rfl, r9, b9⟩
             have HB9 : Hid (Below wr.heap.size wr w9) := b9
             have HS9 : Hid (Lg.SsAt w9 w9.heap.size (some ⟨wr.heap.size, 0, none⟩) 100 D) := r9.ss
             clear r9 b9 e0 e1 e2 e3 e4 e5 e6 e7 e8 e9 e10 e11 e12 e13 e14
             obtain ⟨e0, e1, e2, e3, e4, e5, e6, e7, e8, e9, e10, e11, e12, e13, e14⟩ := HCC.out w9 HB9.out))
        all_goals
          go_wp2
          go_roundw
          case rel => exact ⟨k + 1, h1, by push_cast; rfl, k', c', D', V', v', HD11.out, HL11.out, by have := HC11.out; have := HCN.out; omega, by have := HK11.out; have := HKN.out; omega, HB11.out⟩
          case measure => simp only [intOf]; omega
      · have hnlt : ¬ (k : Int) < (m : Int) := by omega
        obtain ⟨K, c, D, V, v, dv, hdl, hc, hK, hb⟩ := hst
        have HX2 := Lib.hid (HX1.out.below hb HX1.out.lt)
        have HY2 := Lib.hid (HY1.out.below hb HY1.out.lt)
        have HXL : Hid (x < w1.heap.size ∧ y < w1.heap.size) := ⟨HX1.out.lt, HY1.out.lt⟩
        have HBW := Lib.hid (HB1.out.trans (hb.mono HB1.out.size))
        have HW1L : Hid (w1.heap.size ≤ wr.heap.size) := hb.size
        have HDV := Lib.hid dv
        have HVL : Hid (V.length = 100) := dv.len.trans hdl
        have HVW : Hid (Whole V) := dv.whole
        have HOL := Lib.hid dv.own_lt
        have HOG : Hid (∀ j, j ∈ d :: ownL v → w1.heap.size ≤ j) := fun j hj => by
          have h5 : w1.heap.size ≤ B := HGE.out.2.2.2.2.2
          have h6 := HGE.out.1
          rcases dv.own_ge j hj with e | e <;> omega
        have HCDW : Hid (CdAt wr w.heap.size (cdv o.cd A n nk A' n' nk') o.cd) := HCD.out.below HBW.out (Nat.le_refl _)
        have hwl : w.heap.size ≤ wr.heap.size := HBW.out.size
        clear dv hdl hc hK hb HX1 HY1 HB1 HCD hk h1
        generalize wr = wl at *
        go_wp2
        go_loopw [11, 12, 13, 14] (fun v11 i _ _ wr => ∃ (j : Nat) (lw : List CW), j ≤ 32 ∧ i = .int .i64 (j : Int) ∧ WasAt wr wl.heap.size v11 j V lw ∧ Below wl.heap.size wl wr) (fun _ i _ _ _ => 32 - (intOf i).toNat)
        case atStart => exact ⟨0, [], by omega, rfl, WasAt.nil _ _ _, Below.refl _ _⟩
        case round =>
          obtain ⟨j, lw, hj, rfl, hwas, hb⟩ := hrel
          have HWAS := Lib.hid hwas
          have HB2 := Lib.hid hb
          by_cases h2 : j < 32
          · have hlt2 : (j : Int) < 32 := by omega
            have HCA := Lib.hid (card_dv B d q p pd pm K c D V v (j : Int) wr (HDV.out.below hb))
            unfold RetCN at HCA
            obtain ⟨X, hX⟩ : ∃ X, X = crdC V (j : Int) := ⟨_, rfl⟩
            rw [← hX] at HCA
            have HX9 := Lib.hid hX
            generalize crdE V (j : Int) = Z at *
            clear hwas hb hX
            go_wp2_with fail
            refine HCA.out.mono ?_
            rintro e w5 ⟨v5, rfl, n5, b5⟩
            obtain ⟨A1, m1, l1, A2, m2, l2, f1, f2, rfl, i5, s5, bm5, bn5, ft5⟩ := n5
            have HCW5 : Hid (CwAt w5 wl.heap.size u11.ownBlock ⟨X, A1, m1, l1, A2, m2, l2⟩) := CwAt.of_new f1 f2 i5 s5 bm5 bn5 ft5 HB2.out.size (fun b e => (HWAS.out.row.lt b e).2)
            have hb5 := HNB.out w5 (.cells #[.int .i64 X.fm, .int .i64 X.kd, .int .i64 X.ln, .int .i64 X.sz, .slice A1 m1 l1, .int .i64 X.sg, .int .i64 X.db, .slice A2 m2 l2, .int .i64 X.ov] 40)
            have HCW6 := Lib.hid (HCW5.out.turns (Turns.of_below [] hb5) (by simp))
            have HWAS6 := Lib.hid ((HWAS.out.below b5).below hb5)
            have hb25 := HB2.out.trans (b5.mono HB2.out.size)
            have HB6 := Lib.hid (hb25.trans (hb5.mono hb25.size))
            have HP6 : Hid (CdRow (w5.alloc (.cells #[.int .i64 X.fm, .int .i64 X.kd, .int .i64 X.ln, .int .i64 X.sz, .slice A1 m1 l1, .int .i64 X.sg, .int .i64 X.db, .slice A2 m2 l2, .int .i64 X.ov] 40)) w5.heap.size X A1 m1 l1 A2 m2 l2) := CdRow.new w5 X A1 m1 l1 A2 m2 l2
            clear f1 f2 i5 s5 bm5 bn5 ft5 hb5 hb25 b5 HCW5 HWAS HB2 HCA
            go_upto_region 17 with fail
            generalize w5.alloc (.cells #[.int .i64 X.fm, .int .i64 X.kd, .int .i64 X.ln, .int .i64 X.sz, .slice A1 m1 l1, .int .i64 X.sg, .int .i64 X.db, .slice A2 m2 l2, .int .i64 X.ov] 40) = w6 at *
            generalize w5.heap.size = g5 at *
            obtain ⟨p0, p1, p2, p3, p4, p5, p6, p7, p8⟩ := HP6.out.cells
            go_wp2_with (at_builtin; refine pushK_law rfl _ _ rfl wl.heap.size w6 u11 lw ⟨X, A1, m1, l1, A2, m2, l2⟩ rfl rfl HWAS6.out.row (by have := HWAS6.out.len; omega) HB6.out.size (fun g7 cap7 w7 h7 t7 a7 => ?_))
            have HWAS7 := Lib.hid (HWAS6.out.push HCW6.out HX9.out h7 t7 a7)
            have HB7 := Lib.hid (HB6.out.trans (t7.below HB6.out.size (fun i hi => (HWAS6.out.row.lt i (ownL_mem.1 hi)).1)))
            clear h7 t7 a7
            go_roundw
            case rel => exact ⟨j + 1, _, h2, by push_cast; rfl, by have h := HWAS7.out; rw [List.length_append] at h; exact h, HB7.out⟩
            case measure => simp only [intOf]; omega
          · have hnlt2 : ¬ (j : Int) < 32 := by omega
            obtain rfl : j = 32 := by omega
            have HX3 := Lib.hid (HX2.out.below hb HX2.out.lt)
            have HY3 := Lib.hid (HY2.out.below hb HY2.out.lt)
            have HSC := Lib.hid (setcard_dv B d q p pd pm K c D V v (cdv o.cd A n nk A' n' nk') o.i o.cd w.heap.size wr (HDV.out.below hb) (HCDW.out.below hb (by omega)) (Nat.le_trans hwl hb.size))
            have HBW3 := Lib.hid (HBW.out.trans (hb.mono HBW.out.size))
            have HCDX := Lib.hid (HCDW.out.below hb (by omega))
            have HWL : Hid (wl.heap.size ≤ wr.heap.size) := hb.size
            clear hwas hb HX2 HY2 HCDW HB2 hj h2
            obtain ⟨e1, e2⟩ := sdE_is o.i o.cd
            cases ho : sdOk o.i o.cd with
            | true =>
              rw [e1 ho] at HSC
              have HO := Lib.hid ho
              clear e1 e2 ho
              obtain ⟨r0, r1, r2, r3, r4, r5, r6, r7, r8⟩ := HX3.out.cells
              go_wp2_with fail
              refine HSC.out.mono ?_
              rintro e w3 ⟨rfl, v3, d3, t3⟩
              have hbl := t3.below (B := w1.heap.size) (Nat.le_trans HW1L.out HWL.out) HOG.out
              have HX4 := Lib.hid (HX3.out.below hbl HXL.out.1)
              have HY4 := Lib.hid (HY3.out.below hbl HXL.out.2)
              have HWAS3 := Lib.hid (HWAS.out.turns t3 HOL.out)
              have HBW4 := Lib.hid (HBW3.out.trans (hbl.mono hs1))
              have HCD4 := Lib.hid (HCDX.out.below hbl hs1)
              have HD3 := Lib.hid d3
              have HW3L : Hid (w1.heap.size ≤ w3.heap.size) := Nat.le_trans (Nat.le_trans HW1L.out HWL.out) t3.size
              have HV1 : Hid ((sdV V o.i o.cd).length = 100) := by
                show _ = _
                unfold sdV
                split
                · rw [List.length_set]; exact HVL.out
                · exact HVL.out
              have HCS := Lib.hid (fun (i : Nat) (hi : i < 32) => crd_set HVW.out (by rw [HVL.out]; omega) (node := o.i) (c := o.cd) i hi)
              clear hbl t3 d3 HX3 HY3 HBW3 HCDX HSC HWAS HWL r0 r1 r2 r3 r4 r5 r6 r7 r8 HVL HVW HBW HDV HOL HOG
              generalize sdV V o.i o.cd = V1 at *
              go_wp2
              go_loopw [16, 17, 18] (fun i _ _ wr => ∃ j : Nat, j ≤ 32 ∧ i = .int .i64 (j : Int) ∧ Below w3.heap.size w3 wr) (fun i _ _ _ => 32 - (intOf i).toNat)
              case atStart => exact ⟨0, by omega, rfl, Below.refl _ _⟩
              case round =>
                obtain ⟨j, hj, rfl, hb⟩ := hrel
                have HB9 := Lib.hid hb
                by_cases h2 : j < 32
                · have hlt2 : (j : Int) < 32 := by omega
                  have x0 : (0 : Int) ≤ (j : Int) := by omega
                  have HCA := Lib.hid (card_dv B d q p pd pm K c D V1 v3 (j : Int) wr (HD3.out.below hb))
                  unfold RetCN at HCA
                  obtain ⟨k1, k2⟩ := HCS.out j h2
                  clear hb hj
                  by_cases hi : (j : Int) = o.i
                  · obtain ⟨k3, k4⟩ := k1 HO.out hi
                    rw [k3, k4] at HCA
                    have hie : ((j : Int) == o.i) = true := by simp [hi]
                    have hin : ((j : Int) != o.i) = false := by simp [hi]
                    clear k1 k2 k3 k4 hi
                    go_wp2_with fail
                    refine HCA.out.mono ?_
                    rintro e w5 ⟨v5, rfl, n5, b5⟩
                    obtain ⟨A1, m1, l1, A2, m2, l2, f1, f2, rfl, i5, s5, bm5, bn5, ft5⟩ := n5
                    have hb5 := HNB.out w5 (.cells #[.int .i64 o.cd.fm, .int .i64 o.cd.kd, .int .i64 o.cd.ln, .int .i64 o.cd.sz, .slice A1 m1 l1, .int .i64 o.cd.sg, .int .i64 o.cd.db, .slice A2 m2 l2, .int .i64 o.cd.ov] 40)
                    have hd5 : CdAt w5 w5.heap.size (cdv o.cd A1 m1 l1 A2 m2 l2) o.cd := ⟨A1, m1, l1, A2, m2, l2, rfl, i5, s5, bm5, bn5, ft5⟩
                    have HD6 := Lib.hid ((hd5.below hb5 (Nat.le_refl _)).more hb5.size)
                    have hb25 := HB9.out.trans (b5.mono HB9.out.size)
                    have HB6 := Lib.hid (hb25.trans (hb5.mono hb25.size))
                    have HP6 : Hid (CdRow (w5.alloc (.cells #[.int .i64 o.cd.fm, .int .i64 o.cd.kd, .int .i64 o.cd.ln, .int .i64 o.cd.sz, .slice A1 m1 l1, .int .i64 o.cd.sg, .int .i64 o.cd.db, .slice A2 m2 l2, .int .i64 o.cd.ov] 40)) w5.heap.size o.cd A1 m1 l1 A2 m2 l2) := CdRow.new w5 o.cd A1 m1 l1 A2 m2 l2
                    clear f1 f2 i5 s5 bm5 bn5 ft5 hb5 hb25 b5 hd5 HB9 HCA
                    go_upto_region 23 with fail
                    generalize w5.alloc (.cells #[.int .i64 o.cd.fm, .int .i64 o.cd.kd, .int .i64 o.cd.ln, .int .i64 o.cd.sz, .slice A1 m1 l1, .int .i64 o.cd.sg, .int .i64 o.cd.db, .slice A2 m2 l2, .int .i64 o.cd.ov] 40) = w6 at *
                    generalize w5.heap.size = g5 at *
                    have HX6 := Lib.hid (HX4.out.below HB6.out HX4.out.lt)
                    have HC6 := Lib.hid ((HCD4.out.below HB6.out (Nat.le_trans hs1 HW3L.out)).more (Nat.le_trans hs1 (Nat.le_trans HW3L.out HB6.out.size)))
                    obtain ⟨p0, p1, p2, p3, p4, p5, p6, p7, p8⟩ := HP6.out.cells
                    obtain ⟨r0, r1, r2, r3, r4, r5, r6, r7, r8⟩ := HX6.out.cells
                    go_wp2_with (go_at_call 26; refine (rsame_any _ _ o.cd o.cd w6.heap.size true w6 (by simp) HD6.out HC6.out (Nat.le_refl _)).mono ?_; rintro e w7 ⟨rfl, b7⟩)
                    go_quiet (fail)
                    go_wp2
                    go_roundw
                    case rel => exact ⟨j + 1, h2, by push_cast; rfl, Lg.Below.drews (HB6.out.trans (b7.mono HB6.out.size)) ⟨_, rfl⟩⟩
                    case measure => simp only [intOf]; omega
                  · rw [k2 (fun _ => hi)] at HCA
                    obtain ⟨X, hX⟩ : ∃ X, X = crdC V (j : Int) := ⟨_, rfl⟩
                    rw [← hX] at HCA
                    generalize crdE V1 (j : Int) = Z at *
                    have hie : ((j : Int) == o.i) = false := by simp [hi]
                    have hin : ((j : Int) != o.i) = true := by simp [hi]
                    have HXE := Lib.hid hX
                    clear k1 k2 hi hX
                    go_wp2_with fail
                    refine HCA.out.mono ?_
                    rintro e w5 ⟨v5, rfl, n5, b5⟩
                    obtain ⟨A1, m1, l1, A2, m2, l2, f1, f2, rfl, i5, s5, bm5, bn5, ft5⟩ := n5
                    have hb5 := HNB.out w5 (.cells #[.int .i64 X.fm, .int .i64 X.kd, .int .i64 X.ln, .int .i64 X.sz, .slice A1 m1 l1, .int .i64 X.sg, .int .i64 X.db, .slice A2 m2 l2, .int .i64 X.ov] 40)
                    have hd5 : CdAt w5 w5.heap.size (cdv X A1 m1 l1 A2 m2 l2) X := ⟨A1, m1, l1, A2, m2, l2, rfl, i5, s5, bm5, bn5, ft5⟩
                    have HD6 := Lib.hid ((hd5.below hb5 (Nat.le_refl _)).more hb5.size)
                    have hb25 := HB9.out.trans (b5.mono HB9.out.size)
                    have HB6 := Lib.hid (hb25.trans (hb5.mono hb25.size))
                    have HP6 : Hid (CdRow (w5.alloc (.cells #[.int .i64 X.fm, .int .i64 X.kd, .int .i64 X.ln, .int .i64 X.sz, .slice A1 m1 l1, .int .i64 X.sg, .int .i64 X.db, .slice A2 m2 l2, .int .i64 X.ov] 40)) w5.heap.size X A1 m1 l1 A2 m2 l2) := CdRow.new w5 X A1 m1 l1 A2 m2 l2
                    clear f1 f2 i5 s5 bm5 bn5 ft5 hb5 hb25 b5 hd5 HB9 HCA
                    go_upto_region 23 with fail
                    generalize w5.alloc (.cells #[.int .i64 X.fm, .int .i64 X.kd, .int .i64 X.ln, .int .i64 X.sz, .slice A1 m1 l1, .int .i64 X.sg, .int .i64 X.db, .slice A2 m2 l2, .int .i64 X.ov] 40) = w6 at *
                    generalize w5.heap.size = g5 at *
                    have HW6 := Lib.hid (HWAS3.out.below HB6.out)
                    obtain ⟨gw, cw, hv11, hcw⟩ := HW6.out.at_ h2
                    have hat := HW6.out.cds j h2
                    have heq := HW6.out.eqs j h2
                    rw [← HXE.out] at heq
                    generalize lw.getD j CW.z = yw at *
                    obtain ⟨yc, yA, yn, yk, yA', yn', yk'⟩ := yw
                    simp only at heq
                    subst heq
                    have HY6 := Lib.hid hat.at_
                    have hlt9 : j < 32 := h2
                    subst hv11
                    have hgw : gw < w6.heap.size := (HW6.out.row.lt gw rfl).2
                    obtain ⟨p0, p1, p2, p3, p4, p5, p6, p7, p8⟩ := HP6.out.cells
                    have s0 : w6.cell? ⟨gw, j * 9, none⟩ = some (.int .i64 yc.fm) := hcw 0 (by omega)
                    have s1 : w6.cell? ⟨gw, j * 9 + 1, none⟩ = some (.int .i64 yc.kd) := hcw 1 (by omega)
                    have s2 : w6.cell? ⟨gw, j * 9 + 2, none⟩ = some (.int .i64 yc.ln) := hcw 2 (by omega)
                    have s3 : w6.cell? ⟨gw, j * 9 + 3, none⟩ = some (.int .i64 yc.sz) := hcw 3 (by omega)
                    have s4 : w6.cell? ⟨gw, j * 9 + 4, none⟩ = some (.slice yA yn yk) := hcw 4 (by omega)
                    have s5 : w6.cell? ⟨gw, j * 9 + 5, none⟩ = some (.int .i64 yc.sg) := hcw 5 (by omega)
                    have s6 : w6.cell? ⟨gw, j * 9 + 6, none⟩ = some (.int .i64 yc.db) := hcw 6 (by omega)
                    have s7 : w6.cell? ⟨gw, j * 9 + 7, none⟩ = some (.slice yA' yn' yk') := hcw 7 (by omega)
                    have s8 : w6.cell? ⟨gw, j * 9 + 8, none⟩ = some (.int .i64 yc.ov) := hcw 8 (by omega)
                    have HSM : Hid (Calls Tryz.prog 26 #[cdv yc A1 m1 l1 A2 m2 l2, cdv yc yA yn yk yA' yn' yk'] w6.drew fun e w' => e = .returned (.bool true) ∧ Below w6.heap.size w6 w') := by
                      have hdw : Below w6.heap.size w6 w6.drew := Lg.Below.drews (Below.refl _ _) ⟨1, rfl⟩
                      exact (rsame_any _ _ yc yc w6.heap.size true w6.drew (by simp) (HD6.out.below hdw (Nat.le_refl _)) (HY6.out.below hdw (Nat.le_refl _)) (Nat.le_refl _)).mono fun e w' h => ⟨h.1, ⟨h.2.os, h.2.tape, h.2.output, h.2.size, h.2.block⟩⟩
                    have HSS : Hid (∀ W : World, Below w6.heap.size w6 W → W.cell? ⟨g5, 0, none⟩ = some (.int .i64 yc.fm) ∧ W.cell? ⟨g5, 1, none⟩ = some (.int .i64 yc.kd) ∧ W.cell? ⟨g5, 2, none⟩ = some (.int .i64 yc.ln) ∧ W.cell? ⟨g5, 3, none⟩ = some (.int .i64 yc.sz) ∧ W.cell? ⟨g5, 4, none⟩ = some (.slice A1 m1 l1) ∧ W.cell? ⟨g5, 5, none⟩ = some (.int .i64 yc.sg) ∧ W.cell? ⟨g5, 6, none⟩ = some (.int .i64 yc.db) ∧ W.cell? ⟨g5, 7, none⟩ = some (.slice A2 m2 l2) ∧ W.cell? ⟨g5, 8, none⟩ = some (.int .i64 yc.ov) ∧ W.cell? ⟨gw, j * 9, none⟩ = some (.int .i64 yc.fm) ∧ W.cell? ⟨gw, j * 9 + 1, none⟩ = some (.int .i64 yc.kd) ∧ W.cell? ⟨gw, j * 9 + 2, none⟩ = some (.int .i64 yc.ln) ∧ W.cell? ⟨gw, j * 9 + 3, none⟩ = some (.int .i64 yc.sz) ∧ W.cell? ⟨gw, j * 9 + 4, none⟩ = some (.slice yA yn yk) ∧ W.cell? ⟨gw, j * 9 + 5, none⟩ = some (.int .i64 yc.sg) ∧ W.cell? ⟨gw, j * 9 + 6, none⟩ = some (.int .i64 yc.db) ∧ W.cell? ⟨gw, j * 9 + 7, none⟩ = some (.slice yA' yn' yk') ∧ W.cell? ⟨gw, j * 9 + 8, none⟩ = some (.int .i64 yc.ov)) := fun W hW => ⟨bcell hW p0 HP6.out.lt, bcell hW p1 HP6.out.lt, bcell hW p2 HP6.out.lt, bcell hW p3 HP6.out.lt, bcell hW p4 HP6.out.lt, bcell hW p5 HP6.out.lt, bcell hW p6 HP6.out.lt, bcell hW p7 HP6.out.lt, bcell hW p8 HP6.out.lt, bcell hW s0 hgw, bcell hW s1 hgw, bcell hW s2 hgw, bcell hW s3 hgw, bcell hW s4 hgw, bcell hW s5 hgw, bcell hW s6 hgw, bcell hW s7 hgw, bcell hW s8 hgw⟩
                    have S0 : Hid (w6.cell? ⟨g5, 0, none⟩ = some (.int .i64 yc.fm) ∧ w6.cell? ⟨g5, 1, none⟩ = some (.int .i64 yc.kd) ∧ w6.cell? ⟨g5, 2, none⟩ = some (.int .i64 yc.ln) ∧ w6.cell? ⟨g5, 3, none⟩ = some (.int .i64 yc.sz) ∧ w6.cell? ⟨g5, 4, none⟩ = some (.slice A1 m1 l1) ∧ w6.cell? ⟨g5, 5, none⟩ = some (.int .i64 yc.sg) ∧ w6.cell? ⟨g5, 6, none⟩ = some (.int .i64 yc.db) ∧ w6.cell? ⟨g5, 7, none⟩ = some (.slice A2 m2 l2) ∧ w6.cell? ⟨g5, 8, none⟩ = some (.int .i64 yc.ov) ∧ w6.cell? ⟨gw, j * 9, none⟩ = some (.int .i64 yc.fm) ∧ w6.cell? ⟨gw, j * 9 + 1, none⟩ = some (.int .i64 yc.kd) ∧ w6.cell? ⟨gw, j * 9 + 2, none⟩ = some (.int .i64 yc.ln) ∧ w6.cell? ⟨gw, j * 9 + 3, none⟩ = some (.int .i64 yc.sz) ∧ w6.cell? ⟨gw, j * 9 + 4, none⟩ = some (.slice yA yn yk) ∧ w6.cell? ⟨gw, j * 9 + 5, none⟩ = some (.int .i64 yc.sg) ∧ w6.cell? ⟨gw, j * 9 + 6, none⟩ = some (.int .i64 yc.db) ∧ w6.cell? ⟨gw, j * 9 + 7, none⟩ = some (.slice yA' yn' yk') ∧ w6.cell? ⟨gw, j * 9 + 8, none⟩ = some (.int .i64 yc.ov)) := HSS.out w6 (Below.refl _ _)
                    clear hcw hat HW6 HXE p0 p1 p2 p3 p4 p5 p6 p7 p8 s0 s1 s2 s3 s4 s5 s6 s7 s8
                    go_wp2_with fail
                    go_region_held3 (fun W => W.cell? ⟨g5, 0, none⟩ = some (.int .i64 yc.fm) ∧ W.cell? ⟨g5, 1, none⟩ = some (.int .i64 yc.kd) ∧ W.cell? ⟨g5, 2, none⟩ = some (.int .i64 yc.ln) ∧ W.cell? ⟨g5, 3, none⟩ = some (.int .i64 yc.sz) ∧ W.cell? ⟨g5, 4, none⟩ = some (.slice A1 m1 l1) ∧ W.cell? ⟨g5, 5, none⟩ = some (.int .i64 yc.sg) ∧ W.cell? ⟨g5, 6, none⟩ = some (.int .i64 yc.db) ∧ W.cell? ⟨g5, 7, none⟩ = some (.slice A2 m2 l2) ∧ W.cell? ⟨g5, 8, none⟩ = some (.int .i64 yc.ov) ∧ W.cell? ⟨gw, j * 9, none⟩ = some (.int .i64 yc.fm) ∧ W.cell? ⟨gw, j * 9 + 1, none⟩ = some (.int .i64 yc.kd) ∧ W.cell? ⟨gw, j * 9 + 2, none⟩ = some (.int .i64 yc.ln) ∧ W.cell? ⟨gw, j * 9 + 3, none⟩ = some (.int .i64 yc.sz) ∧ W.cell? ⟨gw, j * 9 + 4, none⟩ = some (.slice yA yn yk) ∧ W.cell? ⟨gw, j * 9 + 5, none⟩ = some (.int .i64 yc.sg) ∧ W.cell? ⟨gw, j * 9 + 6, none⟩ = some (.int .i64 yc.db) ∧ W.cell? ⟨gw, j * 9 + 7, none⟩ = some (.slice yA' yn' yk') ∧ W.cell? ⟨gw, j * 9 + 8, none⟩ = some (.int .i64 yc.ov))
                      (first | exact S0.out | exact S1.out)
                      (first
                        | (go_at_call 26; go_must (go_fit (HSM.out))
                           rintro e w7 ⟨rfl, b7⟩
                           have S1 : Hid (w7.cell? ⟨g5, 0, none⟩ = some (.int .i64 yc.fm) ∧ w7.cell? ⟨g5, 1, none⟩ = some (.int .i64 yc.kd) ∧ w7.cell? ⟨g5, 2, none⟩ = some (.int .i64 yc.ln) ∧ w7.cell? ⟨g5, 3, none⟩ = some (.int .i64 yc.sz) ∧ w7.cell? ⟨g5, 4, none⟩ = some (.slice A1 m1 l1) ∧ w7.cell? ⟨g5, 5, none⟩ = some (.int .i64 yc.sg) ∧ w7.cell? ⟨g5, 6, none⟩ = some (.int .i64 yc.db) ∧ w7.cell? ⟨g5, 7, none⟩ = some (.slice A2 m2 l2) ∧ w7.cell? ⟨g5, 8, none⟩ = some (.int .i64 yc.ov) ∧ w7.cell? ⟨gw, j * 9, none⟩ = some (.int .i64 yc.fm) ∧ w7.cell? ⟨gw, j * 9 + 1, none⟩ = some (.int .i64 yc.kd) ∧ w7.cell? ⟨gw, j * 9 + 2, none⟩ = some (.int .i64 yc.ln) ∧ w7.cell? ⟨gw, j * 9 + 3, none⟩ = some (.int .i64 yc.sz) ∧ w7.cell? ⟨gw, j * 9 + 4, none⟩ = some (.slice yA yn yk) ∧ w7.cell? ⟨gw, j * 9 + 5, none⟩ = some (.int .i64 yc.sg) ∧ w7.cell? ⟨gw, j * 9 + 6, none⟩ = some (.int .i64 yc.db) ∧ w7.cell? ⟨gw, j * 9 + 7, none⟩ = some (.slice yA' yn' yk') ∧ w7.cell? ⟨gw, j * 9 + 8, none⟩ = some (.int .i64 yc.ov)) := HSS.out w7 b7))
                    all_goals
                      go_wp2
                      go_roundw
                      case rel => exact ⟨j + 1, hlt9, by push_cast; rfl, HB6.out.trans (b7.mono HB6.out.size)⟩
                      case measure => simp only [intOf]; omega
                · have hnlt3 : ¬ (j : Int) < 32 := by omega
                  clear h2 hj
                  have HX5 := Lib.hid (HX4.out.below hb HX4.out.lt)
                  have HY5 := Lib.hid (HY4.out.below hb HY4.out.lt)
                  have HCD5 := Lib.hid (HCD4.out.below hb (Nat.le_trans hs1 HW3L.out))
                  have HBW5 := Lib.hid (HBW4.out.trans (hb.mono HBW4.out.size))
                  have HSR := Lib.hid (setcrown_dv B d q p pd pm K c D V1 v3 o.f o.b o.u wr (HD3.out.below hb))
                  have HOG3 : Hid (∀ j, j ∈ d :: ownL v3 → w1.heap.size ≤ j) := fun j hj => by
                    have h5 : w1.heap.size ≤ B := HGE.out.2.2.2.2.2
                    have h6 := HGE.out.1
                    rcases (HD3.out.below hb).own_ge j hj with e | e <;> omega
                  have HWR : Hid (w1.heap.size ≤ wr.heap.size) := Nat.le_trans HW3L.out hb.size
                  clear hb HB9 HX4 HY4 HCD4 HBW4 HCS HWAS3 HD3
                  cases hk : scOk V1 o.f o.b o.u with
                  | true =>
                    have es : scE V1 o.f o.b o.u = 0 := by unfold scE; rw [hk]; rfl
                    rw [es] at HSR
                    have HCR := Lib.hid (fun (v4 : Value) (W : World) (h : DV W B d q p pd pm K c D (scV V1 o.f o.b o.u) v4) => crown_dv B d q p pd pm K c D (scV V1 o.f o.b o.u) v4 W h)
                    unfold RetCr at HCR
                    obtain ⟨k1, k2, k3, k4⟩ := cr_set (by rw [HV1.out]; omega) hk
                    rw [k1, k2, k3, k4] at HCR
                    clear k1 k2 k3 k4 es hk
                    generalize scV V1 o.f o.b o.u = V2 at *
                    unfold crv at *
                    obtain ⟨y0, y1, y2⟩ := HY5.out.row
                    go_wp2_with fail
                    refine HSR.out.mono ?_
                    rintro e w5 ⟨rfl, v4, d4, t4⟩
                    have hbl := t4.below (B := w1.heap.size) HWR.out HOG3.out
                    have HX6 := Lib.hid (HX5.out.below hbl HXL.out.1)
                    have HY6 := Lib.hid (HY5.out.below hbl HXL.out.2)
                    have HCD6 := Lib.hid (HCD5.out.below hbl hs1)
                    have HBW6 := Lib.hid (HBW5.out.trans (hbl.mono hs1))
                    have HW5L : Hid (w1.heap.size ≤ w5.heap.size) := Nat.le_trans HWR.out t4.size
                    have HC2 := Lib.hid (HCR.out v4 w5 d4)
                    clear hbl t4 d4 HX5 HY5 HCD5 HBW5 HSR y0 y1 y2 HCR
                    go_wp2_with fail
                    refine HC2.out.mono ?_
                    rintro e w6 ⟨rfl, b6⟩
                    have hb6 := HNB.out w6 (.cells #[.int .i64 o.f, .int .i64 o.b, .int .i64 o.u] 36)
                    have HX7 := Lib.hid ((HX6.out.below b6 HX6.out.lt).below hb6 (Nat.lt_of_lt_of_le HX6.out.lt b6.size))
                    have HY7 := Lib.hid ((HY6.out.below b6 HY6.out.lt).below hb6 (Nat.lt_of_lt_of_le HY6.out.lt b6.size))
                    have HZ7 := Lib.hid (KBox.new3 w6 o.f o.b o.u)
                    have hb56 : Below w5.heap.size w5 (w6.alloc (.cells #[.int .i64 o.f, .int .i64 o.b, .int .i64 o.u] 36)) := b6.trans (hb6.mono b6.size)
                    have HCD7 := Lib.hid (HCD6.out.below hb56 (Nat.le_trans hs1 HW5L.out))
                    have HB7 := Lib.hid (HBW6.out.trans (hb56.mono HBW6.out.size))
                    have HB67 : Hid (w5.heap.size ≤ (w6.alloc (.cells #[.int .i64 o.f, .int .i64 o.b, .int .i64 o.u] 36)).heap.size) := hb56.size
                    clear b6 hb6 hb56 HX6 HY6 HCD6 HBW6 HC2
                    go_upto_region 29 with fail
                    generalize w6.alloc (.cells #[.int .i64 o.f, .int .i64 o.b, .int .i64 o.u] 36) = w7 at *
                    generalize w6.heap.size = g6 at *
                    obtain ⟨r0, r1, r2, r3, r4, r5, r6, r7, r8⟩ := HX7.out.cells
                    obtain ⟨y0, y1, y2⟩ := HY7.out.row
                    obtain ⟨q0, q1, q2⟩ := HZ7.out.row
                    have ho2 := HO.out
                    unfold sdOk at ho2
                    simp only [Bool.and_eq_true] at ho2
                    obtain ⟨h0, h1⟩ := Kr.inB_t ho2.1
                    have HRC := Lib.hid ho2.2
                    have h1' : o.i < 32 := by omega
                    clear ho2 h1
                    go_wp2_with (go_at_call 29; refine (rright9_any _ o.cd _ true w7 HRC.out HCD7.out HB7.out.size).mono ?_; rintro e w8 ⟨rfl, b8⟩; obtain ⟨a0, a1, a2⟩ := (HZ7.out.below b8 HZ7.out.lt).row; obtain ⟨c0, c1, c2⟩ := (HY7.out.below b8 HY7.out.lt).row)
                    go_ret
                    exact ⟨by simp, HB7.out.trans (b8.mono HB7.out.size)⟩
                  | false =>
                    have es : scE V1 o.f o.b o.u = 1 := by unfold scE; rw [hk]; rfl
                    rw [es] at HSR
                    have HCR := Lib.hid (fun (v4 : Value) (W : World) (h : DV W B d q p pd pm K c D (scV V1 o.f o.b o.u) v4) => crown_dv B d q p pd pm K c D (scV V1 o.f o.b o.u) v4 W h)
                    unfold RetCr at HCR
                    generalize crF (scV V1 o.f o.b o.u) = F at *
                    generalize crB (scV V1 o.f o.b o.u) = U at *
                    generalize crC (scV V1 o.f o.b o.u) = C at *
                    generalize crE (scV V1 o.f o.b o.u) = E at *
                    clear es hk
                    generalize scV V1 o.f o.b o.u = V2 at *
                    unfold crv at *
                    obtain ⟨y0, y1, y2⟩ := HY5.out.row
                    go_wp2_with fail
                    refine HSR.out.mono ?_
                    rintro e w5 ⟨rfl, v4, d4, t4⟩
                    have hbl := t4.below (B := w1.heap.size) HWR.out HOG3.out
                    have HX6 := Lib.hid (HX5.out.below hbl HXL.out.1)
                    have HY6 := Lib.hid (HY5.out.below hbl HXL.out.2)
                    have HCD6 := Lib.hid (HCD5.out.below hbl hs1)
                    have HBW6 := Lib.hid (HBW5.out.trans (hbl.mono hs1))
                    have HW5L : Hid (w1.heap.size ≤ w5.heap.size) := Nat.le_trans HWR.out t4.size
                    have HC2 := Lib.hid (HCR.out v4 w5 d4)
                    clear hbl t4 d4 HX5 HY5 HCD5 HBW5 HSR y0 y1 y2 HCR
                    go_wp2_with fail
                    refine HC2.out.mono ?_
                    rintro e w6 ⟨rfl, b6⟩
                    have hb6 := HNB.out w6 (.cells #[.int .i64 F, .int .i64 U, .int .i64 C] 36)
                    have HX7 := Lib.hid ((HX6.out.below b6 HX6.out.lt).below hb6 (Nat.lt_of_lt_of_le HX6.out.lt b6.size))
                    have HY7 := Lib.hid ((HY6.out.below b6 HY6.out.lt).below hb6 (Nat.lt_of_lt_of_le HY6.out.lt b6.size))
                    have HZ7 := Lib.hid (KBox.new3 w6 F U C)
                    have hb56 : Below w5.heap.size w5 (w6.alloc (.cells #[.int .i64 F, .int .i64 U, .int .i64 C] 36)) := b6.trans (hb6.mono b6.size)
                    have HCD7 := Lib.hid (HCD6.out.below hb56 (Nat.le_trans hs1 HW5L.out))
                    have HB7 := Lib.hid (HBW6.out.trans (hb56.mono HBW6.out.size))
                    have HB67 : Hid (w5.heap.size ≤ (w6.alloc (.cells #[.int .i64 F, .int .i64 U, .int .i64 C] 36)).heap.size) := hb56.size
                    clear b6 hb6 hb56 HX6 HY6 HCD6 HBW6 HC2
                    go_upto_region 29 with fail
                    generalize w6.alloc (.cells #[.int .i64 F, .int .i64 U, .int .i64 C] 36) = w7 at *
                    generalize w6.heap.size = g6 at *
                    obtain ⟨r0, r1, r2, r3, r4, r5, r6, r7, r8⟩ := HX7.out.cells
                    obtain ⟨y0, y1, y2⟩ := HY7.out.row
                    obtain ⟨q0, q1, q2⟩ := HZ7.out.row
                    have ho2 := HO.out
                    unfold sdOk at ho2
                    simp only [Bool.and_eq_true] at ho2
                    obtain ⟨h0, h1⟩ := Kr.inB_t ho2.1
                    have HRC := Lib.hid ho2.2
                    have h1' : o.i < 32 := by omega
                    clear ho2 h1
                    go_wp2_with (go_at_call 29; refine (rright9_any _ o.cd _ true w7 HRC.out HCD7.out HB7.out.size).mono ?_; rintro e w8 ⟨rfl, b8⟩; obtain ⟨a0, a1, a2⟩ := (HZ7.out.below b8 HZ7.out.lt).row; obtain ⟨c0, c1, c2⟩ := (HY7.out.below b8 HY7.out.lt).row)
                    go_ret
                    exact ⟨by simp, HB7.out.trans (b8.mono HB7.out.size)⟩
            | false =>
              obtain ⟨z1, z2⟩ := e2 ho
              have HO := Lib.hid ho
              clear e1 e2 ho
              generalize sdE o.i o.cd = z at *
              obtain ⟨r0, r1, r2, r3, r4, r5, r6, r7, r8⟩ := HX3.out.cells
              go_wp2_with fail
              refine HSC.out.mono ?_
              rintro e w3 ⟨rfl, v3, d3, t3⟩
              have hbl := t3.below (B := w1.heap.size) (Nat.le_trans HW1L.out HWL.out) HOG.out
              have HX4 := Lib.hid (HX3.out.below hbl HXL.out.1)
              have HY4 := Lib.hid (HY3.out.below hbl HXL.out.2)
              have HWAS3 := Lib.hid (HWAS.out.turns t3 HOL.out)
              have HBW4 := Lib.hid (HBW3.out.trans (hbl.mono hs1))
              have HCD4 := Lib.hid (HCDX.out.below hbl hs1)
              have HD3 := Lib.hid d3
              have HW3L : Hid (w1.heap.size ≤ w3.heap.size) := Nat.le_trans (Nat.le_trans HW1L.out HWL.out) t3.size
              have HV1 : Hid ((sdV V o.i o.cd).length = 100) := by
                show _ = _
                unfold sdV
                split
                · rw [List.length_set]; exact HVL.out
                · exact HVL.out
              have HCS := Lib.hid (fun (i : Nat) (hi : i < 32) => crd_set HVW.out (by rw [HVL.out]; omega) (node := o.i) (c := o.cd) i hi)
              clear hbl t3 d3 HX3 HY3 HBW3 HCDX HSC HWAS HWL r0 r1 r2 r3 r4 r5 r6 r7 r8 HVL HVW HBW HDV HOL HOG
              generalize sdV V o.i o.cd = V1 at *
              go_wp2
              go_loopw [16, 17, 18] (fun i _ _ wr => ∃ j : Nat, j ≤ 32 ∧ i = .int .i64 (j : Int) ∧ Below w3.heap.size w3 wr) (fun i _ _ _ => 32 - (intOf i).toNat)
              case atStart => exact ⟨0, by omega, rfl, Below.refl _ _⟩
              case round =>
                obtain ⟨j, hj, rfl, hb⟩ := hrel
                have HB9 := Lib.hid hb
                by_cases h2 : j < 32
                · have hlt2 : (j : Int) < 32 := by omega
                  have x0 : (0 : Int) ≤ (j : Int) := by omega
                  have HCA := Lib.hid (card_dv B d q p pd pm K c D V1 v3 (j : Int) wr (HD3.out.below hb))
                  unfold RetCN at HCA
                  obtain ⟨k1, k2⟩ := HCS.out j h2
                  clear hb hj
                  rw [k2 (fun h => by rw [HO.out] at h; cases h)] at HCA
                  obtain ⟨X, hX⟩ : ∃ X, X = crdC V (j : Int) := ⟨_, rfl⟩
                  rw [← hX] at HCA
                  generalize crdE V1 (j : Int) = Z at *
                  have HXE := Lib.hid hX
                  clear k1 k2 hX
                  go_wp2_with fail
                  refine HCA.out.mono ?_
                  rintro e w5 ⟨v5, rfl, n5, b5⟩
                  obtain ⟨A1, m1, l1, A2, m2, l2, f1, f2, rfl, i5, s5, bm5, bn5, ft5⟩ := n5
                  have hb5 := HNB.out w5 (.cells #[.int .i64 X.fm, .int .i64 X.kd, .int .i64 X.ln, .int .i64 X.sz, .slice A1 m1 l1, .int .i64 X.sg, .int .i64 X.db, .slice A2 m2 l2, .int .i64 X.ov] 40)
                  have hd5 : CdAt w5 w5.heap.size (cdv X A1 m1 l1 A2 m2 l2) X := ⟨A1, m1, l1, A2, m2, l2, rfl, i5, s5, bm5, bn5, ft5⟩
                  have HD6 := Lib.hid ((hd5.below hb5 (Nat.le_refl _)).more hb5.size)
                  have hb25 := HB9.out.trans (b5.mono HB9.out.size)
                  have HB6 := Lib.hid (hb25.trans (hb5.mono hb25.size))
                  have HP6 : Hid (CdRow (w5.alloc (.cells #[.int .i64 X.fm, .int .i64 X.kd, .int .i64 X.ln, .int .i64 X.sz, .slice A1 m1 l1, .int .i64 X.sg, .int .i64 X.db, .slice A2 m2 l2, .int .i64 X.ov] 40)) w5.heap.size X A1 m1 l1 A2 m2 l2) := CdRow.new w5 X A1 m1 l1 A2 m2 l2
                  clear f1 f2 i5 s5 bm5 bn5 ft5 hb5 hb25 b5 hd5 HB9 HCA
                  go_upto_region 23 with fail
                  generalize w5.alloc (.cells #[.int .i64 X.fm, .int .i64 X.kd, .int .i64 X.ln, .int .i64 X.sz, .slice A1 m1 l1, .int .i64 X.sg, .int .i64 X.db, .slice A2 m2 l2, .int .i64 X.ov] 40) = w6 at *
                  generalize w5.heap.size = g5 at *
                  have HW6 := Lib.hid (HWAS3.out.below HB6.out)
                  obtain ⟨gw, cw, hv11, hcw⟩ := HW6.out.at_ h2
                  have hat := HW6.out.cds j h2
                  have heq := HW6.out.eqs j h2
                  rw [← HXE.out] at heq
                  generalize lw.getD j CW.z = yw at *
                  obtain ⟨yc, yA, yn, yk, yA', yn', yk'⟩ := yw
                  simp only at heq
                  subst heq
                  have HY6 := Lib.hid hat.at_
                  have hlt9 : j < 32 := h2
                  subst hv11
                  have hgw : gw < w6.heap.size := (HW6.out.row.lt gw rfl).2
                  obtain ⟨p0, p1, p2, p3, p4, p5, p6, p7, p8⟩ := HP6.out.cells
                  have s0 : w6.cell? ⟨gw, j * 9, none⟩ = some (.int .i64 yc.fm) := hcw 0 (by omega)
                  have s1 : w6.cell? ⟨gw, j * 9 + 1, none⟩ = some (.int .i64 yc.kd) := hcw 1 (by omega)
                  have s2 : w6.cell? ⟨gw, j * 9 + 2, none⟩ = some (.int .i64 yc.ln) := hcw 2 (by omega)
                  have s3 : w6.cell? ⟨gw, j * 9 + 3, none⟩ = some (.int .i64 yc.sz) := hcw 3 (by omega)
                  have s4 : w6.cell? ⟨gw, j * 9 + 4, none⟩ = some (.slice yA yn yk) := hcw 4 (by omega)
                  have s5 : w6.cell? ⟨gw, j * 9 + 5, none⟩ = some (.int .i64 yc.sg) := hcw 5 (by omega)
                  have s6 : w6.cell? ⟨gw, j * 9 + 6, none⟩ = some (.int .i64 yc.db) := hcw 6 (by omega)
                  have s7 : w6.cell? ⟨gw, j * 9 + 7, none⟩ = some (.slice yA' yn' yk') := hcw 7 (by omega)
                  have s8 : w6.cell? ⟨gw, j * 9 + 8, none⟩ = some (.int .i64 yc.ov) := hcw 8 (by omega)
                  have HSM : Hid (Calls Tryz.prog 26 #[cdv yc A1 m1 l1 A2 m2 l2, cdv yc yA yn yk yA' yn' yk'] w6.drew fun e w' => e = .returned (.bool true) ∧ Below w6.heap.size w6 w') := by
                    have hdw : Below w6.heap.size w6 w6.drew := Lg.Below.drews (Below.refl _ _) ⟨1, rfl⟩
                    exact (rsame_any _ _ yc yc w6.heap.size true w6.drew (by simp) (HD6.out.below hdw (Nat.le_refl _)) (HY6.out.below hdw (Nat.le_refl _)) (Nat.le_refl _)).mono fun e w' h => ⟨h.1, ⟨h.2.os, h.2.tape, h.2.output, h.2.size, h.2.block⟩⟩
                  have HSS : Hid (∀ W : World, Below w6.heap.size w6 W → W.cell? ⟨g5, 0, none⟩ = some (.int .i64 yc.fm) ∧ W.cell? ⟨g5, 1, none⟩ = some (.int .i64 yc.kd) ∧ W.cell? ⟨g5, 2, none⟩ = some (.int .i64 yc.ln) ∧ W.cell? ⟨g5, 3, none⟩ = some (.int .i64 yc.sz) ∧ W.cell? ⟨g5, 4, none⟩ = some (.slice A1 m1 l1) ∧ W.cell? ⟨g5, 5, none⟩ = some (.int .i64 yc.sg) ∧ W.cell? ⟨g5, 6, none⟩ = some (.int .i64 yc.db) ∧ W.cell? ⟨g5, 7, none⟩ = some (.slice A2 m2 l2) ∧ W.cell? ⟨g5, 8, none⟩ = some (.int .i64 yc.ov) ∧ W.cell? ⟨gw, j * 9, none⟩ = some (.int .i64 yc.fm) ∧ W.cell? ⟨gw, j * 9 + 1, none⟩ = some (.int .i64 yc.kd) ∧ W.cell? ⟨gw, j * 9 + 2, none⟩ = some (.int .i64 yc.ln) ∧ W.cell? ⟨gw, j * 9 + 3, none⟩ = some (.int .i64 yc.sz) ∧ W.cell? ⟨gw, j * 9 + 4, none⟩ = some (.slice yA yn yk) ∧ W.cell? ⟨gw, j * 9 + 5, none⟩ = some (.int .i64 yc.sg) ∧ W.cell? ⟨gw, j * 9 + 6, none⟩ = some (.int .i64 yc.db) ∧ W.cell? ⟨gw, j * 9 + 7, none⟩ = some (.slice yA' yn' yk') ∧ W.cell? ⟨gw, j * 9 + 8, none⟩ = some (.int .i64 yc.ov)) := fun W hW => ⟨bcell hW p0 HP6.out.lt, bcell hW p1 HP6.out.lt, bcell hW p2 HP6.out.lt, bcell hW p3 HP6.out.lt, bcell hW p4 HP6.out.lt, bcell hW p5 HP6.out.lt, bcell hW p6 HP6.out.lt, bcell hW p7 HP6.out.lt, bcell hW p8 HP6.out.lt, bcell hW s0 hgw, bcell hW s1 hgw, bcell hW s2 hgw, bcell hW s3 hgw, bcell hW s4 hgw, bcell hW s5 hgw, bcell hW s6 hgw, bcell hW s7 hgw, bcell hW s8 hgw⟩
                  have S0 : Hid (w6.cell? ⟨g5, 0, none⟩ = some (.int .i64 yc.fm) ∧ w6.cell? ⟨g5, 1, none⟩ = some (.int .i64 yc.kd) ∧ w6.cell? ⟨g5, 2, none⟩ = some (.int .i64 yc.ln) ∧ w6.cell? ⟨g5, 3, none⟩ = some (.int .i64 yc.sz) ∧ w6.cell? ⟨g5, 4, none⟩ = some (.slice A1 m1 l1) ∧ w6.cell? ⟨g5, 5, none⟩ = some (.int .i64 yc.sg) ∧ w6.cell? ⟨g5, 6, none⟩ = some (.int .i64 yc.db) ∧ w6.cell? ⟨g5, 7, none⟩ = some (.slice A2 m2 l2) ∧ w6.cell? ⟨g5, 8, none⟩ = some (.int .i64 yc.ov) ∧ w6.cell? ⟨gw, j * 9, none⟩ = some (.int .i64 yc.fm) ∧ w6.cell? ⟨gw, j * 9 + 1, none⟩ = some (.int .i64 yc.kd) ∧ w6.cell? ⟨gw, j * 9 + 2, none⟩ = some (.int .i64 yc.ln) ∧ w6.cell? ⟨gw, j * 9 + 3, none⟩ = some (.int .i64 yc.sz) ∧ w6.cell? ⟨gw, j * 9 + 4, none⟩ = some (.slice yA yn yk) ∧ w6.cell? ⟨gw, j * 9 + 5, none⟩ = some (.int .i64 yc.sg) ∧ w6.cell? ⟨gw, j * 9 + 6, none⟩ = some (.int .i64 yc.db) ∧ w6.cell? ⟨gw, j * 9 + 7, none⟩ = some (.slice yA' yn' yk') ∧ w6.cell? ⟨gw, j * 9 + 8, none⟩ = some (.int .i64 yc.ov)) := HSS.out w6 (Below.refl _ _)
                  clear hcw hat HW6 HXE p0 p1 p2 p3 p4 p5 p6 p7 p8 s0 s1 s2 s3 s4 s5 s6 s7 s8
                  go_wp2_with fail
                  refine wp_region_held_drew (S := (fun W => W.cell? ⟨g5, 0, none⟩ = some (.int .i64 yc.fm) ∧ W.cell? ⟨g5, 1, none⟩ = some (.int .i64 yc.kd) ∧ W.cell? ⟨g5, 2, none⟩ = some (.int .i64 yc.ln) ∧ W.cell? ⟨g5, 3, none⟩ = some (.int .i64 yc.sz) ∧ W.cell? ⟨g5, 4, none⟩ = some (.slice A1 m1 l1) ∧ W.cell? ⟨g5, 5, none⟩ = some (.int .i64 yc.sg) ∧ W.cell? ⟨g5, 6, none⟩ = some (.int .i64 yc.db) ∧ W.cell? ⟨g5, 7, none⟩ = some (.slice A2 m2 l2) ∧ W.cell? ⟨g5, 8, none⟩ = some (.int .i64 yc.ov) ∧ W.cell? ⟨gw, j * 9, none⟩ = some (.int .i64 yc.fm) ∧ W.cell? ⟨gw, j * 9 + 1, none⟩ = some (.int .i64 yc.kd) ∧ W.cell? ⟨gw, j * 9 + 2, none⟩ = some (.int .i64 yc.ln) ∧ W.cell? ⟨gw, j * 9 + 3, none⟩ = some (.int .i64 yc.sz) ∧ W.cell? ⟨gw, j * 9 + 4, none⟩ = some (.slice yA yn yk) ∧ W.cell? ⟨gw, j * 9 + 5, none⟩ = some (.int .i64 yc.sg) ∧ W.cell? ⟨gw, j * 9 + 6, none⟩ = some (.int .i64 yc.db) ∧ W.cell? ⟨gw, j * 9 + 7, none⟩ = some (.slice yA' yn' yk') ∧ W.cell? ⟨gw, j * 9 + 8, none⟩ = some (.int .i64 yc.ov))) (by kernel_rfl) (S0.out) (fun hHeld => ?_)
                  refine wpAnyH_take (i := 0) (oi := { dst := some 98, op := Op.move (Operand.tmp 15), type := 51, pos := _, after := _, guard := none }) (v := ?vf0) rfl (by kernel_rfl) (by kernel_rfl) (by kernel_rfl) (fun _ _ _ h => h) (Or.inl ⟨by rfl, ?hyf0⟩) (by assumption) ?restf0
                  case hyf0 => (intro w hSw; (try dsimp only at hSw); go_simp <;> with_reducible rfl)
                  simp only [Act.put, List.setIfInBounds_toArray, List.set_cons_zero, List.set_cons_succ]
                  refine wpAnyH_take (i := 1) (oi := { dst := some 99, op := Op.binOp BinOp.neq 51 (Operand.tmp 98) (Operand.const (Value.int IntKind.i64 0)) 51, type := 4, pos := _, after := _, guard := none }) (v := ?vf1) rfl (by kernel_rfl) (by kernel_rfl) (by kernel_rfl) (fun _ _ _ h => h) (Or.inl ⟨by rfl, ?hyf1⟩) (by assumption) ?restf1
                  case hyf1 => (intro w hSw; (try dsimp only at hSw); go_simp <;> with_reducible rfl)
                  simp only [Act.put, List.setIfInBounds_toArray, List.set_cons_zero, List.set_cons_succ]
                  refine wpAnyH_take (i := 2) (oi := { dst := some 100, op := Op.move (Operand.tmp 99), type := 4, pos := _, after := _, guard := none }) (v := ?vf2) rfl (by kernel_rfl) (by kernel_rfl) (by kernel_rfl) (fun _ _ _ h => h) (Or.inl ⟨by rfl, ?hyf2⟩) (by assumption) ?restf2
                  case hyf2 => (intro w hSw; (try dsimp only at hSw); go_simp <;> with_reducible rfl)
                  simp only [Act.put, List.setIfInBounds_toArray, List.set_cons_zero, List.set_cons_succ]
                  refine wpAnyH_take (i := 3) (oi := { dst := some 101, op := Op.move (Operand.tmp 16), type := 3, pos := _, after := _, guard := some (2, false) }) rfl (by kernel_rfl) (by kernel_rfl) (by kernel_rfl) (fun _ _ _ h => h) (Or.inr ⟨by rfl, rfl⟩) (by assumption) ?_
                  simp only [Act.put, List.setIfInBounds_toArray, List.set_cons_zero, List.set_cons_succ]
                  refine wpAnyH_take (i := 4) (oi := { dst := some 102, op := Op.move (Operand.tmp 5), type := 3, pos := _, after := _, guard := some (2, false) }) rfl (by kernel_rfl) (by kernel_rfl) (by kernel_rfl) (fun _ _ _ h => h) (Or.inr ⟨by rfl, rfl⟩) (by assumption) ?_
                  simp only [Act.put, List.setIfInBounds_toArray, List.set_cons_zero, List.set_cons_succ]
                  refine wpAnyH_take (i := 5) (oi := { dst := some 103, op := Op.binOp BinOp.neq 3 (Operand.tmp 101) (Operand.tmp 102) 3, type := 4, pos := _, after := _, guard := some (2, false) }) rfl (by kernel_rfl) (by kernel_rfl) (by kernel_rfl) (fun _ _ _ h => h) (Or.inr ⟨by rfl, rfl⟩) (by assumption) ?_
                  simp only [Act.put, List.setIfInBounds_toArray, List.set_cons_zero, List.set_cons_succ]
                  refine wpAnyH_take (i := 6) (oi := { dst := some 104, op := Op.pick (Operand.tmp 100) (Operand.const (Value.bool true)) (Operand.tmp 103), type := 4, pos := _, after := _, guard := none }) (v := ?vf6) rfl (by kernel_rfl) (by kernel_rfl) (by kernel_rfl) (fun _ _ _ h => h) (Or.inl ⟨by rfl, ?hyf6⟩) (by assumption) ?restf6
                  case hyf6 => (intro w hSw; (try dsimp only at hSw); go_simp <;> with_reducible rfl)
                  simp only [Act.put, List.setIfInBounds_toArray, List.set_cons_zero, List.set_cons_succ]
                  refine wpAnyH_take (i := 7) (oi := { dst := some 105, op := Op.move (Operand.tmp 104), type := 4, pos := _, after := _, guard := none }) (v := ?vf7) rfl (by kernel_rfl) (by kernel_rfl) (by kernel_rfl) (fun _ _ _ h => h) (Or.inl ⟨by rfl, ?hyf7⟩) (by assumption) ?restf7
                  case hyf7 => (intro w hSw; (try dsimp only at hSw); go_simp <;> with_reducible rfl)
                  simp only [Act.put, List.setIfInBounds_toArray, List.set_cons_zero, List.set_cons_succ]
                  refine wpAnyH_take (i := 8) (oi := { dst := some 106, op := Op.load 40 (Operand.tmp 17), type := 40, pos := _, after := _, guard := some (7, true) }) (v := ?vf8) rfl (by kernel_rfl) (by kernel_rfl) (by kernel_rfl) (fun _ _ _ h => h) (Or.inl ⟨by rfl, ?hyf8⟩) (by assumption) ?restf8
                  case hyf8 => (intro w hSw; (try dsimp only at hSw); go_simp <;> with_reducible rfl)
                  simp only [Act.put, List.setIfInBounds_toArray, List.set_cons_zero, List.set_cons_succ]
                  refine wpAnyH_take (i := 9) (oi := { dst := some 107, op := Op.move (Operand.tmp 11), type := 61, pos := _, after := _, guard := some (7, true) }) (v := ?vf9) rfl (by kernel_rfl) (by kernel_rfl) (by kernel_rfl) (fun _ _ _ h => h) (Or.inl ⟨by rfl, ?hyf9⟩) (by assumption) ?restf9
                  case hyf9 => (intro w hSw; (try dsimp only at hSw); go_simp <;> with_reducible rfl)
                  simp only [Act.put, List.setIfInBounds_toArray, List.set_cons_zero, List.set_cons_succ]
                  refine wpAnyH_take (i := 10) (oi := { dst := some 108, op := Op.move (Operand.tmp 16), type := 3, pos := _, after := _, guard := some (7, true) }) (v := ?vf10) rfl (by kernel_rfl) (by kernel_rfl) (by kernel_rfl) (fun _ _ _ h => h) (Or.inl ⟨by rfl, ?hyf10⟩) (by assumption) ?restf10
                  case hyf10 => (intro w hSw; (try dsimp only at hSw); go_simp <;> with_reducible rfl)
                  simp only [Act.put, List.setIfInBounds_toArray, List.set_cons_zero, List.set_cons_succ]
                  refine wpAnyH_take (i := 11) (oi := { dst := some 109, op := Op.indexAddr 61 (Operand.tmp 107) (Operand.tmp 108), type := 0, pos := _, after := _, guard := some (7, true) }) (v := ?vf11) rfl (by kernel_rfl) (by kernel_rfl) (by kernel_rfl) (fun _ _ _ h => h) (Or.inl ⟨by rfl, ?hyf11⟩) (by assumption) ?restf11
                  case hyf11 => (intro w hSw; (try dsimp only at hSw); go_simp <;> with_reducible rfl)
                  simp only [Act.put, List.setIfInBounds_toArray, List.set_cons_zero, List.set_cons_succ]
                  refine wpAnyH_take (i := 12) (oi := { dst := some 110, op := Op.load 40 (Operand.tmp 109), type := 40, pos := _, after := _, guard := some (7, true) }) (v := ?vf12) rfl (by kernel_rfl) (by kernel_rfl) (by kernel_rfl) (fun _ _ _ h => h) (Or.inl ⟨by rfl, ?hyf12⟩) (by assumption) ?restf12
                  case hyf12 => (intro w hSw; (try dsimp only at hSw); go_simp <;> with_reducible rfl)
                  simp only [Act.put, List.setIfInBounds_toArray, List.set_cons_zero, List.set_cons_succ]
                  refine wpAnyH_ready (rs := [13]) (by kernel_rfl) (by simp) ?_
                  refine AllReadyH.cons (o := { dst := some 111, op := Op.call { callee := Callee.value (Operand.func 26), args := #[Operand.tmp 106, Operand.tmp 110], argTypes := #[40, 40] }, type := 4, pos := _, after := _, guard := some (7, true) }) rfl (fun K' hK => ?_) AllReadyH.nil
                  go_simp
                  go_fit (HSM.out)
                  rintro e w7 ⟨rfl, b7⟩
                  go_wp2_with fail
                  refine hK.out _ _ (HSS.out w7 b7) (fun hHeld => ?_)
                  clear hK K'
                  refine wpAnyH_take (i := 14) (oi := { dst := some 112, op := Op.unOp UnOp.not 4 (Operand.tmp 111), type := 4, pos := _, after := _, guard := some (7, true) }) (v := ?vf14) rfl (by kernel_rfl) (by kernel_rfl) (by kernel_rfl) (fun _ _ _ h => h) (Or.inl ⟨by rfl, ?hyf14⟩) (by assumption) ?restf14
                  case hyf14 => (intro w hSw; (try dsimp only at hSw); go_simp <;> with_reducible rfl)
                  simp only [Act.put, List.setIfInBounds_toArray, List.set_cons_zero, List.set_cons_succ]
                  refine wpAnyH_take (i := 15) (oi := { dst := some 113, op := Op.pick (Operand.tmp 105) (Operand.tmp 112) (Operand.const (Value.bool false)), type := 4, pos := _, after := _, guard := none }) (v := ?vf15) rfl (by kernel_rfl) (by kernel_rfl) (by kernel_rfl) (fun _ _ _ h => h) (Or.inl ⟨by rfl, ?hyf15⟩) (by assumption) ?restf15
                  case hyf15 => (intro w hSw; (try dsimp only at hSw); go_simp <;> with_reducible rfl)
                  simp only [Act.put, List.setIfInBounds_toArray, List.set_cons_zero, List.set_cons_succ]
                  refine wpAnyH_done (by kernel_rfl) ?_ _
                  all_goals
                    go_wp2
                    go_roundw
                    case rel => exact ⟨j + 1, hlt9, by push_cast; rfl, HB6.out.trans (b7.mono HB6.out.size)⟩
                    case measure => simp only [intOf]; omega
                · have hnlt3 : ¬ (j : Int) < 32 := by omega
                  clear h2 hj
                  have HX5 := Lib.hid (HX4.out.below hb HX4.out.lt)
                  have HY5 := Lib.hid (HY4.out.below hb HY4.out.lt)
                  have HCD5 := Lib.hid (HCD4.out.below hb (Nat.le_trans hs1 HW3L.out))
                  have HBW5 := Lib.hid (HBW4.out.trans (hb.mono HBW4.out.size))
                  have HSR := Lib.hid (setcrown_dv B d q p pd pm K c D V1 v3 o.f o.b o.u wr (HD3.out.below hb))
                  have HOG3 : Hid (∀ j, j ∈ d :: ownL v3 → w1.heap.size ≤ j) := fun j hj => by
                    have h5 : w1.heap.size ≤ B := HGE.out.2.2.2.2.2
                    have h6 := HGE.out.1
                    rcases (HD3.out.below hb).own_ge j hj with e | e <;> omega
                  have HWR : Hid (w1.heap.size ≤ wr.heap.size) := Nat.le_trans HW3L.out hb.size
                  clear hb HB9 HX4 HY4 HCD4 HBW4 HCS HWAS3 HD3
                  cases hk : scOk V1 o.f o.b o.u with
                  | true =>
                    have es : scE V1 o.f o.b o.u = 0 := by unfold scE; rw [hk]; rfl
                    rw [es] at HSR
                    have HCR := Lib.hid (fun (v4 : Value) (W : World) (h : DV W B d q p pd pm K c D (scV V1 o.f o.b o.u) v4) => crown_dv B d q p pd pm K c D (scV V1 o.f o.b o.u) v4 W h)
                    unfold RetCr at HCR
                    obtain ⟨k1, k2, k3, k4⟩ := cr_set (by rw [HV1.out]; omega) hk
                    rw [k1, k2, k3, k4] at HCR
                    clear k1 k2 k3 k4 es hk
                    generalize scV V1 o.f o.b o.u = V2 at *
                    unfold crv at *
                    obtain ⟨y0, y1, y2⟩ := HY5.out.row
                    go_wp2_with fail
                    refine HSR.out.mono ?_
                    rintro e w5 ⟨rfl, v4, d4, t4⟩
                    have hbl := t4.below (B := w1.heap.size) HWR.out HOG3.out
                    have HX6 := Lib.hid (HX5.out.below hbl HXL.out.1)
                    have HY6 := Lib.hid (HY5.out.below hbl HXL.out.2)
                    have HCD6 := Lib.hid (HCD5.out.below hbl hs1)
                    have HBW6 := Lib.hid (HBW5.out.trans (hbl.mono hs1))
                    have HW5L : Hid (w1.heap.size ≤ w5.heap.size) := Nat.le_trans HWR.out t4.size
                    have HC2 := Lib.hid (HCR.out v4 w5 d4)
                    clear hbl t4 d4 HX5 HY5 HCD5 HBW5 HSR y0 y1 y2 HCR
                    go_wp2_with fail
                    refine HC2.out.mono ?_
                    rintro e w6 ⟨rfl, b6⟩
                    have hb6 := HNB.out w6 (.cells #[.int .i64 o.f, .int .i64 o.b, .int .i64 o.u] 36)
                    have HX7 := Lib.hid ((HX6.out.below b6 HX6.out.lt).below hb6 (Nat.lt_of_lt_of_le HX6.out.lt b6.size))
                    have HY7 := Lib.hid ((HY6.out.below b6 HY6.out.lt).below hb6 (Nat.lt_of_lt_of_le HY6.out.lt b6.size))
                    have HZ7 := Lib.hid (KBox.new3 w6 o.f o.b o.u)
                    have hb56 : Below w5.heap.size w5 (w6.alloc (.cells #[.int .i64 o.f, .int .i64 o.b, .int .i64 o.u] 36)) := b6.trans (hb6.mono b6.size)
                    have HCD7 := Lib.hid (HCD6.out.below hb56 (Nat.le_trans hs1 HW5L.out))
                    have HB7 := Lib.hid (HBW6.out.trans (hb56.mono HBW6.out.size))
                    have HB67 : Hid (w5.heap.size ≤ (w6.alloc (.cells #[.int .i64 o.f, .int .i64 o.b, .int .i64 o.u] 36)).heap.size) := hb56.size
                    clear b6 hb6 hb56 HX6 HY6 HCD6 HBW6 HC2
                    go_upto_region 29 with fail
                    generalize w6.alloc (.cells #[.int .i64 o.f, .int .i64 o.b, .int .i64 o.u] 36) = w7 at *
                    generalize w6.heap.size = g6 at *
                    obtain ⟨r0, r1, r2, r3, r4, r5, r6, r7, r8⟩ := HX7.out.cells
                    obtain ⟨y0, y1, y2⟩ := HY7.out.row
                    obtain ⟨q0, q1, q2⟩ := HZ7.out.row
                    by_cases h0 : 0 ≤ o.i
                    · by_cases h1 : o.i < 32
                      · have HRC : Hid (rightC o.cd = false) := by
                          have ho2 := HO.out
                          unfold sdOk at ho2
                          rw [show Kr.inB o.i 0 31 = true by simp [Kr.inB]; omega, Bool.true_and] at ho2
                          exact ho2
                        go_wp2_with (go_at_call 29; refine (rright9_any _ o.cd _ false w7 HRC.out HCD7.out HB7.out.size).mono ?_; rintro e w8 ⟨rfl, b8⟩; obtain ⟨a0, a1, a2⟩ := (HZ7.out.below b8 HZ7.out.lt).row; obtain ⟨c0, c1, c2⟩ := (HY7.out.below b8 HY7.out.lt).row)
                        go_ret
                        exact ⟨by simp, HB7.out.trans (b8.mono HB7.out.size)⟩
                      · skip
                        go_wp2
                        go_ret
                        exact ⟨by simp, HB7.out⟩
                    · skip
                      go_wp2
                      go_ret
                      exact ⟨by simp, HB7.out⟩
                  | false =>
                    have es : scE V1 o.f o.b o.u = 1 := by unfold scE; rw [hk]; rfl
                    rw [es] at HSR
                    have HCR := Lib.hid (fun (v4 : Value) (W : World) (h : DV W B d q p pd pm K c D (scV V1 o.f o.b o.u) v4) => crown_dv B d q p pd pm K c D (scV V1 o.f o.b o.u) v4 W h)
                    unfold RetCr at HCR
                    generalize crF (scV V1 o.f o.b o.u) = F at *
                    generalize crB (scV V1 o.f o.b o.u) = U at *
                    generalize crC (scV V1 o.f o.b o.u) = C at *
                    generalize crE (scV V1 o.f o.b o.u) = E at *
                    clear es hk
                    generalize scV V1 o.f o.b o.u = V2 at *
                    unfold crv at *
                    obtain ⟨y0, y1, y2⟩ := HY5.out.row
                    go_wp2_with fail
                    refine HSR.out.mono ?_
                    rintro e w5 ⟨rfl, v4, d4, t4⟩
                    have hbl := t4.below (B := w1.heap.size) HWR.out HOG3.out
                    have HX6 := Lib.hid (HX5.out.below hbl HXL.out.1)
                    have HY6 := Lib.hid (HY5.out.below hbl HXL.out.2)
                    have HCD6 := Lib.hid (HCD5.out.below hbl hs1)
                    have HBW6 := Lib.hid (HBW5.out.trans (hbl.mono hs1))
                    have HW5L : Hid (w1.heap.size ≤ w5.heap.size) := Nat.le_trans HWR.out t4.size
                    have HC2 := Lib.hid (HCR.out v4 w5 d4)
                    clear hbl t4 d4 HX5 HY5 HCD5 HBW5 HSR y0 y1 y2 HCR
                    go_wp2_with fail
                    refine HC2.out.mono ?_
                    rintro e w6 ⟨rfl, b6⟩
                    have hb6 := HNB.out w6 (.cells #[.int .i64 F, .int .i64 U, .int .i64 C] 36)
                    have HX7 := Lib.hid ((HX6.out.below b6 HX6.out.lt).below hb6 (Nat.lt_of_lt_of_le HX6.out.lt b6.size))
                    have HY7 := Lib.hid ((HY6.out.below b6 HY6.out.lt).below hb6 (Nat.lt_of_lt_of_le HY6.out.lt b6.size))
                    have HZ7 := Lib.hid (KBox.new3 w6 F U C)
                    have hb56 : Below w5.heap.size w5 (w6.alloc (.cells #[.int .i64 F, .int .i64 U, .int .i64 C] 36)) := b6.trans (hb6.mono b6.size)
                    have HCD7 := Lib.hid (HCD6.out.below hb56 (Nat.le_trans hs1 HW5L.out))
                    have HB7 := Lib.hid (HBW6.out.trans (hb56.mono HBW6.out.size))
                    have HB67 : Hid (w5.heap.size ≤ (w6.alloc (.cells #[.int .i64 F, .int .i64 U, .int .i64 C] 36)).heap.size) := hb56.size
                    clear b6 hb6 hb56 HX6 HY6 HCD6 HBW6 HC2
                    go_upto_region 29 with fail
                    generalize w6.alloc (.cells #[.int .i64 F, .int .i64 U, .int .i64 C] 36) = w7 at *
                    generalize w6.heap.size = g6 at *
                    obtain ⟨r0, r1, r2, r3, r4, r5, r6, r7, r8⟩ := HX7.out.cells
                    obtain ⟨y0, y1, y2⟩ := HY7.out.row
                    obtain ⟨q0, q1, q2⟩ := HZ7.out.row
                    by_cases h0 : 0 ≤ o.i
                    · by_cases h1 : o.i < 32
                      · have HRC : Hid (rightC o.cd = false) := by
                          have ho2 := HO.out
                          unfold sdOk at ho2
                          rw [show Kr.inB o.i 0 31 = true by simp [Kr.inB]; omega, Bool.true_and] at ho2
                          exact ho2
                        go_wp2_with (go_at_call 29; refine (rright9_any _ o.cd _ false w7 HRC.out HCD7.out HB7.out.size).mono ?_; rintro e w8 ⟨rfl, b8⟩; obtain ⟨a0, a1, a2⟩ := (HZ7.out.below b8 HZ7.out.lt).row; obtain ⟨c0, c1, c2⟩ := (HY7.out.below b8 HY7.out.lt).row)
                        go_ret
                        exact ⟨by simp, HB7.out.trans (b8.mono HB7.out.size)⟩
                      · skip
                        go_wp2
                        go_ret
                        exact ⟨by simp, HB7.out⟩
                    · skip
                      go_wp2
                      go_ret
                      exact ⟨by simp, HB7.out⟩
set_option maxRecDepth 100000 in
theorem lifted (os : Os) (started : os.Started) (H : Type) (enc : TypeId × Value → H) :
    ReturnsInHanded {} Tryz.checked os 5 .any (Rows.dealCardsSpec.pre6 enc Tryz.prog Tryz.f5 Rows.dealCardsRow.domain false) (Rows.dealCardsSpec.post enc Tryz.prog Tryz.f5 false true false false) := by
  refine returnsInHanded_of_change_sized (C := Tryz.checked) own started (by kernel_rfl) Tryz.func5
    (ChangeSpec.witness6 (enc := enc) (C := Tryz.checked) false ⟨#[], #[.slice none 0 0, .agg #[.int .i64 0, .int .i64 0, .string ⟨#[]⟩, .int .i64 0, .int .i64 0, .int .i64 0, .int .i64 0, .int .i64 0, .int .i64 0, .int .i64 0, .slice none 0 0, .int .i64 0, .int .i64 0, .slice none 0 0, .int .i64 0]], []⟩ 8 (by kernel_rfl) (by kernel_rfl) (by kernel_rfl) (by kernel_rfl)) ?_
  intro W base args ds gs before hval0 hW hcnd hsz0 _
  have hval : ∀ (j : Nat) t v, Tryz.f5.params[j]? = some t → args[j]? = some v → Value.okWide Tryz.prog W .any base t v := hval0
  have hW' := hW
  obtain ⟨p, q, hA0, hV, rfl, hfz, hnd⟩ := hW
  have hA : DataW.TrodAll enc Tryz.prog W 0 (fun _ => true) true Tryz.f5.params.toList args.toList ds p := hA0
  rw [Tryz.params5] at hA hval
  obtain ⟨v0, vs0, d0, ds0, p0, q0, hargs, rfl, rfl, h0, r0⟩ := trodAll_cons hA
  obtain ⟨v1, vs1, d1, ds1, p1, q1, rfl, rfl, rfl, h1, r1⟩ := trodAll_cons r0
  obtain ⟨rfl, rfl, rfl⟩ := trodAll_nil r1
  obtain rfl : args = #[v0, v1] := by cases args; simp_all
  obtain ⟨rfl, rfl⟩ := trodVars_none hV
  have lt0 : ∀ x ∈ p0, x.block < W.heap.size := by obtain ⟨m, hm⟩ := h0; exact DataW.trod_lt m _ _ _ hm
  obtain ⟨a0, len0, cap0, rfl⟩ := okWide_slice Tryz.underlying22 (hval 0 22 v0 rfl rfl)
  obtain ⟨l0, w0⟩ := ops_open h0
  have lt1 : ∀ x ∈ p1, x.block < W.heap.size := by obtain ⟨m, hm⟩ := h1; exact DataW.trod_lt m _ _ _ hm
  obtain ⟨o1, -, w1⟩ := op_open (hval 1 42 v1 rfl rfl) h1
  clear hA0 hval0
  refine (walk a0 len0 cap0 l0 o1 W w0 w1).mono fun e W' ⟨he, bel⟩ => ?_
  subst he
  exact ⟨_, rfl, _, _, _, [], _, [], hW', trodAll_mk1 (shut_bool Tryz.underlying4 _), (trodAll_cons_mk (Below.trod laidOut (by kernel_rfl) (of_decide_eq_true (by kernel_rfl)) h0 bel lt0) (trodAll_cons_mk (Below.trod laidOut (by kernel_rfl) (of_decide_eq_true (by kernel_rfl)) h1 bel lt1) trodAll_mk0)), rfl, bel.frame _, fun h => by cases h⟩

theorem over : Rows.dealCardsRow.holds Tryz.pinned (OpenSpec.ofChange Rows.dealCardsSpec) :=
  OpenClaim.holds_of_wide 5 Tryz.f5 rfl rfl rfl rfl rfl rfl rfl ⟨rfl, rfl, rfl, rfl, rfl⟩ rfl rfl rfl rfl rfl (by kernel_rfl) Tryz.func5 (by kernel_rfl)
    (of_decide_eq_true (by kernel_rfl)) (by unfold Func.isWrapper; first | (rw [if_pos (by decide +kernel)]; kernel_rfl) | (rw [if_neg (by decide +kernel)]; exact ⟨rfl, rfl⟩))
    (fun os started H enc _ => lifted os started H enc)

end Go.Proofs.YtapjbffhihhnbaaGreat.Dl.dealCards
namespace Go.Proofs.YtapjbffhihhnbaaGreat
theorem dealCards_proved : Rows.DealCardsSaid := Dl.dealCards.over
#print axioms dealCards_proved
end Go.Proofs.YtapjbffhihhnbaaGreat
