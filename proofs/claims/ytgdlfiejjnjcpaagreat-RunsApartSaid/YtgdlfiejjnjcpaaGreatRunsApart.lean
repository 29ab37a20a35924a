/-
  LAW RunsApart: for every two lists of maps that are saved in turn in two files of one deal: each file is loaded as it was saved last. No condition.
-/
import Derived.Test.YtgdlfiejjnjcpaaGreatHO
import Derived.Test.YtgdlfiejjnjcpaaGreatIA
import Derived.Deep.LoopGhost
import Derived.Deep.CutRange
import Derived.BigQuiet
set_option linter.unusedVariables false
set_option linter.unusedSimpArgs false
set_option maxRecDepth 100000
set_option maxHeartbeats 16000000
namespace Go.Proofs.YtgdlfiejjnjcpaaGreat.Dl.runsApart
open Go.ChangeShapes Go.WideShapes Go.ChangeAt Go.RowKit
open Go.ChangeMaps (open_string shut_string)
open Mk
open Sl (Turns SlabAt)
open Lg (FS LogAt Whole newD newD_len newD_whole newD_get)
open Kr (crv rightK blockK kf kb kc KBox cells3 I64 inB marksK bit_marks marks_size)
open La (own laidOut lists_open)

section
variable {α : Type} {a b c x : α} {E F R S T : List α}
theorem perm4 (h : x ∈ c :: a :: ((T ++ S) ++ (F ++ E))) : x ∈ a :: c :: ((S ++ T) ++ (E ++ F)) := by
  simp only [List.mem_cons, List.mem_append] at h ⊢
  rcases h with h | h | (h | h) | (h | h) <;> simp [h]
theorem subC (h : x ∈ a :: (E ++ R)) : x ∈ E ++ (a :: R) := by
  simp only [List.mem_cons, List.mem_append] at h ⊢
  rcases h with h | h | h <;> simp [h]
theorem subX (h : x ∈ c :: (E ++ R)) : x ∈ a :: (E ++ (c :: R)) := by
  simp only [List.mem_cons, List.mem_append] at h ⊢
  rcases h with h | h | h <;> simp [h]
end
theorem room {fr l1 l2 nd : Nat} (h : fr + l1 + l2 = 349) (h2 : l2 ≤ 6) (h3 : nd ≤ 6) : nd ≤ fr + l1 := by omega
theorem count {fr f2 l1 l2 l3 nd : Nat} (h : fr + l1 + l2 = 349) (h2 : f2 + nd = fr + l1) (h3 : l3 = nd) : f2 + l3 + l2 = 349 := by omega
section
variable {w0 w w' : World} {B d q p pd pm k c : Nat} {F F' : Bxs} {N : Nat} {D V : List ByteArray}
theorem Dk_sub (h : Dk w0 w B d q p pd pm k c F N D V) (hs : ∀ x, x ∈ F' → x ∈ F) : Dk w0 w B d q p pd pm k c F' N D V := ⟨h.ex, h.hN, fun z hz => h.fx z (hs z hz), h.hb, h.hd, h.hB⟩
end
/-- two files beside each other in a deal; v1, v2: the maps that they were saved with. -/
def St2 (w wr : World) (B d q p pd pm c1 c2 : Nat) (v1 v2 : Value) : Prop :=
  ∃ (V : List ByteArray) (m : ByteArray) (Q1 : Option Addr) (j1 p1 : Nat) (z1 : List Int) (o1 : Int) (L1 : List Int) (S1 E1 : Bxs) (Q2 : Option Addr) (j2 p2 : Nat) (z2 : List Int) (o2 : Int) (L2 : List Int) (S2 E2 : Bxs),
    Dk w wr B d q p pd pm 0 0 (cbox c1 Q1 j1 p1 z1 o1 :: cbox c2 Q2 j2 p2 z2 o2 :: ((S1 ++ S2) ++ (E1 ++ E2))) 400 (newD 400) V ∧ Crd V 400 m ∧ FlAt V 400 m z1 o1 L1 ∧ FlAt V 400 m z2 o2 L2 ∧ (∀ x, x ∈ L1 → x ∉ L2) ∧ fcn m 400 + L1.length + L2.length = 349 ∧ KpI E1 v1 z1 ∧ KpI E2 v2 z2 ∧ (z1.length ≤ 200 ∧ z2.length ≤ 200) ∧ (∀ y, y ∈ E1 ++ E2 → y.1 ≠ c1 ∧ y.1 ≠ c2) ∧ KpC S1 Q1 j1 p1 z1 ∧ KpC S2 Q2 j2 p2 z2 ∧ (∀ y, y ∈ S1 ++ S2 → y.2.2 = 85)
section
variable {w wr wr' : World} {B d q p pd pm c1 c2 : Nat} {v1 v2 : Value}
theorem St2.swap (h : St2 w wr B d q p pd pm c1 c2 v1 v2) : St2 w wr B d q p pd pm c2 c1 v2 v1 := by
  obtain ⟨V, m, Q1, j1, p1, z1, o1, L1, S1, E1, Q2, j2, p2, z2, o2, L2, S2, E2, hd, hc, f1, f2, hl, hn, k1, k2, hz, he, y1, y2, hy⟩ := h
  exact ⟨V, m, Q2, j2, p2, z2, o2, L2, S2, E2, Q1, j1, p1, z1, o1, L1, S1, E1, Dk_sub hd (fun x hx => perm4 hx), hc, f2, f1, fun x hx h' => hl x h' hx, by omega, k2, k1, ⟨hz.2, hz.1⟩, (fun y hy => by
    have := he y (List.mem_append.2 (List.mem_append.1 hy).symm)
    exact ⟨this.2, this.1⟩), y2, y1, fun y h' => hy y (List.mem_append.2 (List.mem_append.1 h').symm)⟩
theorem St2.below (h : St2 w wr B d q p pd pm c1 c2 v1 v2) (hb : Below wr.heap.size wr wr') : St2 w wr' B d q p pd pm c1 c2 v1 v2 := by
  obtain ⟨V, m, Q1, j1, p1, z1, o1, L1, S1, E1, Q2, j2, p2, z2, o2, L2, S2, E2, hd, h⟩ := h
  exact ⟨V, m, Q1, j1, p1, z1, o1, L1, S1, E1, Q2, j2, p2, z2, o2, L2, S2, E2, hd.below hb, h⟩
theorem St2.hb (h : St2 w wr B d q p pd pm c1 c2 v1 v2) : Below w.heap.size w wr := by
  obtain ⟨V, m, Q1, j1, p1, z1, o1, L1, S1, E1, Q2, j2, p2, z2, o2, L2, S2, E2, hd, h⟩ := h
  exact hd.hb
/-- the second file stays as it is when the first is saved. -/
theorem saved2 {V V' : List ByteArray} {m m' : ByteArray} {z2 : List Int} {o2 : Int} {L1 L2 L3 : List Int} (f2 : FlAt V 400 m z2 o2 L2) (hl : ∀ x, x ∈ L1 → x ∉ L2) (hk : ∀ i : Int, 51 ≤ i → bitN m i.toNat = true → i ∉ L1 → bitN m' i.toNat = true ∧ i ∉ L3 ∧ bA V' i = bA V i) : FlAt V' 400 m' z2 o2 L2 ∧ ∀ x, x ∈ L3 → x ∉ L2 := by
  have hK : ∀ x, x ∈ L2 → bitN m' x.toNat = true ∧ x ∉ L3 ∧ bA V' x = bA V x := fun x hx => hk x (f2.fl.us x hx).1 (f2.fl.us x hx).2.2 (fun h => hl x h hx)
  exact ⟨⟨f2.fl.keep (fun x hx => (hK x hx).2.2) (fun x hx => (hK x hx).1), f2.pt, f2.sm, f2.ln, f2.b2⟩, fun x hx h2 => (hK x h2).2.1 hx⟩
/-- behind the first file's save, its card's box written and its map kept. -/
theorem St2.done {V : List ByteArray} {m : ByteArray} {Q1 : Option Addr} {j1 p1 : Nat} {z1 : List Int} {o1 : Int} {L1 : List Int} {S1 En E1 E5 : Bxs} {Q2 : Option Addr} {j2 p2 : Nat} {z2 : List Int} {o2 : Int} {L2 : List Int} {S2 E2 : Bxs} {n : Nat} (hd : Dk w wr B d q p pd pm 0 0 (cbox c1 Q1 j1 p1 z1 o1 :: (En ++ (cbox c2 Q2 j2 p2 z2 o2 :: ((S1 ++ S2) ++ (E1 ++ E2))))) 400 (newD 400) V) (hc : Crd V 400 m) (f1 : FlAt V 400 m z1 o1 L1) (f2 : FlAt V 400 m z2 o2 L2) (hl : ∀ x, x ∈ L1 → x ∉ L2) (hn : fcn m 400 + L1.length + L2.length = 349) (hE : Bxs.fit E5 wr) (k1 : KpI E5 v1 z1) (k2 : KpI E2 v2 z2) (hz : z1.length ≤ 200) (hz2 : z2.length ≤ 200) (he : ∀ y, y ∈ E1 ++ E2 → y.1 ≠ c1 ∧ y.1 ≠ c2) (h5 : ∀ y ∈ E5, n ≤ y.1) (hn1 : c1 < n) (hn2 : c2 < n) (y1 : KpC En Q1 j1 p1 z1) (y2 : KpC S2 Q2 j2 p2 z2) (t1 : ∀ y ∈ En, y.2.2 = 85) (t2 : ∀ y, y ∈ S1 ++ S2 → y.2.2 = 85) : St2 w wr B d q p pd pm c1 c2 v1 v2 := by
  refine ⟨V, m, Q1, j1, p1, z1, o1, L1, En, E5, Q2, j2, p2, z2, o2, L2, S2, E2, ⟨hd.ex, hd.hN, fun x hx => ?_, hd.hb, hd.hd, hd.hB⟩, hc, f1, f2, hl, hn, k1, k2, ⟨hz, hz2⟩, (fun y hy => ?_), y1, y2, fun y hy => ?_⟩
  · by_cases h : x ∈ E5
    · exact hE x h
    · refine hd.fx x ?_
      simp only [List.mem_cons, List.mem_append] at hx ⊢
      rcases hx with e | e | (e | e) | (e | e)
      · simp [e]
      · simp [e]
      · simp [e]
      · simp [e]
      · exact absurd e h
      · simp [e]
  · rcases List.mem_append.1 hy with e | e
    · have := h5 y e
      exact ⟨by omega, by omega⟩
    · exact he y (List.mem_append_right _ e)
  · rcases List.mem_append.1 hy with e | e
    · exact t1 y e
    · exact t2 y (List.mem_append_right _ e)
end
theorem whole_same {wa wb : World} {g1 g2 : Nat} {ms : List Int} (h1 : MRow wa g1 (whole ms)) (hb : Below wa.heap.size wa wb) (h2 : Lg.IntRow wb g2 (whole ms)) (hf : ∀ z ∈ whole ms, Fit z) :
    Calls Tryz.prog 15 #[.slice (some ⟨g1, 0, none⟩) 120 120, .slice (some ⟨g2, 0, none⟩) 120 120] wb fun e w' => e = .returned (.bool true) ∧ Below wb.heap.size wb w' :=
  (rsame_ints _ _ _ _ _ _ wb.heap.size wb.heap.size _ _ true wb (by simp) (whole_ints (h1.below hb (Nat.le_refl _))) (row_ints h2 hf (whole_len _)) (by omega) (by omega)).mono fun e w' ⟨he, hd⟩ => ⟨he, Lg.Below.drews (Below.refl _ _) hd⟩

theorem walk (a1 : Option Addr) (len1 cap1 : Nat) (l1 : List (Option (List Int))) (a2 : Option Addr) (len2 cap2 : Nat) (l2 : List (Option (List Int))) (w : World) (h1 : La.ListsAt w w.heap.size a1 len1 l1) (h2 : La.ListsAt w w.heap.size a2 len2 l2) :
    Calls Tryz.prog 5 #[.slice a1 len1 cap1, .slice a2 len2 cap2] w fun e w' => e = .returned (.bool true) ∧ Below w.heap.size w w' := by
  have HLV := Lib.hid (lives15_any w)
  have HBG := Lib.hid (fun W => begin15_any 400 W (by omega) (by omega))
  unfold RetBg at HBG
  simp only [show ((400 : Nat) : Int) = 400 from rfl] at HBG
  have HFR := Lib.hid fresh_any
  rw [frC_is] at HFR
  have HLS1 := Lib.hid h1
  have HLS2 := Lib.hid h2
  have HIN := Lib.hid (fun W A k cp Bz zs hA hB => inside_any 400 A k cp Bz zs W hA hB (by omega) (by omega))
  simp only [show ((400 : Nat) : Int) = 400 from rfl] at HIN
  have HP : Hid (∀ zs, ptsOk ((400 : Nat) : Int) (inzL 400 zs) = true) := fun zs => inzL_ok (n := 400) (by omega) zs
  have HCR := Lib.hid (V0_crd (n := 400) (by omega) (by omega))
  have HFN := Lib.hid (FlAt.new (b := 400) (V0 400) (marksK (400 : Nat)) (by omega))
  clear h1 h2
  go_enter Tryz.func5, Tryz.ntmps5
  go_upto_region 7 with (first
    | (go_at_call 7; refine HLV.out.mono ?_; rintro e w1 ⟨rfl, b1⟩; have HB1 := Lib.hid b1; clear b1)
    | (go_at_call 8; refine (HBG.out w1).mono ?_; rintro e w2 ⟨B, d, q, p, pd, pm, rfl, d2⟩; have HD2 := Lib.hid (d2.from HB1.out); clear d2)
    | (go_at_call 9; have hrow := HD3; refine (HFR.out w3).mono ?_; rintro e w4 ⟨rfl, b4⟩
       have HD4 := Lib.hid (HD3.out.below b4)
       clear b4 hrow)
    | (go_at_call 9; refine (HFR.out w2).mono ?_; rintro e w3 ⟨rfl, b3⟩
       have HD3 := Lib.hid (HD2.out.below b3)
       clear b3))
  have hHD0 : Hid (St2 w ((w4.alloc (.cells (cells9 (mkC [] 0) none 0 0 none 0 0) 30)).alloc (.cells (cells9 (mkC [] 0) none 0 0 none 0 0) 30)) B d q p pd pm w4.heap.size (w4.heap.size + 1) (.slice none 0 0) (.slice none 0 0)) := by
    have ha1 := (Below.refl w4.heap.size w4).alloc (Nat.le_refl _) (.cells (cells9 (mkC [] 0) none 0 0 none 0 0) 30)
    have hd6 := (HD4.out.below ha1).add (show _ = _ from CdRow.new w4 (mkC [] 0) none 0 0 none 0 0) (by decide)
    have ha2 := (Below.refl (w4.alloc (.cells (cells9 (mkC [] 0) none 0 0 none 0 0) 30)).heap.size (w4.alloc (.cells (cells9 (mkC [] 0) none 0 0 none 0 0) 30))).alloc (Nat.le_refl _) (.cells (cells9 (mkC [] 0) none 0 0 none 0 0) 30)
    have hd7 := (hd6.below ha2).add (show _ = _ from CdRow.new (w4.alloc (.cells (cells9 (mkC [] 0) none 0 0 none 0 0) 30)) (mkC [] 0) none 0 0 none 0 0) (by decide)
    rw [show (w4.alloc (.cells (cells9 (mkC [] 0) none 0 0 none 0 0) 30)).heap.size = w4.heap.size + 1 by simp] at hd7
    exact ⟨V0 400, marksK (400 : Nat), none, 0, 0, [], 0, [], [], [], none, 0, 0, [], 0, [], [], [], Dk_sub hd7 (fun x hx => by
      simp only [List.mem_cons, List.append_nil, List.not_mem_nil, or_false] at hx ⊢
      rcases hx with h | h <;> simp [h]), HCR.out, HFN.out, HFN.out, (fun x hx => by cases hx), (by show _ = _; rw [show (([] : List Int).length) = 0 from rfl, fcn_new 400 (by omega) 349 (by omega)]), KpI.nil, KpI.nil, ⟨by decide, by decide⟩, (fun y hy => by cases hy), KpC.new, KpC.new, (fun y hy => by cases hy)⟩
  have HBM0 : Hid (B ≤ w4.heap.size) := HD4.out.hBs
  have HBM1 : Hid (B ≤ w4.heap.size + 1) := Nat.le_succ_of_le HBM0.out
  have HNE : Hid (w4.heap.size ≠ w4.heap.size + 1) := Nat.ne_of_lt (Nat.lt_succ_self _)
  have HSTA := hHD0
  unfold cells9 at HSTA
  clear HD4 HD3 HD2 HBG HFR HLV hHD0 HCR HFN
  generalize World.alloc _ _ = w5 at *
  generalize hcb0 : w4.heap.size = cb0 at *
  generalize hcb1 : cb0 + 1 = cb1 at *
  clear hcb0 hcb1
  go_wp2_with fail
  go_loopg [8, 9, 10] 8 (fun kx va vb i wr => ∃ t : Nat, t ≤ 8 ∧ 8 - t ≤ kx ∧ i = .int .i64 (t : Int) ∧ Hid (St2 w wr B d q p pd pm cb0 cb1 va vb))
  case atStart => exact ⟨0, by omega, by omega, rfl, HSTA.out⟩
  case round =>
    obtain ⟨t, ht, hkx, rfl, HST⟩ := hrel
    by_cases hgo : t < 8 ∧ (t < len1 ∨ t < len2)
    · obtain ⟨h8, hor⟩ := hgo
      have h8' : (t : Int) < 8 := by omega
      go_upto_region 9 with fail
      go_cut [39] from 26 to 119 (fun v wx => v = .bool true ∧ wx = wr)
      case first =>
        by_cases hA : t < len1
        · have hA' : (t : Int) < (len1 : Int) := by omega
          go_wp2_with fail
          go_meet
          case rel => exact ⟨rfl, rfl⟩
        · have hA' : ¬ (t : Int) < (len1 : Int) := by omega
          have hB' : (t : Int) < (len2 : Int) := by omega
          go_wp2_with fail
          go_meet
          case rel => exact ⟨rfl, rfl⟩
      case rest =>
        obtain ⟨hv39, hw39⟩ := hcut
        subst hv39
        subst hw39
        obtain ⟨w6, hw6⟩ : ∃ x : World, x = wc := ⟨_, rfl⟩
        subst hw6
        go_upto_if 45 with (fail)
        go_cut [8, 11, 12] from 26 to 119 (fun vA _ _ wx => Hid (St2 w wx B d q p pd pm cb0 cb1 vA u9))
        case first =>
          by_cases g1 : t < len1
          · have g1' : (t : Int) < (len1 : Int) := by omega
            have gw : IntKind.i64.wrap (t : Int) = (t : Int) := IntWalk.i64_in _ (by omega)
            obtain ⟨bb, o, u, hae, hbB, hu, hl⟩ := HLS1.out.2 t g1
            subst hae
            obtain ⟨Am, cm, rfl, hcm, him, _⟩ := hl.read
            have HIN2 := Lib.hid (fun W (hW : Below w.heap.size w W) => HIN.out W Am _ cm w.heap.size _ (him.below hW (Nat.le_refl _)) hW.size)
            have HPM := Lib.hid (HP.out ((l1.getD t none).getD []))
            have HML := Lib.hid (inzL_len 400 ((l1.getD t none).getD []))
            have HU := Lib.hid hu
            generalize inzL 400 ((l1.getD t none).getD []) = ms at *
            generalize ((l1.getD t none).getD []).length = lm at *
            have HMF := Lib.hid (pts_fit (by omega) HPM.out)
            have HBB := Lib.hid hbB
            clear hl him hu hcm hbB
            obtain ⟨V, m, Q, jj, pp, zs, ov, L, SS, ES, Qo, jo, po, zo, oo, Lo, SO, EO, hd0, hcd, hfs, hfo, hdj, hct, hks, hko, hzz, hee, hkc, hkd, htg⟩ := HST.out
            obtain ⟨R, hR⟩ : ∃ R : Bxs, R = cbox cb1 Qo jo po zo oo :: ((SS ++ SO) ++ (ES ++ EO)) := ⟨_, rfl⟩
            have HSS : Hid (∀ x ∈ SS, x ∈ R) := fun x hx => by rw [hR]; simp [hx]
            have HRN : Hid (∀ z, z ∈ R → z.1 ≠ cb0) := fun z hz => by
              rw [hR] at hz
              rcases List.mem_cons.1 hz with e | e
              · rw [e]; exact HNE.out.symm
              · rcases List.mem_append.1 e with e | e
                · exact tags_ne (hd0.fx.sub fun x hx => List.mem_cons_of_mem _ (List.mem_cons_of_mem _ (List.mem_append_left _ hx))) htg (hd0.fx (cbox cb0 Q jj pp zs ov) (by simp)).1 z e
                · exact (hee z e).1
            rw [← hR] at hd0
            have HR := Lib.hid hR
            have HFS := Lib.hid hfs
            have HFO := Lib.hid hfo
            have HDJ := Lib.hid hdj
            have HCT := Lib.hid hct
            have HKS := Lib.hid hks
            have HKO := Lib.hid hko
            have HZZ := Lib.hid hzz
            have HEE := Lib.hid hee
            have HKC := Lib.hid hkc
            have HKD := Lib.hid hkd
            have HTG := Lib.hid htg
            clear hR hfs hfo hdj hct hks hko hzz hee hkc hkd htg
            have HD6 : Hid (Dk w (w6) B d q p pd pm 0 0 ((cb0, cells9 (mkC zs ov) none 0 0 Q jj pp, (30 : TypeId)) :: R) 400 (newD 400) V) := hd0
            have HCD := Lib.hid hcd
            have HSZ : Hid (B ≤ w6.heap.size) := hd0.hBs
            have HRL : Hid (∀ z, z ∈ (cb0, cells9 (mkC zs ov) none 0 0 Q jj pp, (30 : TypeId)) :: R → z.1 < w6.heap.size) := fun z hz => hd0.fx.lt hz
            have HZN : Hid (∀ W : World, CdRow (W.alloc (.cells #[.int .i64 0, .int .i64 0, .int .i64 0, .int .i64 0, .slice none 0 0, .int .i64 0, .int .i64 0, .slice none 0 0, .int .i64 0] 30)) W.heap.size zeroC none 0 0 none 0 0) := fun W => CdRow.new W zeroC none 0 0 none 0 0
            have HAL : Hid (∀ (W : World) o, Below W.heap.size W (W.alloc o)) := fun W o => (Below.refl _ _).alloc (Nat.le_refl _) _
            have HEQ : Hid (∀ W F' V', Dk w W B d q p pd pm 0 0 F' 400 (newD 400) V' → (cb0, cells9 (mkC zs ov) none 0 0 Q jj pp, (30 : TypeId)) ∈ F' → (W).cell? ⟨cb0, 0, none⟩ = some (.int .i64 2) ∧ (W).cell? ⟨cb0, 1, none⟩ = some (.int .i64 1) ∧ (W).cell? ⟨cb0, 2, none⟩ = some (.int .i64 1) ∧ (W).cell? ⟨cb0, 3, none⟩ = some (.int .i64 0) ∧ (W).cell? ⟨cb0, 4, none⟩ = some (.slice none 0 0) ∧ (W).cell? ⟨cb0, 5, none⟩ = some (.int .i64 0) ∧ (W).cell? ⟨cb0, 6, none⟩ = some (.int .i64 0) ∧ (W).cell? ⟨cb0, 7, none⟩ = some (.slice Q jj pp) ∧ (W).cell? ⟨cb0, 8, none⟩ = some (.int .i64 ov) ∧ (W).cell? ⟨bb, o + t, none⟩ = some (.slice Am lm cm)) := fun W F' V' hd hm => by
              obtain ⟨e0, e1, e2, e3, e4, e5, e6, e7, e8⟩ := (crow_mem hd.fx hm).cells
              exact ⟨e0, e1, e2, e3, e4, e5, e6, e7, e8, (hd.hb.cell HBB.out).trans HU.out⟩
            have HD6d : Hid (Dk w (w6.drew) B d q p pd pm 0 0 ((cb0, cells9 (mkC zs ov) none 0 0 Q jj pp, (30 : TypeId)) :: R) 400 (newD 400) V) := HD6.out.below (Below.refl w6.heap.size w6).drew
            have HBd : Hid (Below w.heap.size w w6.drew) := HD6d.out.hb
            have HBa : Hid (Below w.heap.size w (w6.alloc (.cells #[.int .i64 0, .int .i64 0, .int .i64 0, .int .i64 0, .slice none 0 0, .int .i64 0, .int .i64 0, .slice none 0 0, .int .i64 0] 30)).drew) := (HD6.out.hb.alloc HD6.out.hb.size _).drew
            have HD6a : Hid (Dk w ((w6.alloc (.cells #[.int .i64 0, .int .i64 0, .int .i64 0, .int .i64 0, .slice none 0 0, .int .i64 0, .int .i64 0, .slice none 0 0, .int .i64 0] 30)).drew) B d q p pd pm 0 0 ((w6.heap.size, cells9 zeroC none 0 0 none 0 0, (30 : TypeId)) :: (cb0, cells9 (mkC zs ov) none 0 0 Q jj pp, (30 : TypeId)) :: R) 400 (newD 400) V) := ((HD6.out.below (HAL.out _ _)).add (HZN.out w6) (by decide)).below (Below.refl _ _).drew
            have S6 : Hid ((w6).cell? ⟨cb0, 0, none⟩ = some (.int .i64 2) ∧ (w6).cell? ⟨cb0, 1, none⟩ = some (.int .i64 1) ∧ (w6).cell? ⟨cb0, 2, none⟩ = some (.int .i64 1) ∧ (w6).cell? ⟨cb0, 3, none⟩ = some (.int .i64 0) ∧ (w6).cell? ⟨cb0, 4, none⟩ = some (.slice none 0 0) ∧ (w6).cell? ⟨cb0, 5, none⟩ = some (.int .i64 0) ∧ (w6).cell? ⟨cb0, 6, none⟩ = some (.int .i64 0) ∧ (w6).cell? ⟨cb0, 7, none⟩ = some (.slice Q jj pp) ∧ (w6).cell? ⟨cb0, 8, none⟩ = some (.int .i64 ov) ∧ (w6).cell? ⟨bb, o + t, none⟩ = some (.slice Am lm cm)) := HEQ.out _ _ _ HD6.out (by simp)
            have S6d : Hid ((w6.drew).cell? ⟨cb0, 0, none⟩ = some (.int .i64 2) ∧ (w6.drew).cell? ⟨cb0, 1, none⟩ = some (.int .i64 1) ∧ (w6.drew).cell? ⟨cb0, 2, none⟩ = some (.int .i64 1) ∧ (w6.drew).cell? ⟨cb0, 3, none⟩ = some (.int .i64 0) ∧ (w6.drew).cell? ⟨cb0, 4, none⟩ = some (.slice none 0 0) ∧ (w6.drew).cell? ⟨cb0, 5, none⟩ = some (.int .i64 0) ∧ (w6.drew).cell? ⟨cb0, 6, none⟩ = some (.int .i64 0) ∧ (w6.drew).cell? ⟨cb0, 7, none⟩ = some (.slice Q jj pp) ∧ (w6.drew).cell? ⟨cb0, 8, none⟩ = some (.int .i64 ov) ∧ (w6.drew).cell? ⟨bb, o + t, none⟩ = some (.slice Am lm cm)) := HEQ.out _ _ _ HD6d.out (by simp)
            have S6a : Hid (((w6.alloc (.cells #[.int .i64 0, .int .i64 0, .int .i64 0, .int .i64 0, .slice none 0 0, .int .i64 0, .int .i64 0, .slice none 0 0, .int .i64 0] 30)).drew).cell? ⟨cb0, 0, none⟩ = some (.int .i64 2) ∧ ((w6.alloc (.cells #[.int .i64 0, .int .i64 0, .int .i64 0, .int .i64 0, .slice none 0 0, .int .i64 0, .int .i64 0, .slice none 0 0, .int .i64 0] 30)).drew).cell? ⟨cb0, 1, none⟩ = some (.int .i64 1) ∧ ((w6.alloc (.cells #[.int .i64 0, .int .i64 0, .int .i64 0, .int .i64 0, .slice none 0 0, .int .i64 0, .int .i64 0, .slice none 0 0, .int .i64 0] 30)).drew).cell? ⟨cb0, 2, none⟩ = some (.int .i64 1) ∧ ((w6.alloc (.cells #[.int .i64 0, .int .i64 0, .int .i64 0, .int .i64 0, .slice none 0 0, .int .i64 0, .int .i64 0, .slice none 0 0, .int .i64 0] 30)).drew).cell? ⟨cb0, 3, none⟩ = some (.int .i64 0) ∧ ((w6.alloc (.cells #[.int .i64 0, .int .i64 0, .int .i64 0, .int .i64 0, .slice none 0 0, .int .i64 0, .int .i64 0, .slice none 0 0, .int .i64 0] 30)).drew).cell? ⟨cb0, 4, none⟩ = some (.slice none 0 0) ∧ ((w6.alloc (.cells #[.int .i64 0, .int .i64 0, .int .i64 0, .int .i64 0, .slice none 0 0, .int .i64 0, .int .i64 0, .slice none 0 0, .int .i64 0] 30)).drew).cell? ⟨cb0, 5, none⟩ = some (.int .i64 0) ∧ ((w6.alloc (.cells #[.int .i64 0, .int .i64 0, .int .i64 0, .int .i64 0, .slice none 0 0, .int .i64 0, .int .i64 0, .slice none 0 0, .int .i64 0] 30)).drew).cell? ⟨cb0, 6, none⟩ = some (.int .i64 0) ∧ ((w6.alloc (.cells #[.int .i64 0, .int .i64 0, .int .i64 0, .int .i64 0, .slice none 0 0, .int .i64 0, .int .i64 0, .slice none 0 0, .int .i64 0] 30)).drew).cell? ⟨cb0, 7, none⟩ = some (.slice Q jj pp) ∧ ((w6.alloc (.cells #[.int .i64 0, .int .i64 0, .int .i64 0, .int .i64 0, .slice none 0 0, .int .i64 0, .int .i64 0, .slice none 0 0, .int .i64 0] 30)).drew).cell? ⟨cb0, 8, none⟩ = some (.int .i64 ov) ∧ ((w6.alloc (.cells #[.int .i64 0, .int .i64 0, .int .i64 0, .int .i64 0, .slice none 0 0, .int .i64 0, .int .i64 0, .slice none 0 0, .int .i64 0] 30)).drew).cell? ⟨bb, o + t, none⟩ = some (.slice Am lm cm)) := HEQ.out _ _ _ HD6a.out (by simp)
            clear hd0 hcd
            go_upto_region 12 with fail
            go_cut [11, 12] from 26 to 119 (fun vn ve wx => ∃ X : Nat, vn = .pointer (some ⟨X, 0, none⟩) ∧ ((∃ (Qn : Option Addr) (jn pn : Nat) (En : Bxs) (on : Int) (Ln : List Int) (V2 : List ByteArray) (m2 : ByteArray), ve = .int .i64 0 ∧ Hid (Dk w (wx) B d q p pd pm 0 0 (cbox X Qn jn pn ms on :: (En ++ ((cb0, cells9 (mkC zs ov) none 0 0 Q jj pp, (30 : TypeId)) :: R))) 400 (newD 400) V2) ∧ Hid (KpC En Qn jn pn ms) ∧ Hid (∀ y ∈ En, y.2.2 = 85) ∧ Hid (Crd V2 400 m2) ∧ Hid (FlAt V2 400 m2 ms on Ln) ∧ Hid (FlAt V2 400 m2 zo oo Lo) ∧ Hid (∀ x, x ∈ Ln → x ∉ Lo) ∧ Hid (fcn m2 400 + Ln.length + Lo.length = 349)) ∨ (ve = .int .i64 12 ∧ Hid (Dk w (wx) B d q p pd pm 0 0 ((X, cells9 zeroC none 0 0 none 0 0, (30 : TypeId)) :: (cb0, cells9 (mkC zs ov) none 0 0 Q jj pp, (30 : TypeId)) :: R) 400 (newD 400) V))))
            case first =>
              cases hE : smB ms with
              | true =>
                have HSAVE : Hid (∀ W F', Dk w W B d q p pd pm 0 0 F' 400 (newD 400) V → (∀ x ∈ R, x ∈ F') → ∀ A2 c2, IntsAt W W.heap.size A2 ms.length ms → ms.length ≤ c2 → (A2 = none ∨ ∃ b o, A2 = some ⟨b, o, none⟩) → Calls Tryz.prog 13 #[.pointer (some ⟨d, 0, none⟩), .agg #[.int .i64 2, .int .i64 1, .int .i64 1, .int .i64 0, .slice none 0 0, .int .i64 0, .int .i64 0, .slice Q jj pp, .int .i64 ov], .slice A2 ms.length c2] W (RetSv w W.heap.size B d q p pd pm 0 0 F' 400 (newD 400) V 400 m L ms)) := fun W F' hd hm A2 c2 hi hc ha => save_fl hd HCD.out HFS.out HKC.out (hd.fx.sub fun x hx => hm x (HSS.out x hx)) A2 ha _ c2 _ _ hi (Nat.le_refl _) (by have := HML.out; omega) hc hE HPM.out (room HCT.out (by rw [HFO.out.lnn]; exact need_le HFO.out.rt) (need6 (b := 400) (by omega) HPM.out hE (by have := HML.out; omega)))
                clear hE
                go_region_held3 (fun W => (W).cell? ⟨cb0, 0, none⟩ = some (.int .i64 2) ∧ (W).cell? ⟨cb0, 1, none⟩ = some (.int .i64 1) ∧ (W).cell? ⟨cb0, 2, none⟩ = some (.int .i64 1) ∧ (W).cell? ⟨cb0, 3, none⟩ = some (.int .i64 0) ∧ (W).cell? ⟨cb0, 4, none⟩ = some (.slice none 0 0) ∧ (W).cell? ⟨cb0, 5, none⟩ = some (.int .i64 0) ∧ (W).cell? ⟨cb0, 6, none⟩ = some (.int .i64 0) ∧ (W).cell? ⟨cb0, 7, none⟩ = some (.slice Q jj pp) ∧ (W).cell? ⟨cb0, 8, none⟩ = some (.int .i64 ov) ∧ (W).cell? ⟨bb, o + t, none⟩ = some (.slice Am lm cm))
                  (first | with_reducible exact S9.out | with_reducible exact S8a.out | with_reducible exact S8.out | with_reducible exact S7a.out | with_reducible exact S7.out | with_reducible exact S6a.out | with_reducible exact S6d.out | with_reducible exact S6.out)
                  (first
                    | (go_at_call 10; first
                        | (with_reducible refine (HIN2.out _ HBd.out).mono ?_
                           rintro e w7 ⟨v, rfl, ow, b7⟩
                           have HD7 : Hid (Dk w (w7) B d q p pd pm 0 0 ((cb0, cells9 (mkC zs ov) none 0 0 Q jj pp, (30 : TypeId)) :: R) 400 (newD 400) V) := HD6d.out.below b7
                           have HB7 : Hid (w6.heap.size ≤ w7.heap.size) := b7.size
                           have HPA : Hid True := trivial
                           obtain ⟨A2, c2, rfl, hc2, ha2⟩ := own_form ow
                           have hia := Lg.IntsAt.of_own ow rfl HMF.out
                           have S7 : Hid ((w7).cell? ⟨cb0, 0, none⟩ = some (.int .i64 2) ∧ (w7).cell? ⟨cb0, 1, none⟩ = some (.int .i64 1) ∧ (w7).cell? ⟨cb0, 2, none⟩ = some (.int .i64 1) ∧ (w7).cell? ⟨cb0, 3, none⟩ = some (.int .i64 0) ∧ (w7).cell? ⟨cb0, 4, none⟩ = some (.slice none 0 0) ∧ (w7).cell? ⟨cb0, 5, none⟩ = some (.int .i64 0) ∧ (w7).cell? ⟨cb0, 6, none⟩ = some (.int .i64 0) ∧ (w7).cell? ⟨cb0, 7, none⟩ = some (.slice Q jj pp) ∧ (w7).cell? ⟨cb0, 8, none⟩ = some (.int .i64 ov) ∧ (w7).cell? ⟨bb, o + t, none⟩ = some (.slice Am lm cm)) := HEQ.out _ _ _ HD7.out (by simp)
                           have HSV7 := Lib.hid (HSAVE.out w7 _ HD7.out (fun x hx => by simp [hx]) A2 c2 hia hc2 ha2)
                           have HD7a := Lib.hid ((HD7.out.below (HAL.out w7 (.cells #[.int .i64 0, .int .i64 0, .int .i64 0, .int .i64 0, .slice none 0 0, .int .i64 0, .int .i64 0, .slice none 0 0, .int .i64 0] 30))).add (HZN.out w7) (by decide))
                           have S7a : Hid ((w7.alloc (.cells #[.int .i64 0, .int .i64 0, .int .i64 0, .int .i64 0, .slice none 0 0, .int .i64 0, .int .i64 0, .slice none 0 0, .int .i64 0] 30)).cell? ⟨cb0, 0, none⟩ = some (.int .i64 2) ∧ (w7.alloc (.cells #[.int .i64 0, .int .i64 0, .int .i64 0, .int .i64 0, .slice none 0 0, .int .i64 0, .int .i64 0, .slice none 0 0, .int .i64 0] 30)).cell? ⟨cb0, 1, none⟩ = some (.int .i64 1) ∧ (w7.alloc (.cells #[.int .i64 0, .int .i64 0, .int .i64 0, .int .i64 0, .slice none 0 0, .int .i64 0, .int .i64 0, .slice none 0 0, .int .i64 0] 30)).cell? ⟨cb0, 2, none⟩ = some (.int .i64 1) ∧ (w7.alloc (.cells #[.int .i64 0, .int .i64 0, .int .i64 0, .int .i64 0, .slice none 0 0, .int .i64 0, .int .i64 0, .slice none 0 0, .int .i64 0] 30)).cell? ⟨cb0, 3, none⟩ = some (.int .i64 0) ∧ (w7.alloc (.cells #[.int .i64 0, .int .i64 0, .int .i64 0, .int .i64 0, .slice none 0 0, .int .i64 0, .int .i64 0, .slice none 0 0, .int .i64 0] 30)).cell? ⟨cb0, 4, none⟩ = some (.slice none 0 0) ∧ (w7.alloc (.cells #[.int .i64 0, .int .i64 0, .int .i64 0, .int .i64 0, .slice none 0 0, .int .i64 0, .int .i64 0, .slice none 0 0, .int .i64 0] 30)).cell? ⟨cb0, 5, none⟩ = some (.int .i64 0) ∧ (w7.alloc (.cells #[.int .i64 0, .int .i64 0, .int .i64 0, .int .i64 0, .slice none 0 0, .int .i64 0, .int .i64 0, .slice none 0 0, .int .i64 0] 30)).cell? ⟨cb0, 6, none⟩ = some (.int .i64 0) ∧ (w7.alloc (.cells #[.int .i64 0, .int .i64 0, .int .i64 0, .int .i64 0, .slice none 0 0, .int .i64 0, .int .i64 0, .slice none 0 0, .int .i64 0] 30)).cell? ⟨cb0, 7, none⟩ = some (.slice Q jj pp) ∧ (w7.alloc (.cells #[.int .i64 0, .int .i64 0, .int .i64 0, .int .i64 0, .slice none 0 0, .int .i64 0, .int .i64 0, .slice none 0 0, .int .i64 0] 30)).cell? ⟨cb0, 8, none⟩ = some (.int .i64 ov) ∧ (w7.alloc (.cells #[.int .i64 0, .int .i64 0, .int .i64 0, .int .i64 0, .slice none 0 0, .int .i64 0, .int .i64 0, .slice none 0 0, .int .i64 0] 30)).cell? ⟨bb, o + t, none⟩ = some (.slice Am lm cm)) := HEQ.out _ _ _ HD7a.out (by simp)
                           have HSV7a := Lib.hid (HSAVE.out (w7.alloc (.cells #[.int .i64 0, .int .i64 0, .int .i64 0, .int .i64 0, .slice none 0 0, .int .i64 0, .int .i64 0, .slice none 0 0, .int .i64 0] 30)) _ HD7a.out (fun x hx => by simp [hx]) A2 c2 ((hia.below (HAL.out w7 _) (Nat.le_refl _)).more (HAL.out w7 _).size) hc2 ha2)
                           clear ow hia b7 hc2)
                        | (with_reducible refine (HIN2.out _ HBa.out).mono ?_
                           rintro e w7 ⟨v, rfl, ow, b7⟩
                           have HD7 : Hid (Dk w (w7) B d q p pd pm 0 0 ((w6.heap.size, cells9 zeroC none 0 0 none 0 0, (30 : TypeId)) :: (cb0, cells9 (mkC zs ov) none 0 0 Q jj pp, (30 : TypeId)) :: R) 400 (newD 400) V) := HD6a.out.below b7
                           obtain ⟨A2, c2, rfl, hc2, ha2⟩ := own_form ow
                           have hia := Lg.IntsAt.of_own ow rfl HMF.out
                           have S7 : Hid ((w7).cell? ⟨cb0, 0, none⟩ = some (.int .i64 2) ∧ (w7).cell? ⟨cb0, 1, none⟩ = some (.int .i64 1) ∧ (w7).cell? ⟨cb0, 2, none⟩ = some (.int .i64 1) ∧ (w7).cell? ⟨cb0, 3, none⟩ = some (.int .i64 0) ∧ (w7).cell? ⟨cb0, 4, none⟩ = some (.slice none 0 0) ∧ (w7).cell? ⟨cb0, 5, none⟩ = some (.int .i64 0) ∧ (w7).cell? ⟨cb0, 6, none⟩ = some (.int .i64 0) ∧ (w7).cell? ⟨cb0, 7, none⟩ = some (.slice Q jj pp) ∧ (w7).cell? ⟨cb0, 8, none⟩ = some (.int .i64 ov) ∧ (w7).cell? ⟨bb, o + t, none⟩ = some (.slice Am lm cm)) := HEQ.out _ _ _ HD7.out (by simp)
                           have HSV7 := Lib.hid (HSAVE.out w7 _ HD7.out (fun x hx => by simp [hx]) A2 c2 hia hc2 ha2)
                           have HD7a := Lib.hid ((HD7.out.below (HAL.out w7 (.cells #[.int .i64 0, .int .i64 0, .int .i64 0, .int .i64 0, .slice none 0 0, .int .i64 0, .int .i64 0, .slice none 0 0, .int .i64 0] 30))).add (HZN.out w7) (by decide))
                           have S7a : Hid ((w7.alloc (.cells #[.int .i64 0, .int .i64 0, .int .i64 0, .int .i64 0, .slice none 0 0, .int .i64 0, .int .i64 0, .slice none 0 0, .int .i64 0] 30)).cell? ⟨cb0, 0, none⟩ = some (.int .i64 2) ∧ (w7.alloc (.cells #[.int .i64 0, .int .i64 0, .int .i64 0, .int .i64 0, .slice none 0 0, .int .i64 0, .int .i64 0, .slice none 0 0, .int .i64 0] 30)).cell? ⟨cb0, 1, none⟩ = some (.int .i64 1) ∧ (w7.alloc (.cells #[.int .i64 0, .int .i64 0, .int .i64 0, .int .i64 0, .slice none 0 0, .int .i64 0, .int .i64 0, .slice none 0 0, .int .i64 0] 30)).cell? ⟨cb0, 2, none⟩ = some (.int .i64 1) ∧ (w7.alloc (.cells #[.int .i64 0, .int .i64 0, .int .i64 0, .int .i64 0, .slice none 0 0, .int .i64 0, .int .i64 0, .slice none 0 0, .int .i64 0] 30)).cell? ⟨cb0, 3, none⟩ = some (.int .i64 0) ∧ (w7.alloc (.cells #[.int .i64 0, .int .i64 0, .int .i64 0, .int .i64 0, .slice none 0 0, .int .i64 0, .int .i64 0, .slice none 0 0, .int .i64 0] 30)).cell? ⟨cb0, 4, none⟩ = some (.slice none 0 0) ∧ (w7.alloc (.cells #[.int .i64 0, .int .i64 0, .int .i64 0, .int .i64 0, .slice none 0 0, .int .i64 0, .int .i64 0, .slice none 0 0, .int .i64 0] 30)).cell? ⟨cb0, 5, none⟩ = some (.int .i64 0) ∧ (w7.alloc (.cells #[.int .i64 0, .int .i64 0, .int .i64 0, .int .i64 0, .slice none 0 0, .int .i64 0, .int .i64 0, .slice none 0 0, .int .i64 0] 30)).cell? ⟨cb0, 6, none⟩ = some (.int .i64 0) ∧ (w7.alloc (.cells #[.int .i64 0, .int .i64 0, .int .i64 0, .int .i64 0, .slice none 0 0, .int .i64 0, .int .i64 0, .slice none 0 0, .int .i64 0] 30)).cell? ⟨cb0, 7, none⟩ = some (.slice Q jj pp) ∧ (w7.alloc (.cells #[.int .i64 0, .int .i64 0, .int .i64 0, .int .i64 0, .slice none 0 0, .int .i64 0, .int .i64 0, .slice none 0 0, .int .i64 0] 30)).cell? ⟨cb0, 8, none⟩ = some (.int .i64 ov) ∧ (w7.alloc (.cells #[.int .i64 0, .int .i64 0, .int .i64 0, .int .i64 0, .slice none 0 0, .int .i64 0, .int .i64 0, .slice none 0 0, .int .i64 0] 30)).cell? ⟨bb, o + t, none⟩ = some (.slice Am lm cm)) := HEQ.out _ _ _ HD7a.out (by simp)
                           have HSV7a := Lib.hid (HSAVE.out (w7.alloc (.cells #[.int .i64 0, .int .i64 0, .int .i64 0, .int .i64 0, .slice none 0 0, .int .i64 0, .int .i64 0, .slice none 0 0, .int .i64 0] 30)) _ HD7a.out (fun x hx => by simp [hx]) A2 c2 ((hia.below (HAL.out w7 _) (Nat.le_refl _)).more (HAL.out w7 _).size) hc2 ha2)
                           clear ow hia b7 hc2))
                    | (go_at_call 13; first
                        | (with_reducible refine HSV7a.out.mono ?_
                           rintro e w8 ⟨Qn, jn, pn, En, on, Ln, V2, m2, rfl, d8, k8, g8, c8, f8, hn8, hk8⟩
                           have HD8 : Hid (Dk w (w8) B d q p pd pm 0 0 (En ++ ((w7.heap.size, cells9 zeroC none 0 0 none 0 0, (30 : TypeId)) :: (cb0, cells9 (mkC zs ov) none 0 0 Q jj pp, (30 : TypeId)) :: R)) 400 (newD 400) V2) := d8
                           have hX : w6.heap.size ≤ w7.heap.size := HB7.out
                           have S8 : Hid ((w8).cell? ⟨cb0, 0, none⟩ = some (.int .i64 2) ∧ (w8).cell? ⟨cb0, 1, none⟩ = some (.int .i64 1) ∧ (w8).cell? ⟨cb0, 2, none⟩ = some (.int .i64 1) ∧ (w8).cell? ⟨cb0, 3, none⟩ = some (.int .i64 0) ∧ (w8).cell? ⟨cb0, 4, none⟩ = some (.slice none 0 0) ∧ (w8).cell? ⟨cb0, 5, none⟩ = some (.int .i64 0) ∧ (w8).cell? ⟨cb0, 6, none⟩ = some (.int .i64 0) ∧ (w8).cell? ⟨cb0, 7, none⟩ = some (.slice Q jj pp) ∧ (w8).cell? ⟨cb0, 8, none⟩ = some (.int .i64 ov) ∧ (w8).cell? ⟨bb, o + t, none⟩ = some (.slice Am lm cm)) := HEQ.out _ _ _ d8 (by simp)
                           have HX8 : Hid (CdRow w8 (w7.heap.size) zeroC none 0 0 none 0 0) := crow_mem HD8.out.fx (by simp)
                           have hgx : ∀ y ∈ En, y.1 ≠ w7.heap.size := tags_ne (HD8.out.fx.sub fun x hx => List.mem_append_left _ hx) (fun y hy => (g8 y hy).2) HX8.out
                           have HDs : Hid (Dk w (w8) B d q p pd pm 0 0 ((w7.heap.size, cells9 zeroC none 0 0 none 0 0, (30 : TypeId)) :: (En ++ ((cb0, cells9 (mkC zs ov) none 0 0 Q jj pp, (30 : TypeId)) :: R))) 400 (newD 400) V2) := Dk_sub HD8.out (fun x hx => subC hx)
                           have HD9 := Lib.hid (HDs.out.put9H (y := mkC ms on) (A2 := none) (n2 := 0) (k2 := 0) (A2' := Qn) (n2' := jn) (k2' := pn) (Nat.le_trans HSZ.out hX) (fun z hz => by
                             rcases List.mem_append.1 hz with e | e
                             · exact hgx z e
                             · rcases List.mem_cons.1 e with e | e
                               · rw [e]; exact Nat.ne_of_lt (Nat.lt_of_lt_of_le (HRL.out (cb0, cells9 (mkC zs ov) none 0 0 Q jj pp, (30 : TypeId)) (by simp)) hX)
                               · exact Nat.ne_of_lt (Nat.lt_of_lt_of_le (HRL.out z (by simp [e])) hX)))
                           have S9 := Lib.hid (HEQ.out _ _ _ HD9.out (by simp))
                           have hnq : w7.heap.size ≠ cb0 := Nat.ne_of_gt (Nat.lt_of_lt_of_le (HRL.out (cb0, cells9 (mkC zs ov) none 0 0 Q jj pp, (30 : TypeId)) (by simp)) hX)
                           unfold put9 at S9 HD9
                           obtain ⟨r0, r1, r2, r3, r4, r5, r6, r7, r8⟩ := HX8.out.cells
                           have zr := HX8.out.fz
                           have HK8 := Lib.hid k8
                           have HG8 : Hid (∀ y ∈ En, y.2.2 = 85) := fun y hy => (g8 y hy).2
                           have HC8 := Lib.hid c8
                           have HF8 := Lib.hid f8
                           have HO8 := Lib.hid (saved2 HFO.out HDJ.out hk8)
                           have HN8 := Lib.hid (count HCT.out hn8 f8.lnn)
                           clear d8 k8 g8 c8 f8 hn8 hk8 hgx hX)
                        | (with_reducible refine HSV7.out.mono ?_
                           rintro e w8 ⟨Qn, jn, pn, En, on, Ln, V2, m2, rfl, d8, k8, g8, c8, f8, hn8, hk8⟩
                           first
                             | (have hpa := HPA
                                have HD8 : Hid (Dk w (w8) B d q p pd pm 0 0 (En ++ ((cb0, cells9 (mkC zs ov) none 0 0 Q jj pp, (30 : TypeId)) :: R)) 400 (newD 400) V2) := d8
                                have S8 : Hid ((w8).cell? ⟨cb0, 0, none⟩ = some (.int .i64 2) ∧ (w8).cell? ⟨cb0, 1, none⟩ = some (.int .i64 1) ∧ (w8).cell? ⟨cb0, 2, none⟩ = some (.int .i64 1) ∧ (w8).cell? ⟨cb0, 3, none⟩ = some (.int .i64 0) ∧ (w8).cell? ⟨cb0, 4, none⟩ = some (.slice none 0 0) ∧ (w8).cell? ⟨cb0, 5, none⟩ = some (.int .i64 0) ∧ (w8).cell? ⟨cb0, 6, none⟩ = some (.int .i64 0) ∧ (w8).cell? ⟨cb0, 7, none⟩ = some (.slice Q jj pp) ∧ (w8).cell? ⟨cb0, 8, none⟩ = some (.int .i64 ov) ∧ (w8).cell? ⟨bb, o + t, none⟩ = some (.slice Am lm cm)) := HEQ.out _ _ _ d8 (by simp)
                                have S8a : Hid ((w8.alloc (.cells #[.int .i64 0, .int .i64 0, .int .i64 0, .int .i64 0, .slice none 0 0, .int .i64 0, .int .i64 0, .slice none 0 0, .int .i64 0] 30)).cell? ⟨cb0, 0, none⟩ = some (.int .i64 2) ∧ (w8.alloc (.cells #[.int .i64 0, .int .i64 0, .int .i64 0, .int .i64 0, .slice none 0 0, .int .i64 0, .int .i64 0, .slice none 0 0, .int .i64 0] 30)).cell? ⟨cb0, 1, none⟩ = some (.int .i64 1) ∧ (w8.alloc (.cells #[.int .i64 0, .int .i64 0, .int .i64 0, .int .i64 0, .slice none 0 0, .int .i64 0, .int .i64 0, .slice none 0 0, .int .i64 0] 30)).cell? ⟨cb0, 2, none⟩ = some (.int .i64 1) ∧ (w8.alloc (.cells #[.int .i64 0, .int .i64 0, .int .i64 0, .int .i64 0, .slice none 0 0, .int .i64 0, .int .i64 0, .slice none 0 0, .int .i64 0] 30)).cell? ⟨cb0, 3, none⟩ = some (.int .i64 0) ∧ (w8.alloc (.cells #[.int .i64 0, .int .i64 0, .int .i64 0, .int .i64 0, .slice none 0 0, .int .i64 0, .int .i64 0, .slice none 0 0, .int .i64 0] 30)).cell? ⟨cb0, 4, none⟩ = some (.slice none 0 0) ∧ (w8.alloc (.cells #[.int .i64 0, .int .i64 0, .int .i64 0, .int .i64 0, .slice none 0 0, .int .i64 0, .int .i64 0, .slice none 0 0, .int .i64 0] 30)).cell? ⟨cb0, 5, none⟩ = some (.int .i64 0) ∧ (w8.alloc (.cells #[.int .i64 0, .int .i64 0, .int .i64 0, .int .i64 0, .slice none 0 0, .int .i64 0, .int .i64 0, .slice none 0 0, .int .i64 0] 30)).cell? ⟨cb0, 6, none⟩ = some (.int .i64 0) ∧ (w8.alloc (.cells #[.int .i64 0, .int .i64 0, .int .i64 0, .int .i64 0, .slice none 0 0, .int .i64 0, .int .i64 0, .slice none 0 0, .int .i64 0] 30)).cell? ⟨cb0, 7, none⟩ = some (.slice Q jj pp) ∧ (w8.alloc (.cells #[.int .i64 0, .int .i64 0, .int .i64 0, .int .i64 0, .slice none 0 0, .int .i64 0, .int .i64 0, .slice none 0 0, .int .i64 0] 30)).cell? ⟨cb0, 8, none⟩ = some (.int .i64 ov) ∧ (w8.alloc (.cells #[.int .i64 0, .int .i64 0, .int .i64 0, .int .i64 0, .slice none 0 0, .int .i64 0, .int .i64 0, .slice none 0 0, .int .i64 0] 30)).cell? ⟨bb, o + t, none⟩ = some (.slice Am lm cm)) := HEQ.out _ _ _ (d8.below (HAL.out w8 (.cells #[.int .i64 0, .int .i64 0, .int .i64 0, .int .i64 0, .slice none 0 0, .int .i64 0, .int .i64 0, .slice none 0 0, .int .i64 0] 30))) (by simp)
                                have hdn := (d8.below (HAL.out w8 (.cells (cells9 (mkC ms on) none 0 0 Qn jn pn) 30))).add (show _ = _ from CdRow.new w8 (mkC ms on) none 0 0 Qn jn pn) (by decide)
                                have HD9 : Hid (Dk w (w8.alloc (.cells (cells9 (mkC ms on) none 0 0 Qn jn pn) 30)) B d q p pd pm 0 0 (cbox w8.heap.size Qn jn pn ms on :: (En ++ ((cb0, cells9 (mkC zs ov) none 0 0 Q jj pp, (30 : TypeId)) :: R))) 400 (newD 400) V2) := hdn
                                have S9 := Lib.hid (HEQ.out _ _ _ HD9.out (by simp))
                                unfold cells9 at S9
                                have hne8 : w8.heap.size ≠ cb0 := Nat.ne_of_gt (HD8.out.fx.lt (x := (cb0, cells9 (mkC zs ov) none 0 0 Q jj pp, (30 : TypeId))) (by simp))
                                have HK8 := Lib.hid k8
                                have HG8 : Hid (∀ y ∈ En, y.2.2 = 85) := fun y hy => (g8 y hy).2
                                have HC8 := Lib.hid c8
                                have HF8 := Lib.hid f8
                                have HO8 := Lib.hid (saved2 HFO.out HDJ.out hk8)
                                have HN8 := Lib.hid (count HCT.out hn8 f8.lnn)
                                clear d8 k8 g8 c8 f8 hn8 hk8 hdn)
                             | (have HD8 : Hid (Dk w (w8) B d q p pd pm 0 0 (En ++ ((w6.heap.size, cells9 zeroC none 0 0 none 0 0, (30 : TypeId)) :: (cb0, cells9 (mkC zs ov) none 0 0 Q jj pp, (30 : TypeId)) :: R)) 400 (newD 400) V2) := d8
                                have hX : w6.heap.size ≤ w6.heap.size := Nat.le_refl _
                                have S8 : Hid ((w8).cell? ⟨cb0, 0, none⟩ = some (.int .i64 2) ∧ (w8).cell? ⟨cb0, 1, none⟩ = some (.int .i64 1) ∧ (w8).cell? ⟨cb0, 2, none⟩ = some (.int .i64 1) ∧ (w8).cell? ⟨cb0, 3, none⟩ = some (.int .i64 0) ∧ (w8).cell? ⟨cb0, 4, none⟩ = some (.slice none 0 0) ∧ (w8).cell? ⟨cb0, 5, none⟩ = some (.int .i64 0) ∧ (w8).cell? ⟨cb0, 6, none⟩ = some (.int .i64 0) ∧ (w8).cell? ⟨cb0, 7, none⟩ = some (.slice Q jj pp) ∧ (w8).cell? ⟨cb0, 8, none⟩ = some (.int .i64 ov) ∧ (w8).cell? ⟨bb, o + t, none⟩ = some (.slice Am lm cm)) := HEQ.out _ _ _ d8 (by simp)
                                have HX8 : Hid (CdRow w8 (w6.heap.size) zeroC none 0 0 none 0 0) := crow_mem HD8.out.fx (by simp)
                                have hgx : ∀ y ∈ En, y.1 ≠ w6.heap.size := tags_ne (HD8.out.fx.sub fun x hx => List.mem_append_left _ hx) (fun y hy => (g8 y hy).2) HX8.out
                                have HDs : Hid (Dk w (w8) B d q p pd pm 0 0 ((w6.heap.size, cells9 zeroC none 0 0 none 0 0, (30 : TypeId)) :: (En ++ ((cb0, cells9 (mkC zs ov) none 0 0 Q jj pp, (30 : TypeId)) :: R))) 400 (newD 400) V2) := Dk_sub HD8.out (fun x hx => subC hx)
                                have HD9 := Lib.hid (HDs.out.put9H (y := mkC ms on) (A2 := none) (n2 := 0) (k2 := 0) (A2' := Qn) (n2' := jn) (k2' := pn) (Nat.le_trans HSZ.out hX) (fun z hz => by
                                  rcases List.mem_append.1 hz with e | e
                                  · exact hgx z e
                                  · rcases List.mem_cons.1 e with e | e
                                    · rw [e]; exact Nat.ne_of_lt (Nat.lt_of_lt_of_le (HRL.out (cb0, cells9 (mkC zs ov) none 0 0 Q jj pp, (30 : TypeId)) (by simp)) hX)
                                    · exact Nat.ne_of_lt (Nat.lt_of_lt_of_le (HRL.out z (by simp [e])) hX)))
                                have S9 := Lib.hid (HEQ.out _ _ _ HD9.out (by simp))
                                have hnq : w6.heap.size ≠ cb0 := Nat.ne_of_gt (Nat.lt_of_lt_of_le (HRL.out (cb0, cells9 (mkC zs ov) none 0 0 Q jj pp, (30 : TypeId)) (by simp)) hX)
                                unfold put9 at S9 HD9
                                obtain ⟨r0, r1, r2, r3, r4, r5, r6, r7, r8⟩ := HX8.out.cells
                                have zr := HX8.out.fz
                                have HK8 := Lib.hid k8
                                have HG8 : Hid (∀ y ∈ En, y.2.2 = 85) := fun y hy => (g8 y hy).2
                                have HC8 := Lib.hid c8
                                have HF8 := Lib.hid f8
                                have HO8 := Lib.hid (saved2 HFO.out HDJ.out hk8)
                                have HN8 := Lib.hid (count HCT.out hn8 f8.lnn)
                                clear d8 k8 g8 c8 f8 hn8 hk8 hgx hX))))
                all_goals
                  go_wp2_with fail
                  go_meet
                  case rel => exact ⟨_, rfl, .inl ⟨Qn, jn, pn, En, on, Ln, V2, m2, rfl, HD9.out, HK8.out, HG8.out, HC8.out, HF8.out, HO8.out.1, HO8.out.2, HN8.out⟩⟩
              | false =>
                have HSAVE : Hid (∀ W F', Dk w W B d q p pd pm 0 0 F' 400 (newD 400) V → (∀ x ∈ R, x ∈ F') → ∀ A2 c2, IntsAt W W.heap.size A2 ms.length ms → ms.length ≤ c2 → (A2 = none ∨ ∃ b o, A2 = some ⟨b, o, none⟩) → Calls Tryz.prog 13 #[.pointer (some ⟨d, 0, none⟩), .agg #[.int .i64 2, .int .i64 1, .int .i64 1, .int .i64 0, .slice none 0 0, .int .i64 0, .int .i64 0, .slice Q jj pp, .int .i64 ov], .slice A2 ms.length c2] W fun e w' => e = .returned (.tuple #[cdv zeroC none 0 0 none 0 0, .int .i64 12]) ∧ Dk w w' B d q p pd pm 0 0 F' 400 (newD 400) V) := fun W F' hd hm A2 c2 hi hc ha => (save_large hd HCD.out (HFS.out.at_ HKC.out (hd.fx.sub fun x hx => hm x (HSS.out x hx))) A2 ha _ c2 _ _ hi (Nat.le_refl _) (by have := HML.out; omega) hc hE).mono fun e w' ⟨he, hb⟩ => ⟨he, hd.below hb⟩
                clear hE
                go_region_held3 (fun W => (W).cell? ⟨cb0, 0, none⟩ = some (.int .i64 2) ∧ (W).cell? ⟨cb0, 1, none⟩ = some (.int .i64 1) ∧ (W).cell? ⟨cb0, 2, none⟩ = some (.int .i64 1) ∧ (W).cell? ⟨cb0, 3, none⟩ = some (.int .i64 0) ∧ (W).cell? ⟨cb0, 4, none⟩ = some (.slice none 0 0) ∧ (W).cell? ⟨cb0, 5, none⟩ = some (.int .i64 0) ∧ (W).cell? ⟨cb0, 6, none⟩ = some (.int .i64 0) ∧ (W).cell? ⟨cb0, 7, none⟩ = some (.slice Q jj pp) ∧ (W).cell? ⟨cb0, 8, none⟩ = some (.int .i64 ov) ∧ (W).cell? ⟨bb, o + t, none⟩ = some (.slice Am lm cm))
                  (first | with_reducible exact S9.out | with_reducible exact S8a.out | with_reducible exact S8.out | with_reducible exact S7a.out | with_reducible exact S7.out | with_reducible exact S6a.out | with_reducible exact S6d.out | with_reducible exact S6.out)
                  (first
                    | (go_at_call 10; first
                        | (with_reducible refine (HIN2.out _ HBd.out).mono ?_
                           rintro e w7 ⟨v, rfl, ow, b7⟩
                           have HD7 : Hid (Dk w (w7) B d q p pd pm 0 0 ((cb0, cells9 (mkC zs ov) none 0 0 Q jj pp, (30 : TypeId)) :: R) 400 (newD 400) V) := HD6d.out.below b7
                           have HB7 : Hid (w6.heap.size ≤ w7.heap.size) := b7.size
                           have HPA : Hid True := trivial
                           obtain ⟨A2, c2, rfl, hc2, ha2⟩ := own_form ow
                           have hia := Lg.IntsAt.of_own ow rfl HMF.out
                           have S7 : Hid ((w7).cell? ⟨cb0, 0, none⟩ = some (.int .i64 2) ∧ (w7).cell? ⟨cb0, 1, none⟩ = some (.int .i64 1) ∧ (w7).cell? ⟨cb0, 2, none⟩ = some (.int .i64 1) ∧ (w7).cell? ⟨cb0, 3, none⟩ = some (.int .i64 0) ∧ (w7).cell? ⟨cb0, 4, none⟩ = some (.slice none 0 0) ∧ (w7).cell? ⟨cb0, 5, none⟩ = some (.int .i64 0) ∧ (w7).cell? ⟨cb0, 6, none⟩ = some (.int .i64 0) ∧ (w7).cell? ⟨cb0, 7, none⟩ = some (.slice Q jj pp) ∧ (w7).cell? ⟨cb0, 8, none⟩ = some (.int .i64 ov) ∧ (w7).cell? ⟨bb, o + t, none⟩ = some (.slice Am lm cm)) := HEQ.out _ _ _ HD7.out (by simp)
                           have HSV7 := Lib.hid (HSAVE.out w7 _ HD7.out (fun x hx => by simp [hx]) A2 c2 hia hc2 ha2)
                           have HD7a := Lib.hid ((HD7.out.below (HAL.out w7 (.cells #[.int .i64 0, .int .i64 0, .int .i64 0, .int .i64 0, .slice none 0 0, .int .i64 0, .int .i64 0, .slice none 0 0, .int .i64 0] 30))).add (HZN.out w7) (by decide))
                           have S7a : Hid ((w7.alloc (.cells #[.int .i64 0, .int .i64 0, .int .i64 0, .int .i64 0, .slice none 0 0, .int .i64 0, .int .i64 0, .slice none 0 0, .int .i64 0] 30)).cell? ⟨cb0, 0, none⟩ = some (.int .i64 2) ∧ (w7.alloc (.cells #[.int .i64 0, .int .i64 0, .int .i64 0, .int .i64 0, .slice none 0 0, .int .i64 0, .int .i64 0, .slice none 0 0, .int .i64 0] 30)).cell? ⟨cb0, 1, none⟩ = some (.int .i64 1) ∧ (w7.alloc (.cells #[.int .i64 0, .int .i64 0, .int .i64 0, .int .i64 0, .slice none 0 0, .int .i64 0, .int .i64 0, .slice none 0 0, .int .i64 0] 30)).cell? ⟨cb0, 2, none⟩ = some (.int .i64 1) ∧ (w7.alloc (.cells #[.int .i64 0, .int .i64 0, .int .i64 0, .int .i64 0, .slice none 0 0, .int .i64 0, .int .i64 0, .slice none 0 0, .int .i64 0] 30)).cell? ⟨cb0, 3, none⟩ = some (.int .i64 0) ∧ (w7.alloc (.cells #[.int .i64 0, .int .i64 0, .int .i64 0, .int .i64 0, .slice none 0 0, .int .i64 0, .int .i64 0, .slice none 0 0, .int .i64 0] 30)).cell? ⟨cb0, 4, none⟩ = some (.slice none 0 0) ∧ (w7.alloc (.cells #[.int .i64 0, .int .i64 0, .int .i64 0, .int .i64 0, .slice none 0 0, .int .i64 0, .int .i64 0, .slice none 0 0, .int .i64 0] 30)).cell? ⟨cb0, 5, none⟩ = some (.int .i64 0) ∧ (w7.alloc (.cells #[.int .i64 0, .int .i64 0, .int .i64 0, .int .i64 0, .slice none 0 0, .int .i64 0, .int .i64 0, .slice none 0 0, .int .i64 0] 30)).cell? ⟨cb0, 6, none⟩ = some (.int .i64 0) ∧ (w7.alloc (.cells #[.int .i64 0, .int .i64 0, .int .i64 0, .int .i64 0, .slice none 0 0, .int .i64 0, .int .i64 0, .slice none 0 0, .int .i64 0] 30)).cell? ⟨cb0, 7, none⟩ = some (.slice Q jj pp) ∧ (w7.alloc (.cells #[.int .i64 0, .int .i64 0, .int .i64 0, .int .i64 0, .slice none 0 0, .int .i64 0, .int .i64 0, .slice none 0 0, .int .i64 0] 30)).cell? ⟨cb0, 8, none⟩ = some (.int .i64 ov) ∧ (w7.alloc (.cells #[.int .i64 0, .int .i64 0, .int .i64 0, .int .i64 0, .slice none 0 0, .int .i64 0, .int .i64 0, .slice none 0 0, .int .i64 0] 30)).cell? ⟨bb, o + t, none⟩ = some (.slice Am lm cm)) := HEQ.out _ _ _ HD7a.out (by simp)
                           have HSV7a := Lib.hid (HSAVE.out (w7.alloc (.cells #[.int .i64 0, .int .i64 0, .int .i64 0, .int .i64 0, .slice none 0 0, .int .i64 0, .int .i64 0, .slice none 0 0, .int .i64 0] 30)) _ HD7a.out (fun x hx => by simp [hx]) A2 c2 ((hia.below (HAL.out w7 _) (Nat.le_refl _)).more (HAL.out w7 _).size) hc2 ha2)
                           clear ow hia b7 hc2)
                        | (with_reducible refine (HIN2.out _ HBa.out).mono ?_
                           rintro e w7 ⟨v, rfl, ow, b7⟩
                           have HD7 : Hid (Dk w (w7) B d q p pd pm 0 0 ((w6.heap.size, cells9 zeroC none 0 0 none 0 0, (30 : TypeId)) :: (cb0, cells9 (mkC zs ov) none 0 0 Q jj pp, (30 : TypeId)) :: R) 400 (newD 400) V) := HD6a.out.below b7
                           obtain ⟨A2, c2, rfl, hc2, ha2⟩ := own_form ow
                           have hia := Lg.IntsAt.of_own ow rfl HMF.out
                           have S7 : Hid ((w7).cell? ⟨cb0, 0, none⟩ = some (.int .i64 2) ∧ (w7).cell? ⟨cb0, 1, none⟩ = some (.int .i64 1) ∧ (w7).cell? ⟨cb0, 2, none⟩ = some (.int .i64 1) ∧ (w7).cell? ⟨cb0, 3, none⟩ = some (.int .i64 0) ∧ (w7).cell? ⟨cb0, 4, none⟩ = some (.slice none 0 0) ∧ (w7).cell? ⟨cb0, 5, none⟩ = some (.int .i64 0) ∧ (w7).cell? ⟨cb0, 6, none⟩ = some (.int .i64 0) ∧ (w7).cell? ⟨cb0, 7, none⟩ = some (.slice Q jj pp) ∧ (w7).cell? ⟨cb0, 8, none⟩ = some (.int .i64 ov) ∧ (w7).cell? ⟨bb, o + t, none⟩ = some (.slice Am lm cm)) := HEQ.out _ _ _ HD7.out (by simp)
                           have HSV7 := Lib.hid (HSAVE.out w7 _ HD7.out (fun x hx => by simp [hx]) A2 c2 hia hc2 ha2)
                           have HD7a := Lib.hid ((HD7.out.below (HAL.out w7 (.cells #[.int .i64 0, .int .i64 0, .int .i64 0, .int .i64 0, .slice none 0 0, .int .i64 0, .int .i64 0, .slice none 0 0, .int .i64 0] 30))).add (HZN.out w7) (by decide))
                           have S7a : Hid ((w7.alloc (.cells #[.int .i64 0, .int .i64 0, .int .i64 0, .int .i64 0, .slice none 0 0, .int .i64 0, .int .i64 0, .slice none 0 0, .int .i64 0] 30)).cell? ⟨cb0, 0, none⟩ = some (.int .i64 2) ∧ (w7.alloc (.cells #[.int .i64 0, .int .i64 0, .int .i64 0, .int .i64 0, .slice none 0 0, .int .i64 0, .int .i64 0, .slice none 0 0, .int .i64 0] 30)).cell? ⟨cb0, 1, none⟩ = some (.int .i64 1) ∧ (w7.alloc (.cells #[.int .i64 0, .int .i64 0, .int .i64 0, .int .i64 0, .slice none 0 0, .int .i64 0, .int .i64 0, .slice none 0 0, .int .i64 0] 30)).cell? ⟨cb0, 2, none⟩ = some (.int .i64 1) ∧ (w7.alloc (.cells #[.int .i64 0, .int .i64 0, .int .i64 0, .int .i64 0, .slice none 0 0, .int .i64 0, .int .i64 0, .slice none 0 0, .int .i64 0] 30)).cell? ⟨cb0, 3, none⟩ = some (.int .i64 0) ∧ (w7.alloc (.cells #[.int .i64 0, .int .i64 0, .int .i64 0, .int .i64 0, .slice none 0 0, .int .i64 0, .int .i64 0, .slice none 0 0, .int .i64 0] 30)).cell? ⟨cb0, 4, none⟩ = some (.slice none 0 0) ∧ (w7.alloc (.cells #[.int .i64 0, .int .i64 0, .int .i64 0, .int .i64 0, .slice none 0 0, .int .i64 0, .int .i64 0, .slice none 0 0, .int .i64 0] 30)).cell? ⟨cb0, 5, none⟩ = some (.int .i64 0) ∧ (w7.alloc (.cells #[.int .i64 0, .int .i64 0, .int .i64 0, .int .i64 0, .slice none 0 0, .int .i64 0, .int .i64 0, .slice none 0 0, .int .i64 0] 30)).cell? ⟨cb0, 6, none⟩ = some (.int .i64 0) ∧ (w7.alloc (.cells #[.int .i64 0, .int .i64 0, .int .i64 0, .int .i64 0, .slice none 0 0, .int .i64 0, .int .i64 0, .slice none 0 0, .int .i64 0] 30)).cell? ⟨cb0, 7, none⟩ = some (.slice Q jj pp) ∧ (w7.alloc (.cells #[.int .i64 0, .int .i64 0, .int .i64 0, .int .i64 0, .slice none 0 0, .int .i64 0, .int .i64 0, .slice none 0 0, .int .i64 0] 30)).cell? ⟨cb0, 8, none⟩ = some (.int .i64 ov) ∧ (w7.alloc (.cells #[.int .i64 0, .int .i64 0, .int .i64 0, .int .i64 0, .slice none 0 0, .int .i64 0, .int .i64 0, .slice none 0 0, .int .i64 0] 30)).cell? ⟨bb, o + t, none⟩ = some (.slice Am lm cm)) := HEQ.out _ _ _ HD7a.out (by simp)
                           have HSV7a := Lib.hid (HSAVE.out (w7.alloc (.cells #[.int .i64 0, .int .i64 0, .int .i64 0, .int .i64 0, .slice none 0 0, .int .i64 0, .int .i64 0, .slice none 0 0, .int .i64 0] 30)) _ HD7a.out (fun x hx => by simp [hx]) A2 c2 ((hia.below (HAL.out w7 _) (Nat.le_refl _)).more (HAL.out w7 _).size) hc2 ha2)
                           clear ow hia b7 hc2))
                    | (go_at_call 13; first
                        | (with_reducible refine HSV7a.out.mono ?_
                           rintro e w8 ⟨rfl, d8⟩
                           have HD8 : Hid (Dk w (w8) B d q p pd pm 0 0 (((w7.heap.size, cells9 zeroC none 0 0 none 0 0, (30 : TypeId)) :: (cb0, cells9 (mkC zs ov) none 0 0 Q jj pp, (30 : TypeId)) :: R)) 400 (newD 400) V) := d8
                           have hX : w6.heap.size ≤ w7.heap.size := HB7.out
                           have S8 : Hid ((w8).cell? ⟨cb0, 0, none⟩ = some (.int .i64 2) ∧ (w8).cell? ⟨cb0, 1, none⟩ = some (.int .i64 1) ∧ (w8).cell? ⟨cb0, 2, none⟩ = some (.int .i64 1) ∧ (w8).cell? ⟨cb0, 3, none⟩ = some (.int .i64 0) ∧ (w8).cell? ⟨cb0, 4, none⟩ = some (.slice none 0 0) ∧ (w8).cell? ⟨cb0, 5, none⟩ = some (.int .i64 0) ∧ (w8).cell? ⟨cb0, 6, none⟩ = some (.int .i64 0) ∧ (w8).cell? ⟨cb0, 7, none⟩ = some (.slice Q jj pp) ∧ (w8).cell? ⟨cb0, 8, none⟩ = some (.int .i64 ov) ∧ (w8).cell? ⟨bb, o + t, none⟩ = some (.slice Am lm cm)) := HEQ.out _ _ _ d8 (by simp)
                           have HX8 : Hid (CdRow w8 (w7.heap.size) zeroC none 0 0 none 0 0) := crow_mem HD8.out.fx (by simp)
                           have HD9 := Lib.hid (HD8.out.put9H (y := zeroC) (A2 := none) (n2 := 0) (k2 := 0) (A2' := none) (n2' := 0) (k2' := 0) (Nat.le_trans HSZ.out hX) (fun z hz => Nat.ne_of_lt (Nat.lt_of_lt_of_le (HRL.out z hz) hX)))
                           have S9 := Lib.hid (HEQ.out _ _ _ HD9.out (by simp))
                           have hnq : w7.heap.size ≠ cb0 := Nat.ne_of_gt (Nat.lt_of_lt_of_le (HRL.out (cb0, cells9 (mkC zs ov) none 0 0 Q jj pp, (30 : TypeId)) (by simp)) hX)
                           unfold put9 at S9 HD9
                           obtain ⟨r0, r1, r2, r3, r4, r5, r6, r7, r8⟩ := HX8.out.cells
                           have zr := HX8.out.fz
                           clear d8 hX)
                        | (with_reducible refine HSV7.out.mono ?_
                           rintro e w8 ⟨rfl, d8⟩
                           first
                             | (have hpa := HPA
                                have HD8 : Hid (Dk w (w8) B d q p pd pm 0 0 (((cb0, cells9 (mkC zs ov) none 0 0 Q jj pp, (30 : TypeId)) :: R)) 400 (newD 400) V) := d8
                                have S8 : Hid ((w8).cell? ⟨cb0, 0, none⟩ = some (.int .i64 2) ∧ (w8).cell? ⟨cb0, 1, none⟩ = some (.int .i64 1) ∧ (w8).cell? ⟨cb0, 2, none⟩ = some (.int .i64 1) ∧ (w8).cell? ⟨cb0, 3, none⟩ = some (.int .i64 0) ∧ (w8).cell? ⟨cb0, 4, none⟩ = some (.slice none 0 0) ∧ (w8).cell? ⟨cb0, 5, none⟩ = some (.int .i64 0) ∧ (w8).cell? ⟨cb0, 6, none⟩ = some (.int .i64 0) ∧ (w8).cell? ⟨cb0, 7, none⟩ = some (.slice Q jj pp) ∧ (w8).cell? ⟨cb0, 8, none⟩ = some (.int .i64 ov) ∧ (w8).cell? ⟨bb, o + t, none⟩ = some (.slice Am lm cm)) := HEQ.out _ _ _ d8 (by simp)
                                have S8a : Hid ((w8.alloc (.cells #[.int .i64 0, .int .i64 0, .int .i64 0, .int .i64 0, .slice none 0 0, .int .i64 0, .int .i64 0, .slice none 0 0, .int .i64 0] 30)).cell? ⟨cb0, 0, none⟩ = some (.int .i64 2) ∧ (w8.alloc (.cells #[.int .i64 0, .int .i64 0, .int .i64 0, .int .i64 0, .slice none 0 0, .int .i64 0, .int .i64 0, .slice none 0 0, .int .i64 0] 30)).cell? ⟨cb0, 1, none⟩ = some (.int .i64 1) ∧ (w8.alloc (.cells #[.int .i64 0, .int .i64 0, .int .i64 0, .int .i64 0, .slice none 0 0, .int .i64 0, .int .i64 0, .slice none 0 0, .int .i64 0] 30)).cell? ⟨cb0, 2, none⟩ = some (.int .i64 1) ∧ (w8.alloc (.cells #[.int .i64 0, .int .i64 0, .int .i64 0, .int .i64 0, .slice none 0 0, .int .i64 0, .int .i64 0, .slice none 0 0, .int .i64 0] 30)).cell? ⟨cb0, 3, none⟩ = some (.int .i64 0) ∧ (w8.alloc (.cells #[.int .i64 0, .int .i64 0, .int .i64 0, .int .i64 0, .slice none 0 0, .int .i64 0, .int .i64 0, .slice none 0 0, .int .i64 0] 30)).cell? ⟨cb0, 4, none⟩ = some (.slice none 0 0) ∧ (w8.alloc (.cells #[.int .i64 0, .int .i64 0, .int .i64 0, .int .i64 0, .slice none 0 0, .int .i64 0, .int .i64 0, .slice none 0 0, .int .i64 0] 30)).cell? ⟨cb0, 5, none⟩ = some (.int .i64 0) ∧ (w8.alloc (.cells #[.int .i64 0, .int .i64 0, .int .i64 0, .int .i64 0, .slice none 0 0, .int .i64 0, .int .i64 0, .slice none 0 0, .int .i64 0] 30)).cell? ⟨cb0, 6, none⟩ = some (.int .i64 0) ∧ (w8.alloc (.cells #[.int .i64 0, .int .i64 0, .int .i64 0, .int .i64 0, .slice none 0 0, .int .i64 0, .int .i64 0, .slice none 0 0, .int .i64 0] 30)).cell? ⟨cb0, 7, none⟩ = some (.slice Q jj pp) ∧ (w8.alloc (.cells #[.int .i64 0, .int .i64 0, .int .i64 0, .int .i64 0, .slice none 0 0, .int .i64 0, .int .i64 0, .slice none 0 0, .int .i64 0] 30)).cell? ⟨cb0, 8, none⟩ = some (.int .i64 ov) ∧ (w8.alloc (.cells #[.int .i64 0, .int .i64 0, .int .i64 0, .int .i64 0, .slice none 0 0, .int .i64 0, .int .i64 0, .slice none 0 0, .int .i64 0] 30)).cell? ⟨bb, o + t, none⟩ = some (.slice Am lm cm)) := HEQ.out _ _ _ (d8.below (HAL.out w8 (.cells #[.int .i64 0, .int .i64 0, .int .i64 0, .int .i64 0, .slice none 0 0, .int .i64 0, .int .i64 0, .slice none 0 0, .int .i64 0] 30))) (by simp)
                                have HD9 := Lib.hid ((d8.below (HAL.out w8 (.cells (cells9 zeroC none 0 0 none 0 0) 30))).add (show _ = _ from CdRow.new w8 zeroC none 0 0 none 0 0) (by decide))
                                have S9 := Lib.hid (HEQ.out _ _ _ HD9.out (by simp))
                                unfold cells9 at S9
                                have hne8 : w8.heap.size ≠ cb0 := Nat.ne_of_gt (HD8.out.fx.lt (x := (cb0, cells9 (mkC zs ov) none 0 0 Q jj pp, (30 : TypeId))) (by simp))
                                clear d8)
                             | (have HD8 : Hid (Dk w (w8) B d q p pd pm 0 0 (((w6.heap.size, cells9 zeroC none 0 0 none 0 0, (30 : TypeId)) :: (cb0, cells9 (mkC zs ov) none 0 0 Q jj pp, (30 : TypeId)) :: R)) 400 (newD 400) V) := d8
                                have hX : w6.heap.size ≤ w6.heap.size := Nat.le_refl _
                                have S8 : Hid ((w8).cell? ⟨cb0, 0, none⟩ = some (.int .i64 2) ∧ (w8).cell? ⟨cb0, 1, none⟩ = some (.int .i64 1) ∧ (w8).cell? ⟨cb0, 2, none⟩ = some (.int .i64 1) ∧ (w8).cell? ⟨cb0, 3, none⟩ = some (.int .i64 0) ∧ (w8).cell? ⟨cb0, 4, none⟩ = some (.slice none 0 0) ∧ (w8).cell? ⟨cb0, 5, none⟩ = some (.int .i64 0) ∧ (w8).cell? ⟨cb0, 6, none⟩ = some (.int .i64 0) ∧ (w8).cell? ⟨cb0, 7, none⟩ = some (.slice Q jj pp) ∧ (w8).cell? ⟨cb0, 8, none⟩ = some (.int .i64 ov) ∧ (w8).cell? ⟨bb, o + t, none⟩ = some (.slice Am lm cm)) := HEQ.out _ _ _ d8 (by simp)
                                have HX8 : Hid (CdRow w8 (w6.heap.size) zeroC none 0 0 none 0 0) := crow_mem HD8.out.fx (by simp)
                                have HD9 := Lib.hid (HD8.out.put9H (y := zeroC) (A2 := none) (n2 := 0) (k2 := 0) (A2' := none) (n2' := 0) (k2' := 0) (Nat.le_trans HSZ.out hX) (fun z hz => Nat.ne_of_lt (Nat.lt_of_lt_of_le (HRL.out z hz) hX)))
                                have S9 := Lib.hid (HEQ.out _ _ _ HD9.out (by simp))
                                have hnq : w6.heap.size ≠ cb0 := Nat.ne_of_gt (Nat.lt_of_lt_of_le (HRL.out (cb0, cells9 (mkC zs ov) none 0 0 Q jj pp, (30 : TypeId)) (by simp)) hX)
                                unfold put9 at S9 HD9
                                obtain ⟨r0, r1, r2, r3, r4, r5, r6, r7, r8⟩ := HX8.out.cells
                                have zr := HX8.out.fz
                                clear d8 hX))))
                all_goals
                  go_wp2_with fail
                  go_meet
                  case rel => exact ⟨_, rfl, .inr ⟨rfl, HD9.out⟩⟩
            case rest =>
              obtain ⟨X, rfl, hcut⟩ := hcut
              clear HBd HBa HD6d HD6a S6 S6d S6a HEQ
              rcases hcut with ⟨Qn, jn, pn, En, on, Ln, V2, m2, rfl, hdx, hk2, hg2, hc2, hf2, hfo2, hdj2, hct2⟩ | ⟨rfl, hdx⟩
              · have HXR : Hid (CdRow wc X (mkC ms on) none 0 0 Qn jn pn) := hdx.out.box
                unfold mkC at HXR
                obtain ⟨x0, x1, x2, x3, x4, x5, x6, x7, x8⟩ := HXR.out.cells
                have HSR : Hid (CdRow wc cb0 (mkC zs ov) none 0 0 Q jj pp) := crow_mem hdx.out.fx (by simp)
                obtain ⟨r0, r1, r2, r3, r4, r5, r6, r7, r8⟩ := HSR.out.cells
                have zr := HSR.out.fz
                simp only at x0 x1 x2 x3 x4 x5 x6 x7 x8
                have hds : Dk w (wc) B d q p pd pm 0 0 ((cb0, cells9 (mkC zs ov) none 0 0 Q jj pp, (30 : TypeId)) :: (En ++ R)) 400 (newD 400) V2 := Dk_sub hdx.out (fun x hx => subX hx)
                have HDN : Hid (Dk w (put9 wc cb0 (mkC ms on) none 0 0 Qn jn pn) B d q p pd pm 0 0 (cbox cb0 Qn jn pn ms on :: (En ++ R)) 400 (newD 400) V2) := hds.put9H HBM0.out (fun z hz => by
                  rcases List.mem_append.1 hz with e | e
                  · exact tags_ne (hds.fx.sub fun x hx => by simp [hx]) hg2.out HSR.out z e
                  · exact HRN.out z e)
                unfold put9 mkC at HDN
                simp only at HDN
                clear hds
                go_upto_region 15 with fail
                clear r0 r1 r2 r3 r4 r5 r6 r7 r8 zr x0 x1 x2 x3 x4 x5 x6 x7 x8
                generalize World.setCell _ ⟨cb0, 8, none⟩ _ = wy at *
                have hun : wy.cell? ⟨bb, o + t, none⟩ = some (.slice Am lm cm) := (HDN.out.hb.cell HBB.out).trans HU.out
                have HIN3 := Lib.hid (HIN2.out wy HDN.out.hb)
                go_wp2_with (go_at_call 10; refine HIN3.out.mono ?_; rintro e wz ⟨v5, rfl, ow5, b5⟩; have HB5 := Lib.hid b5; have HOW := Lib.hid ow5; clear ow5 b5)
                go_meet
                case rel =>
                  obtain ⟨E5, hE1, hE2, hk5⟩ := KpI.of_own HOW.out HMF.out
                  have h9 := HDN.out.below HB5.out
                  have h8 := HDN.out
                  rw [HR.out] at h8 h9
                  exact St2.done h9 hc2.out hf2.out hfo2.out hdj2.out hct2.out hE1 hk5 HKO.out HML.out HZZ.out.2 HEE.out hE2 (h8.fx.lt (List.mem_cons_self ..)) (h8.fx.lt (List.mem_cons_of_mem _ (List.mem_append_right _ (List.mem_cons_self ..)))) hk2.out HKD.out hg2.out HTG.out
              · go_wp2_with fail
                go_meet
                case rel =>
                  have h9 := hdx.out.drop
                  rw [HR.out] at h9
                  have h10 : St2 w wc B d q p pd pm cb0 cb1 u8 u9 := ⟨V, m, Q, jj, pp, zs, ov, L, SS, ES, Qo, jo, po, zo, oo, Lo, SO, EO, h9, HCD.out, HFS.out, HFO.out, HDJ.out, HCT.out, HKS.out, HKO.out, HZZ.out, HEE.out, HKC.out, HKD.out, HTG.out⟩
                  exact h10
          · have g1' : ¬ (t : Int) < (len1 : Int) := by omega
            go_wp2_with fail
            go_meet
            case rel => exact HST.out
        case rest =>
          have HS2 := hcut
          clear hcut HST
          obtain ⟨w6, hw6⟩ : ∃ x : World, x = wc := ⟨_, rfl⟩
          subst hw6
          have HST := HS2
          clear HS2
          go_upto_if 68 with (fail)
          go_cut [9, 13, 14] from 26 to 119 (fun vB _ _ wx => Hid (St2 w wx B d q p pd pm cb0 cb1 u8 vB))
          case first =>
            by_cases g1 : t < len2
            · have g1' : (t : Int) < (len2 : Int) := by omega
              have gw : IntKind.i64.wrap (t : Int) = (t : Int) := IntWalk.i64_in _ (by omega)
              obtain ⟨bb, o, u, hae, hbB, hu, hl⟩ := HLS2.out.2 t g1
              subst hae
              obtain ⟨Am, cm, rfl, hcm, him, _⟩ := hl.read
              have HIN2 := Lib.hid (fun W (hW : Below w.heap.size w W) => HIN.out W Am _ cm w.heap.size _ (him.below hW (Nat.le_refl _)) hW.size)
              have HPM := Lib.hid (HP.out ((l2.getD t none).getD []))
              have HML := Lib.hid (inzL_len 400 ((l2.getD t none).getD []))
              have HU := Lib.hid hu
              generalize inzL 400 ((l2.getD t none).getD []) = ms at *
              generalize ((l2.getD t none).getD []).length = lm at *
              have HMF := Lib.hid (pts_fit (by omega) HPM.out)
              have HBB := Lib.hid hbB
              clear hl him hu hcm hbB
              obtain ⟨V, m, Q, jj, pp, zs, ov, L, SS, ES, Qo, jo, po, zo, oo, Lo, SO, EO, hd0, hcd, hfs, hfo, hdj, hct, hks, hko, hzz, hee, hkc, hkd, htg⟩ := HST.out.swap
              obtain ⟨R, hR⟩ : ∃ R : Bxs, R = cbox cb0 Qo jo po zo oo :: ((SS ++ SO) ++ (ES ++ EO)) := ⟨_, rfl⟩
              have HSS : Hid (∀ x ∈ SS, x ∈ R) := fun x hx => by rw [hR]; simp [hx]
              have HRN : Hid (∀ z, z ∈ R → z.1 ≠ cb1) := fun z hz => by
                rw [hR] at hz
                rcases List.mem_cons.1 hz with e | e
                · rw [e]; exact HNE.out
                · rcases List.mem_append.1 e with e | e
                  · exact tags_ne (hd0.fx.sub fun x hx => List.mem_cons_of_mem _ (List.mem_cons_of_mem _ (List.mem_append_left _ hx))) htg (hd0.fx (cbox cb1 Q jj pp zs ov) (by simp)).1 z e
                  · exact (hee z e).1
              rw [← hR] at hd0
              have HR := Lib.hid hR
              have HFS := Lib.hid hfs
              have HFO := Lib.hid hfo
              have HDJ := Lib.hid hdj
              have HCT := Lib.hid hct
              have HKS := Lib.hid hks
              have HKO := Lib.hid hko
              have HZZ := Lib.hid hzz
              have HEE := Lib.hid hee
              have HKC := Lib.hid hkc
              have HKD := Lib.hid hkd
              have HTG := Lib.hid htg
              clear hR hfs hfo hdj hct hks hko hzz hee hkc hkd htg
              have HD6 : Hid (Dk w (w6) B d q p pd pm 0 0 ((cb1, cells9 (mkC zs ov) none 0 0 Q jj pp, (30 : TypeId)) :: R) 400 (newD 400) V) := hd0
              have HCD := Lib.hid hcd
              have HSZ : Hid (B ≤ w6.heap.size) := hd0.hBs
              have HRL : Hid (∀ z, z ∈ (cb1, cells9 (mkC zs ov) none 0 0 Q jj pp, (30 : TypeId)) :: R → z.1 < w6.heap.size) := fun z hz => hd0.fx.lt hz
              have HZN : Hid (∀ W : World, CdRow (W.alloc (.cells #[.int .i64 0, .int .i64 0, .int .i64 0, .int .i64 0, .slice none 0 0, .int .i64 0, .int .i64 0, .slice none 0 0, .int .i64 0] 30)) W.heap.size zeroC none 0 0 none 0 0) := fun W => CdRow.new W zeroC none 0 0 none 0 0
              have HAL : Hid (∀ (W : World) o, Below W.heap.size W (W.alloc o)) := fun W o => (Below.refl _ _).alloc (Nat.le_refl _) _
              have HEQ : Hid (∀ W F' V', Dk w W B d q p pd pm 0 0 F' 400 (newD 400) V' → (cb1, cells9 (mkC zs ov) none 0 0 Q jj pp, (30 : TypeId)) ∈ F' → (W).cell? ⟨cb1, 0, none⟩ = some (.int .i64 2) ∧ (W).cell? ⟨cb1, 1, none⟩ = some (.int .i64 1) ∧ (W).cell? ⟨cb1, 2, none⟩ = some (.int .i64 1) ∧ (W).cell? ⟨cb1, 3, none⟩ = some (.int .i64 0) ∧ (W).cell? ⟨cb1, 4, none⟩ = some (.slice none 0 0) ∧ (W).cell? ⟨cb1, 5, none⟩ = some (.int .i64 0) ∧ (W).cell? ⟨cb1, 6, none⟩ = some (.int .i64 0) ∧ (W).cell? ⟨cb1, 7, none⟩ = some (.slice Q jj pp) ∧ (W).cell? ⟨cb1, 8, none⟩ = some (.int .i64 ov) ∧ (W).cell? ⟨bb, o + t, none⟩ = some (.slice Am lm cm)) := fun W F' V' hd hm => by
                obtain ⟨e0, e1, e2, e3, e4, e5, e6, e7, e8⟩ := (crow_mem hd.fx hm).cells
                exact ⟨e0, e1, e2, e3, e4, e5, e6, e7, e8, (hd.hb.cell HBB.out).trans HU.out⟩
              have HD6d : Hid (Dk w (w6.drew) B d q p pd pm 0 0 ((cb1, cells9 (mkC zs ov) none 0 0 Q jj pp, (30 : TypeId)) :: R) 400 (newD 400) V) := HD6.out.below (Below.refl w6.heap.size w6).drew
              have HBd : Hid (Below w.heap.size w w6.drew) := HD6d.out.hb
              have HBa : Hid (Below w.heap.size w (w6.alloc (.cells #[.int .i64 0, .int .i64 0, .int .i64 0, .int .i64 0, .slice none 0 0, .int .i64 0, .int .i64 0, .slice none 0 0, .int .i64 0] 30)).drew) := (HD6.out.hb.alloc HD6.out.hb.size _).drew
              have HD6a : Hid (Dk w ((w6.alloc (.cells #[.int .i64 0, .int .i64 0, .int .i64 0, .int .i64 0, .slice none 0 0, .int .i64 0, .int .i64 0, .slice none 0 0, .int .i64 0] 30)).drew) B d q p pd pm 0 0 ((w6.heap.size, cells9 zeroC none 0 0 none 0 0, (30 : TypeId)) :: (cb1, cells9 (mkC zs ov) none 0 0 Q jj pp, (30 : TypeId)) :: R) 400 (newD 400) V) := ((HD6.out.below (HAL.out _ _)).add (HZN.out w6) (by decide)).below (Below.refl _ _).drew
              have S6 : Hid ((w6).cell? ⟨cb1, 0, none⟩ = some (.int .i64 2) ∧ (w6).cell? ⟨cb1, 1, none⟩ = some (.int .i64 1) ∧ (w6).cell? ⟨cb1, 2, none⟩ = some (.int .i64 1) ∧ (w6).cell? ⟨cb1, 3, none⟩ = some (.int .i64 0) ∧ (w6).cell? ⟨cb1, 4, none⟩ = some (.slice none 0 0) ∧ (w6).cell? ⟨cb1, 5, none⟩ = some (.int .i64 0) ∧ (w6).cell? ⟨cb1, 6, none⟩ = some (.int .i64 0) ∧ (w6).cell? ⟨cb1, 7, none⟩ = some (.slice Q jj pp) ∧ (w6).cell? ⟨cb1, 8, none⟩ = some (.int .i64 ov) ∧ (w6).cell? ⟨bb, o + t, none⟩ = some (.slice Am lm cm)) := HEQ.out _ _ _ HD6.out (by simp)
              have S6d : Hid ((w6.drew).cell? ⟨cb1, 0, none⟩ = some (.int .i64 2) ∧ (w6.drew).cell? ⟨cb1, 1, none⟩ = some (.int .i64 1) ∧ (w6.drew).cell? ⟨cb1, 2, none⟩ = some (.int .i64 1) ∧ (w6.drew).cell? ⟨cb1, 3, none⟩ = some (.int .i64 0) ∧ (w6.drew).cell? ⟨cb1, 4, none⟩ = some (.slice none 0 0) ∧ (w6.drew).cell? ⟨cb1, 5, none⟩ = some (.int .i64 0) ∧ (w6.drew).cell? ⟨cb1, 6, none⟩ = some (.int .i64 0) ∧ (w6.drew).cell? ⟨cb1, 7, none⟩ = some (.slice Q jj pp) ∧ (w6.drew).cell? ⟨cb1, 8, none⟩ = some (.int .i64 ov) ∧ (w6.drew).cell? ⟨bb, o + t, none⟩ = some (.slice Am lm cm)) := HEQ.out _ _ _ HD6d.out (by simp)
              have S6a : Hid (((w6.alloc (.cells #[.int .i64 0, .int .i64 0, .int .i64 0, .int .i64 0, .slice none 0 0, .int .i64 0, .int .i64 0, .slice none 0 0, .int .i64 0] 30)).drew).cell? ⟨cb1, 0, none⟩ = some (.int .i64 2) ∧ ((w6.alloc (.cells #[.int .i64 0, .int .i64 0, .int .i64 0, .int .i64 0, .slice none 0 0, .int .i64 0, .int .i64 0, .slice none 0 0, .int .i64 0] 30)).drew).cell? ⟨cb1, 1, none⟩ = some (.int .i64 1) ∧ ((w6.alloc (.cells #[.int .i64 0, .int .i64 0, .int .i64 0, .int .i64 0, .slice none 0 0, .int .i64 0, .int .i64 0, .slice none 0 0, .int .i64 0] 30)).drew).cell? ⟨cb1, 2, none⟩ = some (.int .i64 1) ∧ ((w6.alloc (.cells #[.int .i64 0, .int .i64 0, .int .i64 0, .int .i64 0, .slice none 0 0, .int .i64 0, .int .i64 0, .slice none 0 0, .int .i64 0] 30)).drew).cell? ⟨cb1, 3, none⟩ = some (.int .i64 0) ∧ ((w6.alloc (.cells #[.int .i64 0, .int .i64 0, .int .i64 0, .int .i64 0, .slice none 0 0, .int .i64 0, .int .i64 0, .slice none 0 0, .int .i64 0] 30)).drew).cell? ⟨cb1, 4, none⟩ = some (.slice none 0 0) ∧ ((w6.alloc (.cells #[.int .i64 0, .int .i64 0, .int .i64 0, .int .i64 0, .slice none 0 0, .int .i64 0, .int .i64 0, .slice none 0 0, .int .i64 0] 30)).drew).cell? ⟨cb1, 5, none⟩ = some (.int .i64 0) ∧ ((w6.alloc (.cells #[.int .i64 0, .int .i64 0, .int .i64 0, .int .i64 0, .slice none 0 0, .int .i64 0, .int .i64 0, .slice none 0 0, .int .i64 0] 30)).drew).cell? ⟨cb1, 6, none⟩ = some (.int .i64 0) ∧ ((w6.alloc (.cells #[.int .i64 0, .int .i64 0, .int .i64 0, .int .i64 0, .slice none 0 0, .int .i64 0, .int .i64 0, .slice none 0 0, .int .i64 0] 30)).drew).cell? ⟨cb1, 7, none⟩ = some (.slice Q jj pp) ∧ ((w6.alloc (.cells #[.int .i64 0, .int .i64 0, .int .i64 0, .int .i64 0, .slice none 0 0, .int .i64 0, .int .i64 0, .slice none 0 0, .int .i64 0] 30)).drew).cell? ⟨cb1, 8, none⟩ = some (.int .i64 ov) ∧ ((w6.alloc (.cells #[.int .i64 0, .int .i64 0, .int .i64 0, .int .i64 0, .slice none 0 0, .int .i64 0, .int .i64 0, .slice none 0 0, .int .i64 0] 30)).drew).cell? ⟨bb, o + t, none⟩ = some (.slice Am lm cm)) := HEQ.out _ _ _ HD6a.out (by simp)
              clear hd0 hcd
              go_upto_region 17 with fail
              go_cut [13, 14] from 26 to 119 (fun vn ve wx => ∃ X : Nat, vn = .pointer (some ⟨X, 0, none⟩) ∧ ((∃ (Qn : Option Addr) (jn pn : Nat) (En : Bxs) (on : Int) (Ln : List Int) (V2 : List ByteArray) (m2 : ByteArray), ve = .int .i64 0 ∧ Hid (Dk w (wx) B d q p pd pm 0 0 (cbox X Qn jn pn ms on :: (En ++ ((cb1, cells9 (mkC zs ov) none 0 0 Q jj pp, (30 : TypeId)) :: R))) 400 (newD 400) V2) ∧ Hid (KpC En Qn jn pn ms) ∧ Hid (∀ y ∈ En, y.2.2 = 85) ∧ Hid (Crd V2 400 m2) ∧ Hid (FlAt V2 400 m2 ms on Ln) ∧ Hid (FlAt V2 400 m2 zo oo Lo) ∧ Hid (∀ x, x ∈ Ln → x ∉ Lo) ∧ Hid (fcn m2 400 + Ln.length + Lo.length = 349)) ∨ (ve = .int .i64 12 ∧ Hid (Dk w (wx) B d q p pd pm 0 0 ((X, cells9 zeroC none 0 0 none 0 0, (30 : TypeId)) :: (cb1, cells9 (mkC zs ov) none 0 0 Q jj pp, (30 : TypeId)) :: R) 400 (newD 400) V))))
              case first =>
                cases hE : smB ms with
                | true =>
                  have HSAVE : Hid (∀ W F', Dk w W B d q p pd pm 0 0 F' 400 (newD 400) V → (∀ x ∈ R, x ∈ F') → ∀ A2 c2, IntsAt W W.heap.size A2 ms.length ms → ms.length ≤ c2 → (A2 = none ∨ ∃ b o, A2 = some ⟨b, o, none⟩) → Calls Tryz.prog 13 #[.pointer (some ⟨d, 0, none⟩), .agg #[.int .i64 2, .int .i64 1, .int .i64 1, .int .i64 0, .slice none 0 0, .int .i64 0, .int .i64 0, .slice Q jj pp, .int .i64 ov], .slice A2 ms.length c2] W (RetSv w W.heap.size B d q p pd pm 0 0 F' 400 (newD 400) V 400 m L ms)) := fun W F' hd hm A2 c2 hi hc ha => save_fl hd HCD.out HFS.out HKC.out (hd.fx.sub fun x hx => hm x (HSS.out x hx)) A2 ha _ c2 _ _ hi (Nat.le_refl _) (by have := HML.out; omega) hc hE HPM.out (room HCT.out (by rw [HFO.out.lnn]; exact need_le HFO.out.rt) (need6 (b := 400) (by omega) HPM.out hE (by have := HML.out; omega)))
                  clear hE
                  go_region_held3 (fun W => (W).cell? ⟨cb1, 0, none⟩ = some (.int .i64 2) ∧ (W).cell? ⟨cb1, 1, none⟩ = some (.int .i64 1) ∧ (W).cell? ⟨cb1, 2, none⟩ = some (.int .i64 1) ∧ (W).cell? ⟨cb1, 3, none⟩ = some (.int .i64 0) ∧ (W).cell? ⟨cb1, 4, none⟩ = some (.slice none 0 0) ∧ (W).cell? ⟨cb1, 5, none⟩ = some (.int .i64 0) ∧ (W).cell? ⟨cb1, 6, none⟩ = some (.int .i64 0) ∧ (W).cell? ⟨cb1, 7, none⟩ = some (.slice Q jj pp) ∧ (W).cell? ⟨cb1, 8, none⟩ = some (.int .i64 ov) ∧ (W).cell? ⟨bb, o + t, none⟩ = some (.slice Am lm cm))
                    (first | with_reducible exact S9.out | with_reducible exact S8a.out | with_reducible exact S8.out | with_reducible exact S7a.out | with_reducible exact S7.out | with_reducible exact S6a.out | with_reducible exact S6d.out | with_reducible exact S6.out)
                    (first
                      | (go_at_call 10; first
                          | (with_reducible refine (HIN2.out _ HBd.out).mono ?_
                             rintro e w7 ⟨v, rfl, ow, b7⟩
                             have HD7 : Hid (Dk w (w7) B d q p pd pm 0 0 ((cb1, cells9 (mkC zs ov) none 0 0 Q jj pp, (30 : TypeId)) :: R) 400 (newD 400) V) := HD6d.out.below b7
                             have HB7 : Hid (w6.heap.size ≤ w7.heap.size) := b7.size
                             have HPA : Hid True := trivial
                             obtain ⟨A2, c2, rfl, hc2, ha2⟩ := own_form ow
                             have hia := Lg.IntsAt.of_own ow rfl HMF.out
                             have S7 : Hid ((w7).cell? ⟨cb1, 0, none⟩ = some (.int .i64 2) ∧ (w7).cell? ⟨cb1, 1, none⟩ = some (.int .i64 1) ∧ (w7).cell? ⟨cb1, 2, none⟩ = some (.int .i64 1) ∧ (w7).cell? ⟨cb1, 3, none⟩ = some (.int .i64 0) ∧ (w7).cell? ⟨cb1, 4, none⟩ = some (.slice none 0 0) ∧ (w7).cell? ⟨cb1, 5, none⟩ = some (.int .i64 0) ∧ (w7).cell? ⟨cb1, 6, none⟩ = some (.int .i64 0) ∧ (w7).cell? ⟨cb1, 7, none⟩ = some (.slice Q jj pp) ∧ (w7).cell? ⟨cb1, 8, none⟩ = some (.int .i64 ov) ∧ (w7).cell? ⟨bb, o + t, none⟩ = some (.slice Am lm cm)) := HEQ.out _ _ _ HD7.out (by simp)
                             have HSV7 := Lib.hid (HSAVE.out w7 _ HD7.out (fun x hx => by simp [hx]) A2 c2 hia hc2 ha2)
                             have HD7a := Lib.hid ((HD7.out.below (HAL.out w7 (.cells #[.int .i64 0, .int .i64 0, .int .i64 0, .int .i64 0, .slice none 0 0, .int .i64 0, .int .i64 0, .slice none 0 0, .int .i64 0] 30))).add (HZN.out w7) (by decide))
                             have S7a : Hid ((w7.alloc (.cells #[.int .i64 0, .int .i64 0, .int .i64 0, .int .i64 0, .slice none 0 0, .int .i64 0, .int .i64 0, .slice none 0 0, .int .i64 0] 30)).cell? ⟨cb1, 0, none⟩ = some (.int .i64 2) ∧ (w7.alloc (.cells #[.int .i64 0, .int .i64 0, .int .i64 0, .int .i64 0, .slice none 0 0, .int .i64 0, .int .i64 0, .slice none 0 0, .int .i64 0] 30)).cell? ⟨cb1, 1, none⟩ = some (.int .i64 1) ∧ (w7.alloc (.cells #[.int .i64 0, .int .i64 0, .int .i64 0, .int .i64 0, .slice none 0 0, .int .i64 0, .int .i64 0, .slice none 0 0, .int .i64 0] 30)).cell? ⟨cb1, 2, none⟩ = some (.int .i64 1) ∧ (w7.alloc (.cells #[.int .i64 0, .int .i64 0, .int .i64 0, .int .i64 0, .slice none 0 0, .int .i64 0, .int .i64 0, .slice none 0 0, .int .i64 0] 30)).cell? ⟨cb1, 3, none⟩ = some (.int .i64 0) ∧ (w7.alloc (.cells #[.int .i64 0, .int .i64 0, .int .i64 0, .int .i64 0, .slice none 0 0, .int .i64 0, .int .i64 0, .slice none 0 0, .int .i64 0] 30)).cell? ⟨cb1, 4, none⟩ = some (.slice none 0 0) ∧ (w7.alloc (.cells #[.int .i64 0, .int .i64 0, .int .i64 0, .int .i64 0, .slice none 0 0, .int .i64 0, .int .i64 0, .slice none 0 0, .int .i64 0] 30)).cell? ⟨cb1, 5, none⟩ = some (.int .i64 0) ∧ (w7.alloc (.cells #[.int .i64 0, .int .i64 0, .int .i64 0, .int .i64 0, .slice none 0 0, .int .i64 0, .int .i64 0, .slice none 0 0, .int .i64 0] 30)).cell? ⟨cb1, 6, none⟩ = some (.int .i64 0) ∧ (w7.alloc (.cells #[.int .i64 0, .int .i64 0, .int .i64 0, .int .i64 0, .slice none 0 0, .int .i64 0, .int .i64 0, .slice none 0 0, .int .i64 0] 30)).cell? ⟨cb1, 7, none⟩ = some (.slice Q jj pp) ∧ (w7.alloc (.cells #[.int .i64 0, .int .i64 0, .int .i64 0, .int .i64 0, .slice none 0 0, .int .i64 0, .int .i64 0, .slice none 0 0, .int .i64 0] 30)).cell? ⟨cb1, 8, none⟩ = some (.int .i64 ov) ∧ (w7.alloc (.cells #[.int .i64 0, .int .i64 0, .int .i64 0, .int .i64 0, .slice none 0 0, .int .i64 0, .int .i64 0, .slice none 0 0, .int .i64 0] 30)).cell? ⟨bb, o + t, none⟩ = some (.slice Am lm cm)) := HEQ.out _ _ _ HD7a.out (by simp)
                             have HSV7a := Lib.hid (HSAVE.out (w7.alloc (.cells #[.int .i64 0, .int .i64 0, .int .i64 0, .int .i64 0, .slice none 0 0, .int .i64 0, .int .i64 0, .slice none 0 0, .int .i64 0] 30)) _ HD7a.out (fun x hx => by simp [hx]) A2 c2 ((hia.below (HAL.out w7 _) (Nat.le_refl _)).more (HAL.out w7 _).size) hc2 ha2)
                             clear ow hia b7 hc2)
                          | (with_reducible refine (HIN2.out _ HBa.out).mono ?_
                             rintro e w7 ⟨v, rfl, ow, b7⟩
                             have HD7 : Hid (Dk w (w7) B d q p pd pm 0 0 ((w6.heap.size, cells9 zeroC none 0 0 none 0 0, (30 : TypeId)) :: (cb1, cells9 (mkC zs ov) none 0 0 Q jj pp, (30 : TypeId)) :: R) 400 (newD 400) V) := HD6a.out.below b7
                             obtain ⟨A2, c2, rfl, hc2, ha2⟩ := own_form ow
                             have hia := Lg.IntsAt.of_own ow rfl HMF.out
                             have S7 : Hid ((w7).cell? ⟨cb1, 0, none⟩ = some (.int .i64 2) ∧ (w7).cell? ⟨cb1, 1, none⟩ = some (.int .i64 1) ∧ (w7).cell? ⟨cb1, 2, none⟩ = some (.int .i64 1) ∧ (w7).cell? ⟨cb1, 3, none⟩ = some (.int .i64 0) ∧ (w7).cell? ⟨cb1, 4, none⟩ = some (.slice none 0 0) ∧ (w7).cell? ⟨cb1, 5, none⟩ = some (.int .i64 0) ∧ (w7).cell? ⟨cb1, 6, none⟩ = some (.int .i64 0) ∧ (w7).cell? ⟨cb1, 7, none⟩ = some (.slice Q jj pp) ∧ (w7).cell? ⟨cb1, 8, none⟩ = some (.int .i64 ov) ∧ (w7).cell? ⟨bb, o + t, none⟩ = some (.slice Am lm cm)) := HEQ.out _ _ _ HD7.out (by simp)
                             have HSV7 := Lib.hid (HSAVE.out w7 _ HD7.out (fun x hx => by simp [hx]) A2 c2 hia hc2 ha2)
                             have HD7a := Lib.hid ((HD7.out.below (HAL.out w7 (.cells #[.int .i64 0, .int .i64 0, .int .i64 0, .int .i64 0, .slice none 0 0, .int .i64 0, .int .i64 0, .slice none 0 0, .int .i64 0] 30))).add (HZN.out w7) (by decide))
                             have S7a : Hid ((w7.alloc (.cells #[.int .i64 0, .int .i64 0, .int .i64 0, .int .i64 0, .slice none 0 0, .int .i64 0, .int .i64 0, .slice none 0 0, .int .i64 0] 30)).cell? ⟨cb1, 0, none⟩ = some (.int .i64 2) ∧ (w7.alloc (.cells #[.int .i64 0, .int .i64 0, .int .i64 0, .int .i64 0, .slice none 0 0, .int .i64 0, .int .i64 0, .slice none 0 0, .int .i64 0] 30)).cell? ⟨cb1, 1, none⟩ = some (.int .i64 1) ∧ (w7.alloc (.cells #[.int .i64 0, .int .i64 0, .int .i64 0, .int .i64 0, .slice none 0 0, .int .i64 0, .int .i64 0, .slice none 0 0, .int .i64 0] 30)).cell? ⟨cb1, 2, none⟩ = some (.int .i64 1) ∧ (w7.alloc (.cells #[.int .i64 0, .int .i64 0, .int .i64 0, .int .i64 0, .slice none 0 0, .int .i64 0, .int .i64 0, .slice none 0 0, .int .i64 0] 30)).cell? ⟨cb1, 3, none⟩ = some (.int .i64 0) ∧ (w7.alloc (.cells #[.int .i64 0, .int .i64 0, .int .i64 0, .int .i64 0, .slice none 0 0, .int .i64 0, .int .i64 0, .slice none 0 0, .int .i64 0] 30)).cell? ⟨cb1, 4, none⟩ = some (.slice none 0 0) ∧ (w7.alloc (.cells #[.int .i64 0, .int .i64 0, .int .i64 0, .int .i64 0, .slice none 0 0, .int .i64 0, .int .i64 0, .slice none 0 0, .int .i64 0] 30)).cell? ⟨cb1, 5, none⟩ = some (.int .i64 0) ∧ (w7.alloc (.cells #[.int .i64 0, .int .i64 0, .int .i64 0, .int .i64 0, .slice none 0 0, .int .i64 0, .int .i64 0, .slice none 0 0, .int .i64 0] 30)).cell? ⟨cb1, 6, none⟩ = some (.int .i64 0) ∧ (w7.alloc (.cells #[.int .i64 0, .int .i64 0, .int .i64 0, .int .i64 0, .slice none 0 0, .int .i64 0, .int .i64 0, .slice none 0 0, .int .i64 0] 30)).cell? ⟨cb1, 7, none⟩ = some (.slice Q jj pp) ∧ (w7.alloc (.cells #[.int .i64 0, .int .i64 0, .int .i64 0, .int .i64 0, .slice none 0 0, .int .i64 0, .int .i64 0, .slice none 0 0, .int .i64 0] 30)).cell? ⟨cb1, 8, none⟩ = some (.int .i64 ov) ∧ (w7.alloc (.cells #[.int .i64 0, .int .i64 0, .int .i64 0, .int .i64 0, .slice none 0 0, .int .i64 0, .int .i64 0, .slice none 0 0, .int .i64 0] 30)).cell? ⟨bb, o + t, none⟩ = some (.slice Am lm cm)) := HEQ.out _ _ _ HD7a.out (by simp)
                             have HSV7a := Lib.hid (HSAVE.out (w7.alloc (.cells #[.int .i64 0, .int .i64 0, .int .i64 0, .int .i64 0, .slice none 0 0, .int .i64 0, .int .i64 0, .slice none 0 0, .int .i64 0] 30)) _ HD7a.out (fun x hx => by simp [hx]) A2 c2 ((hia.below (HAL.out w7 _) (Nat.le_refl _)).more (HAL.out w7 _).size) hc2 ha2)
                             clear ow hia b7 hc2))
                      | (go_at_call 13; first
                          | (with_reducible refine HSV7a.out.mono ?_
                             rintro e w8 ⟨Qn, jn, pn, En, on, Ln, V2, m2, rfl, d8, k8, g8, c8, f8, hn8, hk8⟩
                             have HD8 : Hid (Dk w (w8) B d q p pd pm 0 0 (En ++ ((w7.heap.size, cells9 zeroC none 0 0 none 0 0, (30 : TypeId)) :: (cb1, cells9 (mkC zs ov) none 0 0 Q jj pp, (30 : TypeId)) :: R)) 400 (newD 400) V2) := d8
                             have hX : w6.heap.size ≤ w7.heap.size := HB7.out
                             have S8 : Hid ((w8).cell? ⟨cb1, 0, none⟩ = some (.int .i64 2) ∧ (w8).cell? ⟨cb1, 1, none⟩ = some (.int .i64 1) ∧ (w8).cell? ⟨cb1, 2, none⟩ = some (.int .i64 1) ∧ (w8).cell? ⟨cb1, 3, none⟩ = some (.int .i64 0) ∧ (w8).cell? ⟨cb1, 4, none⟩ = some (.slice none 0 0) ∧ (w8).cell? ⟨cb1, 5, none⟩ = some (.int .i64 0) ∧ (w8).cell? ⟨cb1, 6, none⟩ = some (.int .i64 0) ∧ (w8).cell? ⟨cb1, 7, none⟩ = some (.slice Q jj pp) ∧ (w8).cell? ⟨cb1, 8, none⟩ = some (.int .i64 ov) ∧ (w8).cell? ⟨bb, o + t, none⟩ = some (.slice Am lm cm)) := HEQ.out _ _ _ d8 (by simp)
                             have HX8 : Hid (CdRow w8 (w7.heap.size) zeroC none 0 0 none 0 0) := crow_mem HD8.out.fx (by simp)
                             have hgx : ∀ y ∈ En, y.1 ≠ w7.heap.size := tags_ne (HD8.out.fx.sub fun x hx => List.mem_append_left _ hx) (fun y hy => (g8 y hy).2) HX8.out
                             have HDs : Hid (Dk w (w8) B d q p pd pm 0 0 ((w7.heap.size, cells9 zeroC none 0 0 none 0 0, (30 : TypeId)) :: (En ++ ((cb1, cells9 (mkC zs ov) none 0 0 Q jj pp, (30 : TypeId)) :: R))) 400 (newD 400) V2) := Dk_sub HD8.out (fun x hx => subC hx)
                             have HD9 := Lib.hid (HDs.out.put9H (y := mkC ms on) (A2 := none) (n2 := 0) (k2 := 0) (A2' := Qn) (n2' := jn) (k2' := pn) (Nat.le_trans HSZ.out hX) (fun z hz => by
                               rcases List.mem_append.1 hz with e | e
                               · exact hgx z e
                               · rcases List.mem_cons.1 e with e | e
                                 · rw [e]; exact Nat.ne_of_lt (Nat.lt_of_lt_of_le (HRL.out (cb1, cells9 (mkC zs ov) none 0 0 Q jj pp, (30 : TypeId)) (by simp)) hX)
                                 · exact Nat.ne_of_lt (Nat.lt_of_lt_of_le (HRL.out z (by simp [e])) hX)))
                             have S9 := Lib.hid (HEQ.out _ _ _ HD9.out (by simp))
                             have hnq : w7.heap.size ≠ cb1 := Nat.ne_of_gt (Nat.lt_of_lt_of_le (HRL.out (cb1, cells9 (mkC zs ov) none 0 0 Q jj pp, (30 : TypeId)) (by simp)) hX)
                             unfold put9 at S9 HD9
                             obtain ⟨r0, r1, r2, r3, r4, r5, r6, r7, r8⟩ := HX8.out.cells
                             have zr := HX8.out.fz
                             have HK8 := Lib.hid k8
                             have HG8 : Hid (∀ y ∈ En, y.2.2 = 85) := fun y hy => (g8 y hy).2
                             have HC8 := Lib.hid c8
                             have HF8 := Lib.hid f8
                             have HO8 := Lib.hid (saved2 HFO.out HDJ.out hk8)
                             have HN8 := Lib.hid (count HCT.out hn8 f8.lnn)
                             clear d8 k8 g8 c8 f8 hn8 hk8 hgx hX)
                          | (with_reducible refine HSV7.out.mono ?_
                             rintro e w8 ⟨Qn, jn, pn, En, on, Ln, V2, m2, rfl, d8, k8, g8, c8, f8, hn8, hk8⟩
                             first
                               | (have hpa := HPA
                                  have HD8 : Hid (Dk w (w8) B d q p pd pm 0 0 (En ++ ((cb1, cells9 (mkC zs ov) none 0 0 Q jj pp, (30 : TypeId)) :: R)) 400 (newD 400) V2) := d8
                                  have S8 : Hid ((w8).cell? ⟨cb1, 0, none⟩ = some (.int .i64 2) ∧ (w8).cell? ⟨cb1, 1, none⟩ = some (.int .i64 1) ∧ (w8).cell? ⟨cb1, 2, none⟩ = some (.int .i64 1) ∧ (w8).cell? ⟨cb1, 3, none⟩ = some (.int .i64 0) ∧ (w8).cell? ⟨cb1, 4, none⟩ = some (.slice none 0 0) ∧ (w8).cell? ⟨cb1, 5, none⟩ = some (.int .i64 0) ∧ (w8).cell? ⟨cb1, 6, none⟩ = some (.int .i64 0) ∧ (w8).cell? ⟨cb1, 7, none⟩ = some (.slice Q jj pp) ∧ (w8).cell? ⟨cb1, 8, none⟩ = some (.int .i64 ov) ∧ (w8).cell? ⟨bb, o + t, none⟩ = some (.slice Am lm cm)) := HEQ.out _ _ _ d8 (by simp)
                                  have S8a : Hid ((w8.alloc (.cells #[.int .i64 0, .int .i64 0, .int .i64 0, .int .i64 0, .slice none 0 0, .int .i64 0, .int .i64 0, .slice none 0 0, .int .i64 0] 30)).cell? ⟨cb1, 0, none⟩ = some (.int .i64 2) ∧ (w8.alloc (.cells #[.int .i64 0, .int .i64 0, .int .i64 0, .int .i64 0, .slice none 0 0, .int .i64 0, .int .i64 0, .slice none 0 0, .int .i64 0] 30)).cell? ⟨cb1, 1, none⟩ = some (.int .i64 1) ∧ (w8.alloc (.cells #[.int .i64 0, .int .i64 0, .int .i64 0, .int .i64 0, .slice none 0 0, .int .i64 0, .int .i64 0, .slice none 0 0, .int .i64 0] 30)).cell? ⟨cb1, 2, none⟩ = some (.int .i64 1) ∧ (w8.alloc (.cells #[.int .i64 0, .int .i64 0, .int .i64 0, .int .i64 0, .slice none 0 0, .int .i64 0, .int .i64 0, .slice none 0 0, .int .i64 0] 30)).cell? ⟨cb1, 3, none⟩ = some (.int .i64 0) ∧ (w8.alloc (.cells #[.int .i64 0, .int .i64 0, .int .i64 0, .int .i64 0, .slice none 0 0, .int .i64 0, .int .i64 0, .slice none 0 0, .int .i64 0] 30)).cell? ⟨cb1, 4, none⟩ = some (.slice none 0 0) ∧ (w8.alloc (.cells #[.int .i64 0, .int .i64 0, .int .i64 0, .int .i64 0, .slice none 0 0, .int .i64 0, .int .i64 0, .slice none 0 0, .int .i64 0] 30)).cell? ⟨cb1, 5, none⟩ = some (.int .i64 0) ∧ (w8.alloc (.cells #[.int .i64 0, .int .i64 0, .int .i64 0, .int .i64 0, .slice none 0 0, .int .i64 0, .int .i64 0, .slice none 0 0, .int .i64 0] 30)).cell? ⟨cb1, 6, none⟩ = some (.int .i64 0) ∧ (w8.alloc (.cells #[.int .i64 0, .int .i64 0, .int .i64 0, .int .i64 0, .slice none 0 0, .int .i64 0, .int .i64 0, .slice none 0 0, .int .i64 0] 30)).cell? ⟨cb1, 7, none⟩ = some (.slice Q jj pp) ∧ (w8.alloc (.cells #[.int .i64 0, .int .i64 0, .int .i64 0, .int .i64 0, .slice none 0 0, .int .i64 0, .int .i64 0, .slice none 0 0, .int .i64 0] 30)).cell? ⟨cb1, 8, none⟩ = some (.int .i64 ov) ∧ (w8.alloc (.cells #[.int .i64 0, .int .i64 0, .int .i64 0, .int .i64 0, .slice none 0 0, .int .i64 0, .int .i64 0, .slice none 0 0, .int .i64 0] 30)).cell? ⟨bb, o + t, none⟩ = some (.slice Am lm cm)) := HEQ.out _ _ _ (d8.below (HAL.out w8 (.cells #[.int .i64 0, .int .i64 0, .int .i64 0, .int .i64 0, .slice none 0 0, .int .i64 0, .int .i64 0, .slice none 0 0, .int .i64 0] 30))) (by simp)
                                  have hdn := (d8.below (HAL.out w8 (.cells (cells9 (mkC ms on) none 0 0 Qn jn pn) 30))).add (show _ = _ from CdRow.new w8 (mkC ms on) none 0 0 Qn jn pn) (by decide)
                                  have HD9 : Hid (Dk w (w8.alloc (.cells (cells9 (mkC ms on) none 0 0 Qn jn pn) 30)) B d q p pd pm 0 0 (cbox w8.heap.size Qn jn pn ms on :: (En ++ ((cb1, cells9 (mkC zs ov) none 0 0 Q jj pp, (30 : TypeId)) :: R))) 400 (newD 400) V2) := hdn
                                  have S9 := Lib.hid (HEQ.out _ _ _ HD9.out (by simp))
                                  unfold cells9 at S9
                                  have hne8 : w8.heap.size ≠ cb1 := Nat.ne_of_gt (HD8.out.fx.lt (x := (cb1, cells9 (mkC zs ov) none 0 0 Q jj pp, (30 : TypeId))) (by simp))
                                  have HK8 := Lib.hid k8
                                  have HG8 : Hid (∀ y ∈ En, y.2.2 = 85) := fun y hy => (g8 y hy).2
                                  have HC8 := Lib.hid c8
                                  have HF8 := Lib.hid f8
                                  have HO8 := Lib.hid (saved2 HFO.out HDJ.out hk8)
                                  have HN8 := Lib.hid (count HCT.out hn8 f8.lnn)
                                  clear d8 k8 g8 c8 f8 hn8 hk8 hdn)
                               | (have HD8 : Hid (Dk w (w8) B d q p pd pm 0 0 (En ++ ((w6.heap.size, cells9 zeroC none 0 0 none 0 0, (30 : TypeId)) :: (cb1, cells9 (mkC zs ov) none 0 0 Q jj pp, (30 : TypeId)) :: R)) 400 (newD 400) V2) := d8
                                  have hX : w6.heap.size ≤ w6.heap.size := Nat.le_refl _
                                  have S8 : Hid ((w8).cell? ⟨cb1, 0, none⟩ = some (.int .i64 2) ∧ (w8).cell? ⟨cb1, 1, none⟩ = some (.int .i64 1) ∧ (w8).cell? ⟨cb1, 2, none⟩ = some (.int .i64 1) ∧ (w8).cell? ⟨cb1, 3, none⟩ = some (.int .i64 0) ∧ (w8).cell? ⟨cb1, 4, none⟩ = some (.slice none 0 0) ∧ (w8).cell? ⟨cb1, 5, none⟩ = some (.int .i64 0) ∧ (w8).cell? ⟨cb1, 6, none⟩ = some (.int .i64 0) ∧ (w8).cell? ⟨cb1, 7, none⟩ = some (.slice Q jj pp) ∧ (w8).cell? ⟨cb1, 8, none⟩ = some (.int .i64 ov) ∧ (w8).cell? ⟨bb, o + t, none⟩ = some (.slice Am lm cm)) := HEQ.out _ _ _ d8 (by simp)
                                  have HX8 : Hid (CdRow w8 (w6.heap.size) zeroC none 0 0 none 0 0) := crow_mem HD8.out.fx (by simp)
                                  have hgx : ∀ y ∈ En, y.1 ≠ w6.heap.size := tags_ne (HD8.out.fx.sub fun x hx => List.mem_append_left _ hx) (fun y hy => (g8 y hy).2) HX8.out
                                  have HDs : Hid (Dk w (w8) B d q p pd pm 0 0 ((w6.heap.size, cells9 zeroC none 0 0 none 0 0, (30 : TypeId)) :: (En ++ ((cb1, cells9 (mkC zs ov) none 0 0 Q jj pp, (30 : TypeId)) :: R))) 400 (newD 400) V2) := Dk_sub HD8.out (fun x hx => subC hx)
                                  have HD9 := Lib.hid (HDs.out.put9H (y := mkC ms on) (A2 := none) (n2 := 0) (k2 := 0) (A2' := Qn) (n2' := jn) (k2' := pn) (Nat.le_trans HSZ.out hX) (fun z hz => by
                                    rcases List.mem_append.1 hz with e | e
                                    · exact hgx z e
                                    · rcases List.mem_cons.1 e with e | e
                                      · rw [e]; exact Nat.ne_of_lt (Nat.lt_of_lt_of_le (HRL.out (cb1, cells9 (mkC zs ov) none 0 0 Q jj pp, (30 : TypeId)) (by simp)) hX)
                                      · exact Nat.ne_of_lt (Nat.lt_of_lt_of_le (HRL.out z (by simp [e])) hX)))
                                  have S9 := Lib.hid (HEQ.out _ _ _ HD9.out (by simp))
                                  have hnq : w6.heap.size ≠ cb1 := Nat.ne_of_gt (Nat.lt_of_lt_of_le (HRL.out (cb1, cells9 (mkC zs ov) none 0 0 Q jj pp, (30 : TypeId)) (by simp)) hX)
                                  unfold put9 at S9 HD9
                                  obtain ⟨r0, r1, r2, r3, r4, r5, r6, r7, r8⟩ := HX8.out.cells
                                  have zr := HX8.out.fz
                                  have HK8 := Lib.hid k8
                                  have HG8 : Hid (∀ y ∈ En, y.2.2 = 85) := fun y hy => (g8 y hy).2
                                  have HC8 := Lib.hid c8
                                  have HF8 := Lib.hid f8
                                  have HO8 := Lib.hid (saved2 HFO.out HDJ.out hk8)
                                  have HN8 := Lib.hid (count HCT.out hn8 f8.lnn)
                                  clear d8 k8 g8 c8 f8 hn8 hk8 hgx hX))))
                  all_goals
                    go_wp2_with fail
                    go_meet
                    case rel => exact ⟨_, rfl, .inl ⟨Qn, jn, pn, En, on, Ln, V2, m2, rfl, HD9.out, HK8.out, HG8.out, HC8.out, HF8.out, HO8.out.1, HO8.out.2, HN8.out⟩⟩
                | false =>
                  have HSAVE : Hid (∀ W F', Dk w W B d q p pd pm 0 0 F' 400 (newD 400) V → (∀ x ∈ R, x ∈ F') → ∀ A2 c2, IntsAt W W.heap.size A2 ms.length ms → ms.length ≤ c2 → (A2 = none ∨ ∃ b o, A2 = some ⟨b, o, none⟩) → Calls Tryz.prog 13 #[.pointer (some ⟨d, 0, none⟩), .agg #[.int .i64 2, .int .i64 1, .int .i64 1, .int .i64 0, .slice none 0 0, .int .i64 0, .int .i64 0, .slice Q jj pp, .int .i64 ov], .slice A2 ms.length c2] W fun e w' => e = .returned (.tuple #[cdv zeroC none 0 0 none 0 0, .int .i64 12]) ∧ Dk w w' B d q p pd pm 0 0 F' 400 (newD 400) V) := fun W F' hd hm A2 c2 hi hc ha => (save_large hd HCD.out (HFS.out.at_ HKC.out (hd.fx.sub fun x hx => hm x (HSS.out x hx))) A2 ha _ c2 _ _ hi (Nat.le_refl _) (by have := HML.out; omega) hc hE).mono fun e w' ⟨he, hb⟩ => ⟨he, hd.below hb⟩
                  clear hE
                  go_region_held3 (fun W => (W).cell? ⟨cb1, 0, none⟩ = some (.int .i64 2) ∧ (W).cell? ⟨cb1, 1, none⟩ = some (.int .i64 1) ∧ (W).cell? ⟨cb1, 2, none⟩ = some (.int .i64 1) ∧ (W).cell? ⟨cb1, 3, none⟩ = some (.int .i64 0) ∧ (W).cell? ⟨cb1, 4, none⟩ = some (.slice none 0 0) ∧ (W).cell? ⟨cb1, 5, none⟩ = some (.int .i64 0) ∧ (W).cell? ⟨cb1, 6, none⟩ = some (.int .i64 0) ∧ (W).cell? ⟨cb1, 7, none⟩ = some (.slice Q jj pp) ∧ (W).cell? ⟨cb1, 8, none⟩ = some (.int .i64 ov) ∧ (W).cell? ⟨bb, o + t, none⟩ = some (.slice Am lm cm))
                    (first | with_reducible exact S9.out | with_reducible exact S8a.out | with_reducible exact S8.out | with_reducible exact S7a.out | with_reducible exact S7.out | with_reducible exact S6a.out | with_reducible exact S6d.out | with_reducible exact S6.out)
                    (first
                      | (go_at_call 10; first
                          | (with_reducible refine (HIN2.out _ HBd.out).mono ?_
                             rintro e w7 ⟨v, rfl, ow, b7⟩
                             have HD7 : Hid (Dk w (w7) B d q p pd pm 0 0 ((cb1, cells9 (mkC zs ov) none 0 0 Q jj pp, (30 : TypeId)) :: R) 400 (newD 400) V) := HD6d.out.below b7
                             have HB7 : Hid (w6.heap.size ≤ w7.heap.size) := b7.size
                             have HPA : Hid True := trivial
                             obtain ⟨A2, c2, rfl, hc2, ha2⟩ := own_form ow
                             have hia := Lg.IntsAt.of_own ow rfl HMF.out
                             have S7 : Hid ((w7).cell? ⟨cb1, 0, none⟩ = some (.int .i64 2) ∧ (w7).cell? ⟨cb1, 1, none⟩ = some (.int .i64 1) ∧ (w7).cell? ⟨cb1, 2, none⟩ = some (.int .i64 1) ∧ (w7).cell? ⟨cb1, 3, none⟩ = some (.int .i64 0) ∧ (w7).cell? ⟨cb1, 4, none⟩ = some (.slice none 0 0) ∧ (w7).cell? ⟨cb1, 5, none⟩ = some (.int .i64 0) ∧ (w7).cell? ⟨cb1, 6, none⟩ = some (.int .i64 0) ∧ (w7).cell? ⟨cb1, 7, none⟩ = some (.slice Q jj pp) ∧ (w7).cell? ⟨cb1, 8, none⟩ = some (.int .i64 ov) ∧ (w7).cell? ⟨bb, o + t, none⟩ = some (.slice Am lm cm)) := HEQ.out _ _ _ HD7.out (by simp)
                             have HSV7 := Lib.hid (HSAVE.out w7 _ HD7.out (fun x hx => by simp [hx]) A2 c2 hia hc2 ha2)
                             have HD7a := Lib.hid ((HD7.out.below (HAL.out w7 (.cells #[.int .i64 0, .int .i64 0, .int .i64 0, .int .i64 0, .slice none 0 0, .int .i64 0, .int .i64 0, .slice none 0 0, .int .i64 0] 30))).add (HZN.out w7) (by decide))
                             have S7a : Hid ((w7.alloc (.cells #[.int .i64 0, .int .i64 0, .int .i64 0, .int .i64 0, .slice none 0 0, .int .i64 0, .int .i64 0, .slice none 0 0, .int .i64 0] 30)).cell? ⟨cb1, 0, none⟩ = some (.int .i64 2) ∧ (w7.alloc (.cells #[.int .i64 0, .int .i64 0, .int .i64 0, .int .i64 0, .slice none 0 0, .int .i64 0, .int .i64 0, .slice none 0 0, .int .i64 0] 30)).cell? ⟨cb1, 1, none⟩ = some (.int .i64 1) ∧ (w7.alloc (.cells #[.int .i64 0, .int .i64 0, .int .i64 0, .int .i64 0, .slice none 0 0, .int .i64 0, .int .i64 0, .slice none 0 0, .int .i64 0] 30)).cell? ⟨cb1, 2, none⟩ = some (.int .i64 1) ∧ (w7.alloc (.cells #[.int .i64 0, .int .i64 0, .int .i64 0, .int .i64 0, .slice none 0 0, .int .i64 0, .int .i64 0, .slice none 0 0, .int .i64 0] 30)).cell? ⟨cb1, 3, none⟩ = some (.int .i64 0) ∧ (w7.alloc (.cells #[.int .i64 0, .int .i64 0, .int .i64 0, .int .i64 0, .slice none 0 0, .int .i64 0, .int .i64 0, .slice none 0 0, .int .i64 0] 30)).cell? ⟨cb1, 4, none⟩ = some (.slice none 0 0) ∧ (w7.alloc (.cells #[.int .i64 0, .int .i64 0, .int .i64 0, .int .i64 0, .slice none 0 0, .int .i64 0, .int .i64 0, .slice none 0 0, .int .i64 0] 30)).cell? ⟨cb1, 5, none⟩ = some (.int .i64 0) ∧ (w7.alloc (.cells #[.int .i64 0, .int .i64 0, .int .i64 0, .int .i64 0, .slice none 0 0, .int .i64 0, .int .i64 0, .slice none 0 0, .int .i64 0] 30)).cell? ⟨cb1, 6, none⟩ = some (.int .i64 0) ∧ (w7.alloc (.cells #[.int .i64 0, .int .i64 0, .int .i64 0, .int .i64 0, .slice none 0 0, .int .i64 0, .int .i64 0, .slice none 0 0, .int .i64 0] 30)).cell? ⟨cb1, 7, none⟩ = some (.slice Q jj pp) ∧ (w7.alloc (.cells #[.int .i64 0, .int .i64 0, .int .i64 0, .int .i64 0, .slice none 0 0, .int .i64 0, .int .i64 0, .slice none 0 0, .int .i64 0] 30)).cell? ⟨cb1, 8, none⟩ = some (.int .i64 ov) ∧ (w7.alloc (.cells #[.int .i64 0, .int .i64 0, .int .i64 0, .int .i64 0, .slice none 0 0, .int .i64 0, .int .i64 0, .slice none 0 0, .int .i64 0] 30)).cell? ⟨bb, o + t, none⟩ = some (.slice Am lm cm)) := HEQ.out _ _ _ HD7a.out (by simp)
                             have HSV7a := Lib.hid (HSAVE.out (w7.alloc (.cells #[.int .i64 0, .int .i64 0, .int .i64 0, .int .i64 0, .slice none 0 0, .int .i64 0, .int .i64 0, .slice none 0 0, .int .i64 0] 30)) _ HD7a.out (fun x hx => by simp [hx]) A2 c2 ((hia.below (HAL.out w7 _) (Nat.le_refl _)).more (HAL.out w7 _).size) hc2 ha2)
                             clear ow hia b7 hc2)
                          | (with_reducible refine (HIN2.out _ HBa.out).mono ?_
                             rintro e w7 ⟨v, rfl, ow, b7⟩
                             have HD7 : Hid (Dk w (w7) B d q p pd pm 0 0 ((w6.heap.size, cells9 zeroC none 0 0 none 0 0, (30 : TypeId)) :: (cb1, cells9 (mkC zs ov) none 0 0 Q jj pp, (30 : TypeId)) :: R) 400 (newD 400) V) := HD6a.out.below b7
                             obtain ⟨A2, c2, rfl, hc2, ha2⟩ := own_form ow
                             have hia := Lg.IntsAt.of_own ow rfl HMF.out
                             have S7 : Hid ((w7).cell? ⟨cb1, 0, none⟩ = some (.int .i64 2) ∧ (w7).cell? ⟨cb1, 1, none⟩ = some (.int .i64 1) ∧ (w7).cell? ⟨cb1, 2, none⟩ = some (.int .i64 1) ∧ (w7).cell? ⟨cb1, 3, none⟩ = some (.int .i64 0) ∧ (w7).cell? ⟨cb1, 4, none⟩ = some (.slice none 0 0) ∧ (w7).cell? ⟨cb1, 5, none⟩ = some (.int .i64 0) ∧ (w7).cell? ⟨cb1, 6, none⟩ = some (.int .i64 0) ∧ (w7).cell? ⟨cb1, 7, none⟩ = some (.slice Q jj pp) ∧ (w7).cell? ⟨cb1, 8, none⟩ = some (.int .i64 ov) ∧ (w7).cell? ⟨bb, o + t, none⟩ = some (.slice Am lm cm)) := HEQ.out _ _ _ HD7.out (by simp)
                             have HSV7 := Lib.hid (HSAVE.out w7 _ HD7.out (fun x hx => by simp [hx]) A2 c2 hia hc2 ha2)
                             have HD7a := Lib.hid ((HD7.out.below (HAL.out w7 (.cells #[.int .i64 0, .int .i64 0, .int .i64 0, .int .i64 0, .slice none 0 0, .int .i64 0, .int .i64 0, .slice none 0 0, .int .i64 0] 30))).add (HZN.out w7) (by decide))
                             have S7a : Hid ((w7.alloc (.cells #[.int .i64 0, .int .i64 0, .int .i64 0, .int .i64 0, .slice none 0 0, .int .i64 0, .int .i64 0, .slice none 0 0, .int .i64 0] 30)).cell? ⟨cb1, 0, none⟩ = some (.int .i64 2) ∧ (w7.alloc (.cells #[.int .i64 0, .int .i64 0, .int .i64 0, .int .i64 0, .slice none 0 0, .int .i64 0, .int .i64 0, .slice none 0 0, .int .i64 0] 30)).cell? ⟨cb1, 1, none⟩ = some (.int .i64 1) ∧ (w7.alloc (.cells #[.int .i64 0, .int .i64 0, .int .i64 0, .int .i64 0, .slice none 0 0, .int .i64 0, .int .i64 0, .slice none 0 0, .int .i64 0] 30)).cell? ⟨cb1, 2, none⟩ = some (.int .i64 1) ∧ (w7.alloc (.cells #[.int .i64 0, .int .i64 0, .int .i64 0, .int .i64 0, .slice none 0 0, .int .i64 0, .int .i64 0, .slice none 0 0, .int .i64 0] 30)).cell? ⟨cb1, 3, none⟩ = some (.int .i64 0) ∧ (w7.alloc (.cells #[.int .i64 0, .int .i64 0, .int .i64 0, .int .i64 0, .slice none 0 0, .int .i64 0, .int .i64 0, .slice none 0 0, .int .i64 0] 30)).cell? ⟨cb1, 4, none⟩ = some (.slice none 0 0) ∧ (w7.alloc (.cells #[.int .i64 0, .int .i64 0, .int .i64 0, .int .i64 0, .slice none 0 0, .int .i64 0, .int .i64 0, .slice none 0 0, .int .i64 0] 30)).cell? ⟨cb1, 5, none⟩ = some (.int .i64 0) ∧ (w7.alloc (.cells #[.int .i64 0, .int .i64 0, .int .i64 0, .int .i64 0, .slice none 0 0, .int .i64 0, .int .i64 0, .slice none 0 0, .int .i64 0] 30)).cell? ⟨cb1, 6, none⟩ = some (.int .i64 0) ∧ (w7.alloc (.cells #[.int .i64 0, .int .i64 0, .int .i64 0, .int .i64 0, .slice none 0 0, .int .i64 0, .int .i64 0, .slice none 0 0, .int .i64 0] 30)).cell? ⟨cb1, 7, none⟩ = some (.slice Q jj pp) ∧ (w7.alloc (.cells #[.int .i64 0, .int .i64 0, .int .i64 0, .int .i64 0, .slice none 0 0, .int .i64 0, .int .i64 0, .slice none 0 0, .int .i64 0] 30)).cell? ⟨cb1, 8, none⟩ = some (.int .i64 ov) ∧ (w7.alloc (.cells #[.int .i64 0, .int .i64 0, .int .i64 0, .int .i64 0, .slice none 0 0, .int .i64 0, .int .i64 0, .slice none 0 0, .int .i64 0] 30)).cell? ⟨bb, o + t, none⟩ = some (.slice Am lm cm)) := HEQ.out _ _ _ HD7a.out (by simp)
                             have HSV7a := Lib.hid (HSAVE.out (w7.alloc (.cells #[.int .i64 0, .int .i64 0, .int .i64 0, .int .i64 0, .slice none 0 0, .int .i64 0, .int .i64 0, .slice none 0 0, .int .i64 0] 30)) _ HD7a.out (fun x hx => by simp [hx]) A2 c2 ((hia.below (HAL.out w7 _) (Nat.le_refl _)).more (HAL.out w7 _).size) hc2 ha2)
                             clear ow hia b7 hc2))
                      | (go_at_call 13; first
                          | (with_reducible refine HSV7a.out.mono ?_
                             rintro e w8 ⟨rfl, d8⟩
                             have HD8 : Hid (Dk w (w8) B d q p pd pm 0 0 (((w7.heap.size, cells9 zeroC none 0 0 none 0 0, (30 : TypeId)) :: (cb1, cells9 (mkC zs ov) none 0 0 Q jj pp, (30 : TypeId)) :: R)) 400 (newD 400) V) := d8
                             have hX : w6.heap.size ≤ w7.heap.size := HB7.out
                             have S8 : Hid ((w8).cell? ⟨cb1, 0, none⟩ = some (.int .i64 2) ∧ (w8).cell? ⟨cb1, 1, none⟩ = some (.int .i64 1) ∧ (w8).cell? ⟨cb1, 2, none⟩ = some (.int .i64 1) ∧ (w8).cell? ⟨cb1, 3, none⟩ = some (.int .i64 0) ∧ (w8).cell? ⟨cb1, 4, none⟩ = some (.slice none 0 0) ∧ (w8).cell? ⟨cb1, 5, none⟩ = some (.int .i64 0) ∧ (w8).cell? ⟨cb1, 6, none⟩ = some (.int .i64 0) ∧ (w8).cell? ⟨cb1, 7, none⟩ = some (.slice Q jj pp) ∧ (w8).cell? ⟨cb1, 8, none⟩ = some (.int .i64 ov) ∧ (w8).cell? ⟨bb, o + t, none⟩ = some (.slice Am lm cm)) := HEQ.out _ _ _ d8 (by simp)
                             have HX8 : Hid (CdRow w8 (w7.heap.size) zeroC none 0 0 none 0 0) := crow_mem HD8.out.fx (by simp)
                             have HD9 := Lib.hid (HD8.out.put9H (y := zeroC) (A2 := none) (n2 := 0) (k2 := 0) (A2' := none) (n2' := 0) (k2' := 0) (Nat.le_trans HSZ.out hX) (fun z hz => Nat.ne_of_lt (Nat.lt_of_lt_of_le (HRL.out z hz) hX)))
                             have S9 := Lib.hid (HEQ.out _ _ _ HD9.out (by simp))
                             have hnq : w7.heap.size ≠ cb1 := Nat.ne_of_gt (Nat.lt_of_lt_of_le (HRL.out (cb1, cells9 (mkC zs ov) none 0 0 Q jj pp, (30 : TypeId)) (by simp)) hX)
                             unfold put9 at S9 HD9
                             obtain ⟨r0, r1, r2, r3, r4, r5, r6, r7, r8⟩ := HX8.out.cells
                             have zr := HX8.out.fz
                             clear d8 hX)
                          | (with_reducible refine HSV7.out.mono ?_
                             rintro e w8 ⟨rfl, d8⟩
                             first
                               | (have hpa := HPA
                                  have HD8 : Hid (Dk w (w8) B d q p pd pm 0 0 (((cb1, cells9 (mkC zs ov) none 0 0 Q jj pp, (30 : TypeId)) :: R)) 400 (newD 400) V) := d8
                                  have S8 : Hid ((w8).cell? ⟨cb1, 0, none⟩ = some (.int .i64 2) ∧ (w8).cell? ⟨cb1, 1, none⟩ = some (.int .i64 1) ∧ (w8).cell? ⟨cb1, 2, none⟩ = some (.int .i64 1) ∧ (w8).cell? ⟨cb1, 3, none⟩ = some (.int .i64 0) ∧ (w8).cell? ⟨cb1, 4, none⟩ = some (.slice none 0 0) ∧ (w8).cell? ⟨cb1, 5, none⟩ = some (.int .i64 0) ∧ (w8).cell? ⟨cb1, 6, none⟩ = some (.int .i64 0) ∧ (w8).cell? ⟨cb1, 7, none⟩ = some (.slice Q jj pp) ∧ (w8).cell? ⟨cb1, 8, none⟩ = some (.int .i64 ov) ∧ (w8).cell? ⟨bb, o + t, none⟩ = some (.slice Am lm cm)) := HEQ.out _ _ _ d8 (by simp)
                                  have S8a : Hid ((w8.alloc (.cells #[.int .i64 0, .int .i64 0, .int .i64 0, .int .i64 0, .slice none 0 0, .int .i64 0, .int .i64 0, .slice none 0 0, .int .i64 0] 30)).cell? ⟨cb1, 0, none⟩ = some (.int .i64 2) ∧ (w8.alloc (.cells #[.int .i64 0, .int .i64 0, .int .i64 0, .int .i64 0, .slice none 0 0, .int .i64 0, .int .i64 0, .slice none 0 0, .int .i64 0] 30)).cell? ⟨cb1, 1, none⟩ = some (.int .i64 1) ∧ (w8.alloc (.cells #[.int .i64 0, .int .i64 0, .int .i64 0, .int .i64 0, .slice none 0 0, .int .i64 0, .int .i64 0, .slice none 0 0, .int .i64 0] 30)).cell? ⟨cb1, 2, none⟩ = some (.int .i64 1) ∧ (w8.alloc (.cells #[.int .i64 0, .int .i64 0, .int .i64 0, .int .i64 0, .slice none 0 0, .int .i64 0, .int .i64 0, .slice none 0 0, .int .i64 0] 30)).cell? ⟨cb1, 3, none⟩ = some (.int .i64 0) ∧ (w8.alloc (.cells #[.int .i64 0, .int .i64 0, .int .i64 0, .int .i64 0, .slice none 0 0, .int .i64 0, .int .i64 0, .slice none 0 0, .int .i64 0] 30)).cell? ⟨cb1, 4, none⟩ = some (.slice none 0 0) ∧ (w8.alloc (.cells #[.int .i64 0, .int .i64 0, .int .i64 0, .int .i64 0, .slice none 0 0, .int .i64 0, .int .i64 0, .slice none 0 0, .int .i64 0] 30)).cell? ⟨cb1, 5, none⟩ = some (.int .i64 0) ∧ (w8.alloc (.cells #[.int .i64 0, .int .i64 0, .int .i64 0, .int .i64 0, .slice none 0 0, .int .i64 0, .int .i64 0, .slice none 0 0, .int .i64 0] 30)).cell? ⟨cb1, 6, none⟩ = some (.int .i64 0) ∧ (w8.alloc (.cells #[.int .i64 0, .int .i64 0, .int .i64 0, .int .i64 0, .slice none 0 0, .int .i64 0, .int .i64 0, .slice none 0 0, .int .i64 0] 30)).cell? ⟨cb1, 7, none⟩ = some (.slice Q jj pp) ∧ (w8.alloc (.cells #[.int .i64 0, .int .i64 0, .int .i64 0, .int .i64 0, .slice none 0 0, .int .i64 0, .int .i64 0, .slice none 0 0, .int .i64 0] 30)).cell? ⟨cb1, 8, none⟩ = some (.int .i64 ov) ∧ (w8.alloc (.cells #[.int .i64 0, .int .i64 0, .int .i64 0, .int .i64 0, .slice none 0 0, .int .i64 0, .int .i64 0, .slice none 0 0, .int .i64 0] 30)).cell? ⟨bb, o + t, none⟩ = some (.slice Am lm cm)) := HEQ.out _ _ _ (d8.below (HAL.out w8 (.cells #[.int .i64 0, .int .i64 0, .int .i64 0, .int .i64 0, .slice none 0 0, .int .i64 0, .int .i64 0, .slice none 0 0, .int .i64 0] 30))) (by simp)
                                  have HD9 := Lib.hid ((d8.below (HAL.out w8 (.cells (cells9 zeroC none 0 0 none 0 0) 30))).add (show _ = _ from CdRow.new w8 zeroC none 0 0 none 0 0) (by decide))
                                  have S9 := Lib.hid (HEQ.out _ _ _ HD9.out (by simp))
                                  unfold cells9 at S9
                                  have hne8 : w8.heap.size ≠ cb1 := Nat.ne_of_gt (HD8.out.fx.lt (x := (cb1, cells9 (mkC zs ov) none 0 0 Q jj pp, (30 : TypeId))) (by simp))
                                  clear d8)
                               | (have HD8 : Hid (Dk w (w8) B d q p pd pm 0 0 (((w6.heap.size, cells9 zeroC none 0 0 none 0 0, (30 : TypeId)) :: (cb1, cells9 (mkC zs ov) none 0 0 Q jj pp, (30 : TypeId)) :: R)) 400 (newD 400) V) := d8
                                  have hX : w6.heap.size ≤ w6.heap.size := Nat.le_refl _
                                  have S8 : Hid ((w8).cell? ⟨cb1, 0, none⟩ = some (.int .i64 2) ∧ (w8).cell? ⟨cb1, 1, none⟩ = some (.int .i64 1) ∧ (w8).cell? ⟨cb1, 2, none⟩ = some (.int .i64 1) ∧ (w8).cell? ⟨cb1, 3, none⟩ = some (.int .i64 0) ∧ (w8).cell? ⟨cb1, 4, none⟩ = some (.slice none 0 0) ∧ (w8).cell? ⟨cb1, 5, none⟩ = some (.int .i64 0) ∧ (w8).cell? ⟨cb1, 6, none⟩ = some (.int .i64 0) ∧ (w8).cell? ⟨cb1, 7, none⟩ = some (.slice Q jj pp) ∧ (w8).cell? ⟨cb1, 8, none⟩ = some (.int .i64 ov) ∧ (w8).cell? ⟨bb, o + t, none⟩ = some (.slice Am lm cm)) := HEQ.out _ _ _ d8 (by simp)
                                  have HX8 : Hid (CdRow w8 (w6.heap.size) zeroC none 0 0 none 0 0) := crow_mem HD8.out.fx (by simp)
                                  have HD9 := Lib.hid (HD8.out.put9H (y := zeroC) (A2 := none) (n2 := 0) (k2 := 0) (A2' := none) (n2' := 0) (k2' := 0) (Nat.le_trans HSZ.out hX) (fun z hz => Nat.ne_of_lt (Nat.lt_of_lt_of_le (HRL.out z hz) hX)))
                                  have S9 := Lib.hid (HEQ.out _ _ _ HD9.out (by simp))
                                  have hnq : w6.heap.size ≠ cb1 := Nat.ne_of_gt (Nat.lt_of_lt_of_le (HRL.out (cb1, cells9 (mkC zs ov) none 0 0 Q jj pp, (30 : TypeId)) (by simp)) hX)
                                  unfold put9 at S9 HD9
                                  obtain ⟨r0, r1, r2, r3, r4, r5, r6, r7, r8⟩ := HX8.out.cells
                                  have zr := HX8.out.fz
                                  clear d8 hX))))
                  all_goals
                    go_wp2_with fail
                    go_meet
                    case rel => exact ⟨_, rfl, .inr ⟨rfl, HD9.out⟩⟩
              case rest =>
                obtain ⟨X, rfl, hcut⟩ := hcut
                clear HBd HBa HD6d HD6a S6 S6d S6a HEQ
                rcases hcut with ⟨Qn, jn, pn, En, on, Ln, V2, m2, rfl, hdx, hk2, hg2, hc2, hf2, hfo2, hdj2, hct2⟩ | ⟨rfl, hdx⟩
                · have HXR : Hid (CdRow wc X (mkC ms on) none 0 0 Qn jn pn) := hdx.out.box
                  unfold mkC at HXR
                  obtain ⟨x0, x1, x2, x3, x4, x5, x6, x7, x8⟩ := HXR.out.cells
                  have HSR : Hid (CdRow wc cb1 (mkC zs ov) none 0 0 Q jj pp) := crow_mem hdx.out.fx (by simp)
                  obtain ⟨r0, r1, r2, r3, r4, r5, r6, r7, r8⟩ := HSR.out.cells
                  have zr := HSR.out.fz
                  simp only at x0 x1 x2 x3 x4 x5 x6 x7 x8
                  have hds : Dk w (wc) B d q p pd pm 0 0 ((cb1, cells9 (mkC zs ov) none 0 0 Q jj pp, (30 : TypeId)) :: (En ++ R)) 400 (newD 400) V2 := Dk_sub hdx.out (fun x hx => subX hx)
                  have HDN : Hid (Dk w (put9 wc cb1 (mkC ms on) none 0 0 Qn jn pn) B d q p pd pm 0 0 (cbox cb1 Qn jn pn ms on :: (En ++ R)) 400 (newD 400) V2) := hds.put9H HBM1.out (fun z hz => by
                    rcases List.mem_append.1 hz with e | e
                    · exact tags_ne (hds.fx.sub fun x hx => by simp [hx]) hg2.out HSR.out z e
                    · exact HRN.out z e)
                  unfold put9 mkC at HDN
                  simp only at HDN
                  clear hds
                  go_upto_region 20 with fail
                  clear r0 r1 r2 r3 r4 r5 r6 r7 r8 zr x0 x1 x2 x3 x4 x5 x6 x7 x8
                  generalize World.setCell _ ⟨cb1, 8, none⟩ _ = wy at *
                  have hun : wy.cell? ⟨bb, o + t, none⟩ = some (.slice Am lm cm) := (HDN.out.hb.cell HBB.out).trans HU.out
                  have HIN3 := Lib.hid (HIN2.out wy HDN.out.hb)
                  go_wp2_with (go_at_call 10; refine HIN3.out.mono ?_; rintro e wz ⟨v5, rfl, ow5, b5⟩; have HB5 := Lib.hid b5; have HOW := Lib.hid ow5; clear ow5 b5)
                  go_meet
                  case rel =>
                    obtain ⟨E5, hE1, hE2, hk5⟩ := KpI.of_own HOW.out HMF.out
                    have h9 := HDN.out.below HB5.out
                    have h8 := HDN.out
                    rw [HR.out] at h8 h9
                    exact (St2.done h9 hc2.out hf2.out hfo2.out hdj2.out hct2.out hE1 hk5 HKO.out HML.out HZZ.out.2 HEE.out hE2 (h8.fx.lt (List.mem_cons_self ..)) (h8.fx.lt (List.mem_cons_of_mem _ (List.mem_append_right _ (List.mem_cons_self ..)))) hk2.out HKD.out hg2.out HTG.out).swap
                · go_wp2_with fail
                  go_meet
                  case rel =>
                    have h9 := hdx.out.drop
                    rw [HR.out] at h9
                    have h10 : St2 w wc B d q p pd pm cb1 cb0 u9 u8 := ⟨V, m, Q, jj, pp, zs, ov, L, SS, ES, Qo, jo, po, zo, oo, Lo, SO, EO, h9, HCD.out, HFS.out, HFO.out, HDJ.out, HCT.out, HKS.out, HKO.out, HZZ.out, HEE.out, HKC.out, HKD.out, HTG.out⟩
                    exact (h10).swap
            · have g1' : ¬ (t : Int) < (len2 : Int) := by omega
              go_wp2_with fail
              go_meet
              case rel => exact HST.out
          case rest =>
            have HS3 := hcut
            clear hcut HST
            obtain ⟨V, m, Q0, j0, p0, z0, o0, L0, S0x, E0x, Q1, j1, p1, z1, o1, L1, S1x, E1x, hd, hc, hf0, hf1, hdj, hct, hk0, hk1, hzz, hee, hkc0, hkc1, htg⟩ := HS3.out
            obtain ⟨A0, k0, rfl, hk0c, -, hk0f⟩ := hk0
            obtain ⟨A1, k1, rfl, hk1c, -, hk1f⟩ := hk1
            have HDD := Lib.hid hd
            have HCC := Lib.hid hc
            have HF0 := Lib.hid hf0
            have HF1 := Lib.hid hf1
            have HK0 := Lib.hid hk0f
            have HK1 := Lib.hid hk1f
            have HZZ := Lib.hid hzz
            have HLD0 := Lib.hid (load_of hd hc (hf0.at_ hkc0 (hd.fx.sub fun x hx => by simp [hx])))
            have HLD1 : Hid (∀ W, Below wc.heap.size wc W → _) := fun W hW => load_of (hd.below hW) hc (hf1.at_ hkc1 ((hd.below hW).fx.sub fun x hx => by simp [hx]))
            have HX0 : Hid (CdRow wc cb0 (mkC z0 o0) none 0 0 Q0 j0 p0) := crow_mem hd.fx (by simp)
            have HX1 : Hid (CdRow wc cb1 (mkC z1 o1) none 0 0 Q1 j1 p1) := crow_mem hd.fx (by simp)
            have HWA := Lib.hid (fun W (hW : Below wc.heap.size wc W) => wide_any A0 z0.length k0 W.heap.size z0 W (hk0f W (fun x hx => (hd.below hW).fx x (by simp [hx]))) (Nat.le_refl _) (by have := hzz.1; omega))
            have HWB := Lib.hid (fun W (hW : Below wc.heap.size wc W) => wide_any A1 z1.length k1 W.heap.size z1 W (hk1f W (fun x hx => (hd.below hW).fx x (by simp [hx]))) (Nat.le_refl _) (by have := hzz.2; omega))
            unfold mkC at HX0 HX1
            unfold cdv mkC at HLD0 HLD1
            simp only at HLD0 HLD1
            obtain ⟨e0, e1, e2, e3, e4, e5, e6, e7, e8⟩ := HX0.out.cells
            simp only at e0 e1 e2 e3 e4 e5 e6 e7 e8
            clear hd hc hf0 hf1 hdj hct hk0f hk1f hzz hee hkc0 hkc1 htg
            go_wp2_with (first
              | (go_at_call 15; refine HSMb.out.mono ?_; rintro e wF ⟨rfl, bF⟩
                 have HBF := Lib.hid (HBE.out.trans (bF.mono HBE.out.size))
                 clear bF)
              | (go_at_call 18; have hm := HBD; refine (HWB.out wD HBD.out).mono ?_; rintro e wE ⟨gwb, hgwb, rfl, rowe, bE⟩
                 have HBE := Lib.hid (HBD.out.trans (bE.mono HBD.out.size))
                 have HSMb := Lib.hid (whole_same HR1D.out bE rowe (whole_fit (b := 400) (by omega) HF1.out.pt))
                 clear bE rowe hgwb hm)
              | (go_at_call 15; refine HSMa.out.mono ?_; rintro e wD ⟨rfl, bD⟩
                 have HBD := Lib.hid (HBC.out.trans (bD.mono HBC.out.size))
                 have HR1D := Lib.hid (HR1C.out.below bD (Nat.le_refl _))
                 clear bD)
              | (go_at_call 18; refine (HWA.out wB HBB.out).mono ?_; rintro e wC ⟨gwa, hgwa, rfl, rowc, bC⟩
                 have HBC := Lib.hid (HBB.out.trans (bC.mono HBB.out.size))
                 have HR1C := Lib.hid (HR1.out.below bC (Nat.le_refl _))
                 have HSMa := Lib.hid (whole_same HR0B.out bC rowc (whole_fit (b := 400) (by omega) HF0.out.pt))
                 clear bC rowc hgwa)
              | (go_at_call 16; have hm := HBA; refine (HLD1.out wA HBA.out).mono ?_; rintro e wB ⟨gm1, hgm1, rfl, row1, bB⟩
                 have HBB := Lib.hid (HBA.out.trans (bB.mono HBA.out.size))
                 have HR0B := Lib.hid (HR0.out.below bB (Nat.le_refl _))
                 have HR1 := Lib.hid row1
                 clear bB row1 hgm1 hm)
              | (go_at_call 16; refine HLD0.out.mono ?_; rintro e wA ⟨gm0, hgm0, rfl, row0, bA⟩
                 have HBA := Lib.hid bA
                 have HR0 := Lib.hid row0
                 have HX1A := Lib.hid (HX1.out.below bA HX1.out.lt)
                 clear e0 e1 e2 e3 e4 e5 e6 e7 e8
                 obtain ⟨e0, e1, e2, e3, e4, e5, e6, e7, e8⟩ := HX1A.out.cells
                 simp only at e0 e1 e2 e3 e4 e5 e6 e7 e8
                 clear bA row0 hgm0))
            go_roundg (8 - (t + 1))
            case rel => exact ⟨t + 1, by omega, by omega, by go_num, HS3.out.below HBF.out⟩
            case measure => omega
    · have HBW := Lib.hid HST.out.hb
      by_cases h8 : t < 8
      · have h8' : (t : Int) < 8 := by omega
        have hA' : ¬ (t : Int) < (len1 : Int) := by omega
        have hB' : ¬ (t : Int) < (len2 : Int) := by omega
        go_wp2_with fail
        go_ret
        exact ⟨rfl, HBW.out⟩
      · have h8' : ¬ (t : Int) < 8 := by omega
        go_wp2_with fail
        go_ret
        exact ⟨rfl, HBW.out⟩

set_option maxRecDepth 100000 in
theorem lifted (os : Os) (started : os.Started) (H : Type) (enc : TypeId × Value → H) :
    ReturnsInHanded {} Tryz.checked os 5 .any (Rows.runsApartSpec.pre6 enc Tryz.prog Tryz.f5 Rows.runsApartRow.domain false) (Rows.runsApartSpec.post enc Tryz.prog Tryz.f5 false true false false) := by
  refine returnsInHanded_of_change_sized (C := Tryz.checked) own started (by kernel_rfl) Tryz.func5
    (ChangeSpec.witness6 (enc := enc) (C := Tryz.checked) false ⟨#[], #[.slice none 0 0, .slice none 0 0], []⟩ 8 (by kernel_rfl) (by kernel_rfl) (by kernel_rfl) (by kernel_rfl)) ?_
  intro W base args ds gs before hval0 hW hcnd hsz0 _
  have hval : ∀ (j : Nat) t v, Tryz.f5.params[j]? = some t → args[j]? = some v → Value.okWide Tryz.prog W .any base t v := hval0
  have hW' := hW
  obtain ⟨p, q, hA0, hV, rfl, hfz, hnd⟩ := hW
  have hA : DataW.TrodAll enc Tryz.prog W 0 (fun _ => true) true Tryz.f5.params.toList args.toList ds p := hA0
  rw [Tryz.params5] at hA hval
  obtain ⟨v0, vs0, d0, ds0, p0, q0, hargs, rfl, rfl, h0, r0⟩ := trodAll_cons hA
  obtain ⟨v1, vs1, d1, ds1, p1, q1, rfl, rfl, rfl, h1, r1⟩ := trodAll_cons r0
  obtain ⟨rfl, rfl, rfl⟩ := trodAll_nil r1
  obtain rfl : args = #[v0, v1] := by cases args; simp_all
  obtain ⟨rfl, rfl⟩ := trodVars_none hV
  have lt0 : ∀ x ∈ p0, x.block < W.heap.size := by obtain ⟨m, hm⟩ := h0; exact DataW.trod_lt m _ _ _ hm
  obtain ⟨a0, len0, cap0, rfl⟩ := okWide_slice Tryz.underlying22 (hval 0 22 v0 rfl rfl)
  obtain ⟨l0, w0⟩ := lists_open h0
  have lt1 : ∀ x ∈ p1, x.block < W.heap.size := by obtain ⟨m, hm⟩ := h1; exact DataW.trod_lt m _ _ _ hm
  obtain ⟨a1, len1, cap1, rfl⟩ := okWide_slice Tryz.underlying22 (hval 1 22 v1 rfl rfl)
  obtain ⟨l1, w1⟩ := lists_open h1
  clear hA0 hval0
  refine (walk a0 len0 cap0 l0 a1 len1 cap1 l1 W w0 w1).mono fun e W' ⟨he, bel⟩ => ?_
  subst he
  exact ⟨_, rfl, _, _, _, [], _, [], hW', trodAll_mk1 (shut_bool Tryz.underlying4 _), (trodAll_cons_mk (Below.trod laidOut (by kernel_rfl) (of_decide_eq_true (by kernel_rfl)) h0 bel lt0) (trodAll_cons_mk (Below.trod laidOut (by kernel_rfl) (of_decide_eq_true (by kernel_rfl)) h1 bel lt1) trodAll_mk0)), rfl, bel.frame _, fun h => by cases h⟩

theorem over : Rows.runsApartRow.holds Tryz.pinned (OpenSpec.ofChange Rows.runsApartSpec) :=
  OpenClaim.holds_of_wide 5 Tryz.f5 rfl rfl rfl rfl rfl rfl rfl ⟨rfl, rfl, rfl, rfl, rfl⟩ rfl rfl rfl rfl rfl (by kernel_rfl) Tryz.func5 (by kernel_rfl)
    (of_decide_eq_true (by kernel_rfl)) (by unfold Func.isWrapper; first | (rw [if_pos (by decide +kernel)]; kernel_rfl) | (rw [if_neg (by decide +kernel)]; exact ⟨rfl, rfl⟩))
    (fun os started H enc _ => lifted os started H enc)

end Go.Proofs.YtgdlfiejjnjcpaaGreat.Dl.runsApart
namespace Go.Proofs.YtgdlfiejjnjcpaaGreat
theorem runsApart_proved : Rows.RunsApartSaid := Dl.runsApart.over
#print axioms runsApart_proved
end Go.Proofs.YtgdlfiejjnjcpaaGreat
