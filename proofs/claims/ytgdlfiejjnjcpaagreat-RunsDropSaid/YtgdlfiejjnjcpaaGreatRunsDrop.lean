/-
  LAW RunsDrop: for every two maps: what is saved, saved again and dropped leaves as many free blocks as ahead, and a card without blocks. No condition.
-/
import Derived.Test.YtgdlfiejjnjcpaaGreatHO
import Derived.Test.YtgdlfiejjnjcpaaGreatIA
set_option linter.unusedVariables false
set_option linter.unusedSimpArgs false
set_option maxRecDepth 100000
set_option maxHeartbeats 16000000
namespace Go.Proofs.YtgdlfiejjnjcpaaGreat.Dl.runsDrop
open Go.ChangeShapes Go.WideShapes Go.ChangeAt Go.RowKit
open Go.ChangeMaps (open_string shut_string)
open Mk
open Sl (Turns SlabAt)
open Lg (FS LogAt Whole newD newD_len newD_whole newD_get)
open Kr (crv rightK blockK kf kb kc KBox cells3 I64 inB marksK bit_marks marks_size)
open La (own laidOut ints_open)

theorem fcn400 : fcn (marksK (400 : Nat)) 400 = 349 := fcn_new 400 (by omega) 349 (by omega)
theorem whole0 : whole [] = List.replicate 120 0 := by decide
theorem need0 : need [] = 0 := by decide
theorem drop349 {a b c : Nat} (h : a + need [] = b + c) (h2 : b + c = 349) : a = 349 := by rw [need0] at h; omega
theorem sub1 {E2 E1 : Bxs} {z c : Nat × Array Value × TypeId} : ∀ x ∈ z :: (E2 ++ c :: []), x ∈ E2 ++ (z :: c :: E1) := fun x hx => by
  simp only [List.mem_cons, List.mem_append, List.not_mem_nil, or_false] at hx ⊢
  rcases hx with e | e | e <;> simp [e]
theorem sub2 {E2 E1 : Bxs} {z c : Nat × Array Value × TypeId} : ∀ x ∈ z :: (E2 ++ c :: []), x ∈ z :: (E2 ++ (c :: E1)) := fun x hx => by
  simp only [List.mem_cons, List.mem_append, List.not_mem_nil, or_false] at hx ⊢
  rcases hx with e | e | e <;> simp [e]
theorem sub3 {E1 : Bxs} {z c : Nat × Array Value × TypeId} : ∀ x ∈ z :: (E1 ++ c :: []), x ∈ z :: c :: E1 := fun x hx => by
  simp only [List.mem_cons, List.mem_append, List.not_mem_nil, or_false] at hx ⊢
  rcases hx with e | e | e <;> simp [e]
theorem ne_app {E : Bxs} {c : Nat × Array Value × TypeId} {X : Nat} (h : ∀ y ∈ E, y.1 ≠ X) (hc : c.1 ≠ X) : ∀ y ∈ E ++ c :: [], y.1 ≠ X := fun y hy => by
  rcases List.mem_append.1 hy with e | e
  · exact h y e
  · rw [List.mem_singleton.1 e]; exact hc
theorem ne_con {E : Bxs} {c : Nat × Array Value × TypeId} {X : Nat} (h : ∀ y ∈ E, y.1 ≠ X) (hc : c.1 ≠ X) : ∀ y ∈ c :: E, y.1 ≠ X := fun y hy => by
  rcases List.mem_cons.1 hy with e | e
  · rw [e]; exact hc
  · exact h y e
theorem walk (a1 : Option Addr) (len1 cap1 : Nat) (z1 : List Int) (a2 : Option Addr) (len2 cap2 : Nat) (z2 : List Int) (w : World) (h1' : IntsAt w w.heap.size a1 len1 z1 ∧ len1 ≤ cap1) (h2' : IntsAt w w.heap.size a2 len2 z2 ∧ len2 ≤ cap2) :
    Calls Tryz.prog 4 #[.slice a1 len1 cap1, .slice a2 len2 cap2] w fun e w' => e = .returned (.bool true) ∧ Below w.heap.size w w' := by
  have h1 := h1'.1
  have h2 := h2'.1
  clear h1' h2'
  have HLV := Lib.hid (lives15_any w)
  have HBG := Lib.hid (fun W => begin15_any 400 W (by omega) (by omega))
  unfold RetBg at HBG
  rw [show ((400 : Nat) : Int) = 400 from rfl] at HBG
  have HFR := Lib.hid fresh_any
  rw [frC_is] at HFR
  have HIN1 := Lib.hid (fun W (hW : Below w.heap.size w W) => inside_any 400 a1 len1 cap1 w.heap.size z1 W (h1.below hW (Nat.le_refl _)) hW.size (by omega) (by omega))
  have HIN2 := Lib.hid (fun W (hW : Below w.heap.size w W) => inside_any 400 a2 len2 cap2 w.heap.size z2 W (h2.below hW (Nat.le_refl _)) hW.size (by omega) (by omega))
  rw [show ((400 : Nat) : Int) = 400 from rfl] at HIN1 HIN2
  have hp1 : ptsOk ((400 : Nat) : Int) (inzL 400 z1) = true := inzL_ok (n := 400) (by omega) z1
  have hp2 : ptsOk ((400 : Nat) : Int) (inzL 400 z2) = true := inzL_ok (n := 400) (by omega) z2
  have HP1 := Lib.hid hp1
  have HP2 := Lib.hid hp2
  have HL1 := Lib.hid (inzL_len 400 z1)
  have HL2 := Lib.hid (inzL_len 400 z2)
  have HF1 := Lib.hid (pts_fit (by omega) hp1)
  have HF2 := Lib.hid (pts_fit (by omega) hp2)
  have HCR := Lib.hid (V0_crd (n := 400) (by omega) (by omega))
  have HFN := Lib.hid (FlAt.new (b := 400) (V0 400) (marksK (400 : Nat)) (by omega))
  cases hE : smB (inzL 400 z1) with
  | false =>
    have HS12 : Hid (∀ W B d q p pd pm, Dk w W B d q p pd pm 0 0 [] 400 (newD 400) (V0 400) → ∀ A1 c1, IntsAt W W.heap.size A1 (inzL 400 z1).length (inzL 400 z1) → (inzL 400 z1).length ≤ c1 → (A1 = none ∨ ∃ b o, A1 = some ⟨b, o, none⟩) → Calls Tryz.prog 13 #[.pointer (some ⟨d, 0, none⟩), cdv (mkC [] 0) none 0 0 none 0 0, .slice A1 (inzL 400 z1).length c1] W fun e w' => e = .returned (.tuple #[cdv zeroC none 0 0 none 0 0, .int .i64 12]) ∧ Below W.heap.size W w') := fun W B d q p pd pm hd A1 c1 hi hc ha => save_large hd HCR.out (HFN.out.at_ KpC.new (by simp [Bxs.fit])) A1 ha _ c1 _ _ hi (Nat.le_refl _) (by have := HL1.out; omega) hc hE
    clear h1 h2 hp1 hp2 hE
    generalize inzL 400 z1 = ms at *
    go_enter Tryz.func4, Tryz.ntmps4
    go_wp2_with (first
      | (go_at_call 7; refine HLV.out.mono ?_; rintro e w1 ⟨rfl, b1⟩; have HB1 := Lib.hid b1; clear b1)
      | (go_at_call 8; refine (HBG.out w1).mono ?_; rintro e w2 ⟨B, d, q, p, pd, pm, rfl, d2⟩; have HD2 := Lib.hid (d2.from HB1.out); clear d2)
      | (go_at_call 9; refine (HFR.out w2).mono ?_; rintro e w3 ⟨rfl, b3⟩
         have HD3 := Lib.hid (HD2.out.below b3)
         clear b3)
      | (go_at_call 10; refine (HIN1.out w3 HD3.out.hb).mono ?_; rintro e w4 ⟨v, rfl, ow, b4⟩
         have HD4 := Lib.hid (HD3.out.below b4)
         obtain ⟨A1, c1, rfl, hc1, ha1⟩ := own_form ow
         have hia := Lg.IntsAt.of_own ow rfl HF1.out
         have HSV := Lib.hid (HS12.out w4 _ _ _ _ _ _ HD4.out A1 c1 hia hc1 ha1)
         clear b4 ow hia)
      | (go_at_call 13; refine HSV.out.mono ?_; rintro e w5 ⟨rfl, b5⟩
         have HB5 := Lib.hid (HD4.out.hb.trans (b5.mono HD4.out.hb.size))
         clear b5))
    go_ret
    exact ⟨rfl, HB5.out.alloc HB5.out.size _⟩
  | true =>
    have HS0 : Hid (∀ W B d q p pd pm, Dk w W B d q p pd pm 0 0 [] 400 (newD 400) (V0 400) → ∀ A1 c1, IntsAt W W.heap.size A1 (inzL 400 z1).length (inzL 400 z1) → (inzL 400 z1).length ≤ c1 → (A1 = none ∨ ∃ b o, A1 = some ⟨b, o, none⟩) → Calls Tryz.prog 13 #[.pointer (some ⟨d, 0, none⟩), cdv (mkC [] 0) none 0 0 none 0 0, .slice A1 (inzL 400 z1).length c1] W (RetSv w W.heap.size B d q p pd pm 0 0 [] 400 (newD 400) (V0 400) 400 (marksK (400 : Nat)) [] (inzL 400 z1))) := fun W B d q p pd pm hd A1 c1 hi hc ha => save_fl hd HCR.out HFN.out KpC.new (by simp [Bxs.fit]) A1 ha _ c1 _ _ hi (Nat.le_refl _) (by have := HL1.out; omega) hc hE HP1.out (by rw [fcn400]; have := need6 (b := 400) (by omega) HP1.out hE (by have := HL1.out; omega); omega)
    clear h1 h2 hp1 hp2 hE
    generalize inzL 400 z1 = ms at *
    generalize inzL 400 z2 = ms2 at *
    go_enter Tryz.func4, Tryz.ntmps4
    go_wp2_with (first
      | (go_at_call 7; refine HLV.out.mono ?_; rintro e w1 ⟨rfl, b1⟩; have HB1 := Lib.hid b1; clear b1)
      | (go_at_call 8; refine (HBG.out w1).mono ?_; rintro e w2 ⟨B, d, q, p, pd, pm, rfl, d2⟩; have HD2 := Lib.hid (d2.from HB1.out); clear d2)
      | (go_at_call 9; refine (HFR.out w2).mono ?_; rintro e w3 ⟨rfl, b3⟩
         have HD3 := Lib.hid (HD2.out.below b3)
         clear b3)
      | (go_at_call 10; refine (HIN1.out w3 HD3.out.hb).mono ?_; rintro e w4 ⟨v, rfl, ow, b4⟩
         have HD4 := Lib.hid (HD3.out.below b4)
         obtain ⟨A1, c1, rfl, hc1, ha1⟩ := own_form ow
         have hia := Lg.IntsAt.of_own ow rfl HF1.out
         have HSV := Lib.hid (HS0.out w4 _ _ _ _ _ _ HD4.out A1 c1 hia hc1 ha1)
         clear b4 ow hia)
      | (go_at_call 13; refine HSV.out.mono ?_; rintro e w5 ⟨Q1, j1, p1, E1, ov1, L1, V1, m1, rfl, d5, k5, g5, c5, f5, hn5, -⟩
         have hal := (Below.refl w5.heap.size w5).alloc (Nat.le_refl _) (.cells (cells9 (mkC ms ov1) none 0 0 Q1 j1 p1) 30)
         have HC6 : Hid (CdRow (w5.alloc (.cells (cells9 (mkC ms ov1) none 0 0 Q1 j1 p1) 30)) w5.heap.size (mkC ms ov1) none 0 0 Q1 j1 p1) := CdRow.new _ _ _ _ _ _ _ _
         rw [List.append_nil] at d5
         have HD6 := Lib.hid ((d5.below hal).add (show _ = _ from HC6.out) (by decide))
         have HK1 := Lib.hid k5
         have HG1 : Hid (∀ y ∈ E1, y.2.2 = 85) := fun y hy => (g5 y hy).2
         have HCR1 := Lib.hid c5
         have HFL1 := Lib.hid f5
         have HN5 := Lib.hid hn5
         clear d5 c5 f5 k5 g5 hal hn5))
    generalize w5.alloc _ = w6 at *
    generalize w5.heap.size = cb at *
    have HZN : Hid (∀ W : World, CdRow (W.alloc (.cells #[.int .i64 0, .int .i64 0, .int .i64 0, .int .i64 0, .slice none 0 0, .int .i64 0, .int .i64 0, .slice none 0 0, .int .i64 0] 30)) W.heap.size zeroC none 0 0 none 0 0) := fun W => CdRow.new W zeroC none 0 0 none 0 0
    have HAL : Hid (∀ (W : World) o, Below W.heap.size W (W.alloc o)) := fun W o => (Below.refl _ _).alloc (Nat.le_refl _) _
    have HEQ : Hid (∀ W F' V', Dk w W B d q p pd pm 0 0 F' 400 (newD 400) V' → (cb, cells9 (mkC ms ov1) none 0 0 Q1 j1 p1, (30 : TypeId)) ∈ F' → (W).cell? ⟨cb, 0, none⟩ = some (.int .i64 2) ∧ (W).cell? ⟨cb, 1, none⟩ = some (.int .i64 1) ∧ (W).cell? ⟨cb, 2, none⟩ = some (.int .i64 1) ∧ (W).cell? ⟨cb, 3, none⟩ = some (.int .i64 0) ∧ (W).cell? ⟨cb, 4, none⟩ = some (.slice none 0 0) ∧ (W).cell? ⟨cb, 5, none⟩ = some (.int .i64 0) ∧ (W).cell? ⟨cb, 6, none⟩ = some (.int .i64 0) ∧ (W).cell? ⟨cb, 7, none⟩ = some (.slice Q1 j1 p1) ∧ (W).cell? ⟨cb, 8, none⟩ = some (.int .i64 ov1)) := fun W F' V' hd hm => by
      obtain ⟨e0, e1, e2, e3, e4, e5, e6, e7, e8⟩ := (crow_mem hd.fx hm).cells
      exact ⟨e0, e1, e2, e3, e4, e5, e6, e7, e8⟩
    have HI49 : Hid (fcn m1 400 + L1.length = 349) := by
      have h1 := HN5.out
      rw [fcn400] at h1
      have h2 := HFL1.out.lnn
      simp at h1
      show _ = _
      omega
    have HSZ : Hid (B ≤ w6.heap.size) := HD6.out.hBs
    have HCBL : Hid (cb < w6.heap.size) := HD6.out.fx.lt (x := (cb, cells9 (mkC ms ov1) none 0 0 Q1 j1 p1, (30 : TypeId))) (by simp)
    have HD6d : Hid (Dk w (w6.drew) B d q p pd pm 0 0 ((cb, cells9 (mkC ms ov1) none 0 0 Q1 j1 p1, (30 : TypeId)) :: E1) 400 (newD 400) V1) := HD6.out.below (Below.refl w6.heap.size w6).drew
    have HBd : Hid (Below w.heap.size w w6.drew) := HD6d.out.hb
    have HBa : Hid (Below w.heap.size w (w6.alloc (.cells #[.int .i64 0, .int .i64 0, .int .i64 0, .int .i64 0, .slice none 0 0, .int .i64 0, .int .i64 0, .slice none 0 0, .int .i64 0] 30)).drew) := (HD6.out.hb.alloc HD6.out.hb.size _).drew
    have HD6a : Hid (Dk w ((w6.alloc (.cells #[.int .i64 0, .int .i64 0, .int .i64 0, .int .i64 0, .slice none 0 0, .int .i64 0, .int .i64 0, .slice none 0 0, .int .i64 0] 30)).drew) B d q p pd pm 0 0 ((w6.heap.size, cells9 zeroC none 0 0 none 0 0, (30 : TypeId)) :: (cb, cells9 (mkC ms ov1) none 0 0 Q1 j1 p1, (30 : TypeId)) :: E1) 400 (newD 400) V1) := ((HD6.out.below (HAL.out _ _)).add (HZN.out w6) (by decide)).below (Below.refl _ _).drew
    have S6 : Hid ((w6).cell? ⟨cb, 0, none⟩ = some (.int .i64 2) ∧ (w6).cell? ⟨cb, 1, none⟩ = some (.int .i64 1) ∧ (w6).cell? ⟨cb, 2, none⟩ = some (.int .i64 1) ∧ (w6).cell? ⟨cb, 3, none⟩ = some (.int .i64 0) ∧ (w6).cell? ⟨cb, 4, none⟩ = some (.slice none 0 0) ∧ (w6).cell? ⟨cb, 5, none⟩ = some (.int .i64 0) ∧ (w6).cell? ⟨cb, 6, none⟩ = some (.int .i64 0) ∧ (w6).cell? ⟨cb, 7, none⟩ = some (.slice Q1 j1 p1) ∧ (w6).cell? ⟨cb, 8, none⟩ = some (.int .i64 ov1)) := HEQ.out _ _ _ HD6.out (by simp)
    have S6d : Hid ((w6.drew).cell? ⟨cb, 0, none⟩ = some (.int .i64 2) ∧ (w6.drew).cell? ⟨cb, 1, none⟩ = some (.int .i64 1) ∧ (w6.drew).cell? ⟨cb, 2, none⟩ = some (.int .i64 1) ∧ (w6.drew).cell? ⟨cb, 3, none⟩ = some (.int .i64 0) ∧ (w6.drew).cell? ⟨cb, 4, none⟩ = some (.slice none 0 0) ∧ (w6.drew).cell? ⟨cb, 5, none⟩ = some (.int .i64 0) ∧ (w6.drew).cell? ⟨cb, 6, none⟩ = some (.int .i64 0) ∧ (w6.drew).cell? ⟨cb, 7, none⟩ = some (.slice Q1 j1 p1) ∧ (w6.drew).cell? ⟨cb, 8, none⟩ = some (.int .i64 ov1)) := HEQ.out _ _ _ HD6d.out (by simp)
    have S6a : Hid (((w6.alloc (.cells #[.int .i64 0, .int .i64 0, .int .i64 0, .int .i64 0, .slice none 0 0, .int .i64 0, .int .i64 0, .slice none 0 0, .int .i64 0] 30)).drew).cell? ⟨cb, 0, none⟩ = some (.int .i64 2) ∧ ((w6.alloc (.cells #[.int .i64 0, .int .i64 0, .int .i64 0, .int .i64 0, .slice none 0 0, .int .i64 0, .int .i64 0, .slice none 0 0, .int .i64 0] 30)).drew).cell? ⟨cb, 1, none⟩ = some (.int .i64 1) ∧ ((w6.alloc (.cells #[.int .i64 0, .int .i64 0, .int .i64 0, .int .i64 0, .slice none 0 0, .int .i64 0, .int .i64 0, .slice none 0 0, .int .i64 0] 30)).drew).cell? ⟨cb, 2, none⟩ = some (.int .i64 1) ∧ ((w6.alloc (.cells #[.int .i64 0, .int .i64 0, .int .i64 0, .int .i64 0, .slice none 0 0, .int .i64 0, .int .i64 0, .slice none 0 0, .int .i64 0] 30)).drew).cell? ⟨cb, 3, none⟩ = some (.int .i64 0) ∧ ((w6.alloc (.cells #[.int .i64 0, .int .i64 0, .int .i64 0, .int .i64 0, .slice none 0 0, .int .i64 0, .int .i64 0, .slice none 0 0, .int .i64 0] 30)).drew).cell? ⟨cb, 4, none⟩ = some (.slice none 0 0) ∧ ((w6.alloc (.cells #[.int .i64 0, .int .i64 0, .int .i64 0, .int .i64 0, .slice none 0 0, .int .i64 0, .int .i64 0, .slice none 0 0, .int .i64 0] 30)).drew).cell? ⟨cb, 5, none⟩ = some (.int .i64 0) ∧ ((w6.alloc (.cells #[.int .i64 0, .int .i64 0, .int .i64 0, .int .i64 0, .slice none 0 0, .int .i64 0, .int .i64 0, .slice none 0 0, .int .i64 0] 30)).drew).cell? ⟨cb, 6, none⟩ = some (.int .i64 0) ∧ ((w6.alloc (.cells #[.int .i64 0, .int .i64 0, .int .i64 0, .int .i64 0, .slice none 0 0, .int .i64 0, .int .i64 0, .slice none 0 0, .int .i64 0] 30)).drew).cell? ⟨cb, 7, none⟩ = some (.slice Q1 j1 p1) ∧ ((w6.alloc (.cells #[.int .i64 0, .int .i64 0, .int .i64 0, .int .i64 0, .slice none 0 0, .int .i64 0, .int .i64 0, .slice none 0 0, .int .i64 0] 30)).drew).cell? ⟨cb, 8, none⟩ = some (.int .i64 ov1)) := HEQ.out _ _ _ HD6a.out (by simp)
    clear HC6 HBG HFR HIN1 HS0 HLV
    go_cut [8, 9] from 36 to 42 (fun v8 v9 wx => ∃ X : Nat, v8 = .pointer (some ⟨X, 0, none⟩) ∧ ((∃ (Q2 : Option Addr) (j2 p2 : Nat) (E2 : Bxs) (ov2 : Int) (L2 : List Int) (V2 : List ByteArray) (m2 : ByteArray), v9 = .int .i64 0 ∧ Hid (Dk w (wx) B d q p pd pm 0 0 (cbox X Q2 j2 p2 ms2 ov2 :: (E2 ++ (cb, cells9 (mkC ms ov1) none 0 0 Q1 j1 p1, (30 : TypeId)) :: [])) 400 (newD 400) V2) ∧ Hid (KpC E2 Q2 j2 p2 ms2) ∧ Hid (Crd V2 400 m2) ∧ Hid (FlAt V2 400 m2 ms2 ov2 L2) ∧ Hid (fcn m2 400 + L2.length = 349)) ∨ (v9 = .int .i64 12 ∧ Hid (Dk w (wx) B d q p pd pm 0 0 ((X, cells9 zeroC none 0 0 none 0 0, (30 : TypeId)) :: (cb, cells9 (mkC ms ov1) none 0 0 Q1 j1 p1, (30 : TypeId)) :: E1) 400 (newD 400) V1) ∧ Hid (B ≤ X ∧ X ≠ cb))))
    case first =>
      cases hE2 : smB ms2 with
      | true =>
        have HSAVE : Hid (∀ W F', Dk w W B d q p pd pm 0 0 F' 400 (newD 400) V1 → (∀ x ∈ E1, x ∈ F') → ∀ A2 c2, IntsAt W W.heap.size A2 ms2.length ms2 → ms2.length ≤ c2 → (A2 = none ∨ ∃ b o, A2 = some ⟨b, o, none⟩) → Calls Tryz.prog 13 #[.pointer (some ⟨d, 0, none⟩), .agg #[.int .i64 2, .int .i64 1, .int .i64 1, .int .i64 0, .slice none 0 0, .int .i64 0, .int .i64 0, .slice Q1 j1 p1, .int .i64 ov1], .slice A2 ms2.length c2] W (RetSv w W.heap.size B d q p pd pm 0 0 F' 400 (newD 400) V1 400 m1 L1 ms2)) := fun W F' hd hm A2 c2 hi hc ha => save_fl hd HCR1.out HFL1.out HK1.out (hd.fx.sub hm) A2 ha _ c2 _ _ hi (Nat.le_refl _) (by have := HL2.out; omega) hc hE2 HP2.out (by have h1 := HI49.out; have := need6 (b := 400) (by omega) HP2.out hE2 (by have := HL2.out; omega); omega)
        clear hE2
        go_region_held3 (fun W => (W).cell? ⟨cb, 0, none⟩ = some (.int .i64 2) ∧ (W).cell? ⟨cb, 1, none⟩ = some (.int .i64 1) ∧ (W).cell? ⟨cb, 2, none⟩ = some (.int .i64 1) ∧ (W).cell? ⟨cb, 3, none⟩ = some (.int .i64 0) ∧ (W).cell? ⟨cb, 4, none⟩ = some (.slice none 0 0) ∧ (W).cell? ⟨cb, 5, none⟩ = some (.int .i64 0) ∧ (W).cell? ⟨cb, 6, none⟩ = some (.int .i64 0) ∧ (W).cell? ⟨cb, 7, none⟩ = some (.slice Q1 j1 p1) ∧ (W).cell? ⟨cb, 8, none⟩ = some (.int .i64 ov1))
          (first | with_reducible exact S9.out | with_reducible exact S8a.out | with_reducible exact S8.out | with_reducible exact S7a.out | with_reducible exact S7.out | with_reducible exact S6a.out | with_reducible exact S6d.out | with_reducible exact S6.out)
          (first
            | (go_at_call 10; first
                | (with_reducible refine (HIN2.out _ HBd.out).mono ?_
                   rintro e w7 ⟨v, rfl, ow, b7⟩
                   have HD7 : Hid (Dk w (w7) B d q p pd pm 0 0 ((cb, cells9 (mkC ms ov1) none 0 0 Q1 j1 p1, (30 : TypeId)) :: E1) 400 (newD 400) V1) := HD6d.out.below b7
                   have HPA : Hid True := trivial
                   obtain ⟨A2, c2, rfl, hc2, ha2⟩ := own_form ow
                   have hia := Lg.IntsAt.of_own ow rfl HF2.out
                   have S7 : Hid ((w7).cell? ⟨cb, 0, none⟩ = some (.int .i64 2) ∧ (w7).cell? ⟨cb, 1, none⟩ = some (.int .i64 1) ∧ (w7).cell? ⟨cb, 2, none⟩ = some (.int .i64 1) ∧ (w7).cell? ⟨cb, 3, none⟩ = some (.int .i64 0) ∧ (w7).cell? ⟨cb, 4, none⟩ = some (.slice none 0 0) ∧ (w7).cell? ⟨cb, 5, none⟩ = some (.int .i64 0) ∧ (w7).cell? ⟨cb, 6, none⟩ = some (.int .i64 0) ∧ (w7).cell? ⟨cb, 7, none⟩ = some (.slice Q1 j1 p1) ∧ (w7).cell? ⟨cb, 8, none⟩ = some (.int .i64 ov1)) := HEQ.out _ _ _ HD7.out (by simp)
                   have HSV7 := Lib.hid (HSAVE.out w7 _ HD7.out (fun x hx => by simp [hx]) A2 c2 hia hc2 ha2)
                   have HD7a := Lib.hid ((HD7.out.below (HAL.out w7 (.cells #[.int .i64 0, .int .i64 0, .int .i64 0, .int .i64 0, .slice none 0 0, .int .i64 0, .int .i64 0, .slice none 0 0, .int .i64 0] 30))).add (HZN.out w7) (by decide))
                   have S7a : Hid ((w7.alloc (.cells #[.int .i64 0, .int .i64 0, .int .i64 0, .int .i64 0, .slice none 0 0, .int .i64 0, .int .i64 0, .slice none 0 0, .int .i64 0] 30)).cell? ⟨cb, 0, none⟩ = some (.int .i64 2) ∧ (w7.alloc (.cells #[.int .i64 0, .int .i64 0, .int .i64 0, .int .i64 0, .slice none 0 0, .int .i64 0, .int .i64 0, .slice none 0 0, .int .i64 0] 30)).cell? ⟨cb, 1, none⟩ = some (.int .i64 1) ∧ (w7.alloc (.cells #[.int .i64 0, .int .i64 0, .int .i64 0, .int .i64 0, .slice none 0 0, .int .i64 0, .int .i64 0, .slice none 0 0, .int .i64 0] 30)).cell? ⟨cb, 2, none⟩ = some (.int .i64 1) ∧ (w7.alloc (.cells #[.int .i64 0, .int .i64 0, .int .i64 0, .int .i64 0, .slice none 0 0, .int .i64 0, .int .i64 0, .slice none 0 0, .int .i64 0] 30)).cell? ⟨cb, 3, none⟩ = some (.int .i64 0) ∧ (w7.alloc (.cells #[.int .i64 0, .int .i64 0, .int .i64 0, .int .i64 0, .slice none 0 0, .int .i64 0, .int .i64 0, .slice none 0 0, .int .i64 0] 30)).cell? ⟨cb, 4, none⟩ = some (.slice none 0 0) ∧ (w7.alloc (.cells #[.int .i64 0, .int .i64 0, .int .i64 0, .int .i64 0, .slice none 0 0, .int .i64 0, .int .i64 0, .slice none 0 0, .int .i64 0] 30)).cell? ⟨cb, 5, none⟩ = some (.int .i64 0) ∧ (w7.alloc (.cells #[.int .i64 0, .int .i64 0, .int .i64 0, .int .i64 0, .slice none 0 0, .int .i64 0, .int .i64 0, .slice none 0 0, .int .i64 0] 30)).cell? ⟨cb, 6, none⟩ = some (.int .i64 0) ∧ (w7.alloc (.cells #[.int .i64 0, .int .i64 0, .int .i64 0, .int .i64 0, .slice none 0 0, .int .i64 0, .int .i64 0, .slice none 0 0, .int .i64 0] 30)).cell? ⟨cb, 7, none⟩ = some (.slice Q1 j1 p1) ∧ (w7.alloc (.cells #[.int .i64 0, .int .i64 0, .int .i64 0, .int .i64 0, .slice none 0 0, .int .i64 0, .int .i64 0, .slice none 0 0, .int .i64 0] 30)).cell? ⟨cb, 8, none⟩ = some (.int .i64 ov1)) := HEQ.out _ _ _ HD7a.out (by simp)
                   have HSV7a := Lib.hid (HSAVE.out (w7.alloc (.cells #[.int .i64 0, .int .i64 0, .int .i64 0, .int .i64 0, .slice none 0 0, .int .i64 0, .int .i64 0, .slice none 0 0, .int .i64 0] 30)) _ HD7a.out (fun x hx => by simp [hx]) A2 c2 ((hia.below (HAL.out w7 _) (Nat.le_refl _)).more (HAL.out w7 _).size) hc2 ha2)
                   clear ow hia b7 hc2)
                | (with_reducible refine (HIN2.out _ HBa.out).mono ?_
                   rintro e w7 ⟨v, rfl, ow, b7⟩
                   have HD7 : Hid (Dk w (w7) B d q p pd pm 0 0 ((w6.heap.size, cells9 zeroC none 0 0 none 0 0, (30 : TypeId)) :: (cb, cells9 (mkC ms ov1) none 0 0 Q1 j1 p1, (30 : TypeId)) :: E1) 400 (newD 400) V1) := HD6a.out.below b7
                   obtain ⟨A2, c2, rfl, hc2, ha2⟩ := own_form ow
                   have hia := Lg.IntsAt.of_own ow rfl HF2.out
                   have S7 : Hid ((w7).cell? ⟨cb, 0, none⟩ = some (.int .i64 2) ∧ (w7).cell? ⟨cb, 1, none⟩ = some (.int .i64 1) ∧ (w7).cell? ⟨cb, 2, none⟩ = some (.int .i64 1) ∧ (w7).cell? ⟨cb, 3, none⟩ = some (.int .i64 0) ∧ (w7).cell? ⟨cb, 4, none⟩ = some (.slice none 0 0) ∧ (w7).cell? ⟨cb, 5, none⟩ = some (.int .i64 0) ∧ (w7).cell? ⟨cb, 6, none⟩ = some (.int .i64 0) ∧ (w7).cell? ⟨cb, 7, none⟩ = some (.slice Q1 j1 p1) ∧ (w7).cell? ⟨cb, 8, none⟩ = some (.int .i64 ov1)) := HEQ.out _ _ _ HD7.out (by simp)
                   have HSV7 := Lib.hid (HSAVE.out w7 _ HD7.out (fun x hx => by simp [hx]) A2 c2 hia hc2 ha2)
                   have HD7a := Lib.hid ((HD7.out.below (HAL.out w7 (.cells #[.int .i64 0, .int .i64 0, .int .i64 0, .int .i64 0, .slice none 0 0, .int .i64 0, .int .i64 0, .slice none 0 0, .int .i64 0] 30))).add (HZN.out w7) (by decide))
                   have S7a : Hid ((w7.alloc (.cells #[.int .i64 0, .int .i64 0, .int .i64 0, .int .i64 0, .slice none 0 0, .int .i64 0, .int .i64 0, .slice none 0 0, .int .i64 0] 30)).cell? ⟨cb, 0, none⟩ = some (.int .i64 2) ∧ (w7.alloc (.cells #[.int .i64 0, .int .i64 0, .int .i64 0, .int .i64 0, .slice none 0 0, .int .i64 0, .int .i64 0, .slice none 0 0, .int .i64 0] 30)).cell? ⟨cb, 1, none⟩ = some (.int .i64 1) ∧ (w7.alloc (.cells #[.int .i64 0, .int .i64 0, .int .i64 0, .int .i64 0, .slice none 0 0, .int .i64 0, .int .i64 0, .slice none 0 0, .int .i64 0] 30)).cell? ⟨cb, 2, none⟩ = some (.int .i64 1) ∧ (w7.alloc (.cells #[.int .i64 0, .int .i64 0, .int .i64 0, .int .i64 0, .slice none 0 0, .int .i64 0, .int .i64 0, .slice none 0 0, .int .i64 0] 30)).cell? ⟨cb, 3, none⟩ = some (.int .i64 0) ∧ (w7.alloc (.cells #[.int .i64 0, .int .i64 0, .int .i64 0, .int .i64 0, .slice none 0 0, .int .i64 0, .int .i64 0, .slice none 0 0, .int .i64 0] 30)).cell? ⟨cb, 4, none⟩ = some (.slice none 0 0) ∧ (w7.alloc (.cells #[.int .i64 0, .int .i64 0, .int .i64 0, .int .i64 0, .slice none 0 0, .int .i64 0, .int .i64 0, .slice none 0 0, .int .i64 0] 30)).cell? ⟨cb, 5, none⟩ = some (.int .i64 0) ∧ (w7.alloc (.cells #[.int .i64 0, .int .i64 0, .int .i64 0, .int .i64 0, .slice none 0 0, .int .i64 0, .int .i64 0, .slice none 0 0, .int .i64 0] 30)).cell? ⟨cb, 6, none⟩ = some (.int .i64 0) ∧ (w7.alloc (.cells #[.int .i64 0, .int .i64 0, .int .i64 0, .int .i64 0, .slice none 0 0, .int .i64 0, .int .i64 0, .slice none 0 0, .int .i64 0] 30)).cell? ⟨cb, 7, none⟩ = some (.slice Q1 j1 p1) ∧ (w7.alloc (.cells #[.int .i64 0, .int .i64 0, .int .i64 0, .int .i64 0, .slice none 0 0, .int .i64 0, .int .i64 0, .slice none 0 0, .int .i64 0] 30)).cell? ⟨cb, 8, none⟩ = some (.int .i64 ov1)) := HEQ.out _ _ _ HD7a.out (by simp)
                   have HSV7a := Lib.hid (HSAVE.out (w7.alloc (.cells #[.int .i64 0, .int .i64 0, .int .i64 0, .int .i64 0, .slice none 0 0, .int .i64 0, .int .i64 0, .slice none 0 0, .int .i64 0] 30)) _ HD7a.out (fun x hx => by simp [hx]) A2 c2 ((hia.below (HAL.out w7 _) (Nat.le_refl _)).more (HAL.out w7 _).size) hc2 ha2)
                   clear ow hia b7 hc2))
            | (go_at_call 13; first
                | (with_reducible refine HSV7a.out.mono ?_
                   rintro e w8 ⟨Q2, j2, p2, E2, ov2, L2, V2, m2, rfl, d8, k8, g8, c8, f8, hn8, -⟩
                   have HD8 : Hid (Dk w (w8) B d q p pd pm 0 0 (E2 ++ ((w7.heap.size, cells9 zeroC none 0 0 none 0 0, (30 : TypeId)) :: (cb, cells9 (mkC ms ov1) none 0 0 Q1 j1 p1, (30 : TypeId)) :: E1)) 400 (newD 400) V2) := d8
                   have HXB : Hid (B ≤ w7.heap.size) := HD7.out.hBs
                   have hxc : w7.heap.size ≠ cb := Nat.ne_of_gt (HD7.out.fx.lt (x := (cb, cells9 (mkC ms ov1) none 0 0 Q1 j1 p1, (30 : TypeId))) (by simp))
                   have S8 : Hid ((w8).cell? ⟨cb, 0, none⟩ = some (.int .i64 2) ∧ (w8).cell? ⟨cb, 1, none⟩ = some (.int .i64 1) ∧ (w8).cell? ⟨cb, 2, none⟩ = some (.int .i64 1) ∧ (w8).cell? ⟨cb, 3, none⟩ = some (.int .i64 0) ∧ (w8).cell? ⟨cb, 4, none⟩ = some (.slice none 0 0) ∧ (w8).cell? ⟨cb, 5, none⟩ = some (.int .i64 0) ∧ (w8).cell? ⟨cb, 6, none⟩ = some (.int .i64 0) ∧ (w8).cell? ⟨cb, 7, none⟩ = some (.slice Q1 j1 p1) ∧ (w8).cell? ⟨cb, 8, none⟩ = some (.int .i64 ov1)) := HEQ.out _ _ _ d8 (by simp)
                   have HX8 : Hid (CdRow w8 (w7.heap.size) zeroC none 0 0 none 0 0) := crow_mem HD8.out.fx (by simp)
                   have hgx : ∀ y ∈ E2, y.1 ≠ w7.heap.size := tags_ne (HD8.out.fx.sub fun x hx => List.mem_append_left _ hx) (fun y hy => (g8 y hy).2) HX8.out
                   have HDs : Hid (Dk w (w8) B d q p pd pm 0 0 ((w7.heap.size, cells9 zeroC none 0 0 none 0 0, (30 : TypeId)) :: (E2 ++ (cb, cells9 (mkC ms ov1) none 0 0 Q1 j1 p1, (30 : TypeId)) :: [])) 400 (newD 400) V2) := HD8.out.with (HD8.out.fx.sub sub1)
                   have HD9 := Lib.hid (HDs.out.put9H (y := mkC ms2 ov2) (A2 := none) (n2 := 0) (k2 := 0) (A2' := Q2) (n2' := j2) (k2' := p2) HXB.out (ne_app hgx hxc.symm))
                   have S9 := Lib.hid (HEQ.out _ _ _ HD9.out (by simp))
                   have hnq : w7.heap.size ≠ cb := hxc
                   unfold put9 at S9 HD9
                   obtain ⟨r0, r1, r2, r3, r4, r5, r6, r7, r8⟩ := HX8.out.cells
                   have zr := HX8.out.fz
                   have HK8 := Lib.hid k8
                   have HC8 := Lib.hid c8
                   have HF8 := Lib.hid f8
                   have HN8 : Hid (fcn m2 400 + L2.length = 349) := by
                     have h1 := HI49.out
                     have h2 := f8.lnn
                     show _ = _
                     omega
                   clear d8 k8 g8 c8 f8 hn8 hgx hxc)
                | (with_reducible refine HSV7.out.mono ?_
                   rintro e w8 ⟨Q2, j2, p2, E2, ov2, L2, V2, m2, rfl, d8, k8, g8, c8, f8, hn8, -⟩
                   first
                     | (have hpa := HPA
                        have HD8 : Hid (Dk w (w8) B d q p pd pm 0 0 (E2 ++ ((cb, cells9 (mkC ms ov1) none 0 0 Q1 j1 p1, (30 : TypeId)) :: E1)) 400 (newD 400) V2) := d8
                        have S8 : Hid ((w8).cell? ⟨cb, 0, none⟩ = some (.int .i64 2) ∧ (w8).cell? ⟨cb, 1, none⟩ = some (.int .i64 1) ∧ (w8).cell? ⟨cb, 2, none⟩ = some (.int .i64 1) ∧ (w8).cell? ⟨cb, 3, none⟩ = some (.int .i64 0) ∧ (w8).cell? ⟨cb, 4, none⟩ = some (.slice none 0 0) ∧ (w8).cell? ⟨cb, 5, none⟩ = some (.int .i64 0) ∧ (w8).cell? ⟨cb, 6, none⟩ = some (.int .i64 0) ∧ (w8).cell? ⟨cb, 7, none⟩ = some (.slice Q1 j1 p1) ∧ (w8).cell? ⟨cb, 8, none⟩ = some (.int .i64 ov1)) := HEQ.out _ _ _ d8 (by simp)
                        have S8a : Hid ((w8.alloc (.cells #[.int .i64 0, .int .i64 0, .int .i64 0, .int .i64 0, .slice none 0 0, .int .i64 0, .int .i64 0, .slice none 0 0, .int .i64 0] 30)).cell? ⟨cb, 0, none⟩ = some (.int .i64 2) ∧ (w8.alloc (.cells #[.int .i64 0, .int .i64 0, .int .i64 0, .int .i64 0, .slice none 0 0, .int .i64 0, .int .i64 0, .slice none 0 0, .int .i64 0] 30)).cell? ⟨cb, 1, none⟩ = some (.int .i64 1) ∧ (w8.alloc (.cells #[.int .i64 0, .int .i64 0, .int .i64 0, .int .i64 0, .slice none 0 0, .int .i64 0, .int .i64 0, .slice none 0 0, .int .i64 0] 30)).cell? ⟨cb, 2, none⟩ = some (.int .i64 1) ∧ (w8.alloc (.cells #[.int .i64 0, .int .i64 0, .int .i64 0, .int .i64 0, .slice none 0 0, .int .i64 0, .int .i64 0, .slice none 0 0, .int .i64 0] 30)).cell? ⟨cb, 3, none⟩ = some (.int .i64 0) ∧ (w8.alloc (.cells #[.int .i64 0, .int .i64 0, .int .i64 0, .int .i64 0, .slice none 0 0, .int .i64 0, .int .i64 0, .slice none 0 0, .int .i64 0] 30)).cell? ⟨cb, 4, none⟩ = some (.slice none 0 0) ∧ (w8.alloc (.cells #[.int .i64 0, .int .i64 0, .int .i64 0, .int .i64 0, .slice none 0 0, .int .i64 0, .int .i64 0, .slice none 0 0, .int .i64 0] 30)).cell? ⟨cb, 5, none⟩ = some (.int .i64 0) ∧ (w8.alloc (.cells #[.int .i64 0, .int .i64 0, .int .i64 0, .int .i64 0, .slice none 0 0, .int .i64 0, .int .i64 0, .slice none 0 0, .int .i64 0] 30)).cell? ⟨cb, 6, none⟩ = some (.int .i64 0) ∧ (w8.alloc (.cells #[.int .i64 0, .int .i64 0, .int .i64 0, .int .i64 0, .slice none 0 0, .int .i64 0, .int .i64 0, .slice none 0 0, .int .i64 0] 30)).cell? ⟨cb, 7, none⟩ = some (.slice Q1 j1 p1) ∧ (w8.alloc (.cells #[.int .i64 0, .int .i64 0, .int .i64 0, .int .i64 0, .slice none 0 0, .int .i64 0, .int .i64 0, .slice none 0 0, .int .i64 0] 30)).cell? ⟨cb, 8, none⟩ = some (.int .i64 ov1)) := HEQ.out _ _ _ (d8.below (HAL.out w8 (.cells #[.int .i64 0, .int .i64 0, .int .i64 0, .int .i64 0, .slice none 0 0, .int .i64 0, .int .i64 0, .slice none 0 0, .int .i64 0] 30))) (by simp)
                        have hdn := (d8.below (HAL.out w8 (.cells (cells9 (mkC ms2 ov2) none 0 0 Q2 j2 p2) 30))).add (show _ = _ from CdRow.new w8 (mkC ms2 ov2) none 0 0 Q2 j2 p2) (by decide)
                        have HD9 : Hid (Dk w (w8.alloc (.cells (cells9 (mkC ms2 ov2) none 0 0 Q2 j2 p2) 30)) B d q p pd pm 0 0 (cbox w8.heap.size Q2 j2 p2 ms2 ov2 :: (E2 ++ (cb, cells9 (mkC ms ov1) none 0 0 Q1 j1 p1, (30 : TypeId)) :: [])) 400 (newD 400) V2) := hdn.with (hdn.fx.sub sub2)
                        have S9 := Lib.hid (HEQ.out _ _ _ HD9.out (by simp))
                        unfold cells9 at S9
                        have hne8 : w8.heap.size ≠ cb := Nat.ne_of_gt (HD8.out.fx.lt (x := (cb, cells9 (mkC ms ov1) none 0 0 Q1 j1 p1, (30 : TypeId))) (by simp))
                        have HK8 := Lib.hid k8
                        have HC8 := Lib.hid c8
                        have HF8 := Lib.hid f8
                        have HN8 : Hid (fcn m2 400 + L2.length = 349) := by
                          have h1 := HI49.out
                          have h2 := f8.lnn
                          show _ = _
                          omega
                        clear d8 k8 g8 c8 f8 hn8 hdn)
                     | (have HD8 : Hid (Dk w (w8) B d q p pd pm 0 0 (E2 ++ ((w6.heap.size, cells9 zeroC none 0 0 none 0 0, (30 : TypeId)) :: (cb, cells9 (mkC ms ov1) none 0 0 Q1 j1 p1, (30 : TypeId)) :: E1)) 400 (newD 400) V2) := d8
                        have HXB : Hid (B ≤ w6.heap.size) := HSZ.out
                        have hxc : w6.heap.size ≠ cb := Nat.ne_of_gt HCBL.out
                        have S8 : Hid ((w8).cell? ⟨cb, 0, none⟩ = some (.int .i64 2) ∧ (w8).cell? ⟨cb, 1, none⟩ = some (.int .i64 1) ∧ (w8).cell? ⟨cb, 2, none⟩ = some (.int .i64 1) ∧ (w8).cell? ⟨cb, 3, none⟩ = some (.int .i64 0) ∧ (w8).cell? ⟨cb, 4, none⟩ = some (.slice none 0 0) ∧ (w8).cell? ⟨cb, 5, none⟩ = some (.int .i64 0) ∧ (w8).cell? ⟨cb, 6, none⟩ = some (.int .i64 0) ∧ (w8).cell? ⟨cb, 7, none⟩ = some (.slice Q1 j1 p1) ∧ (w8).cell? ⟨cb, 8, none⟩ = some (.int .i64 ov1)) := HEQ.out _ _ _ d8 (by simp)
                        have HX8 : Hid (CdRow w8 (w6.heap.size) zeroC none 0 0 none 0 0) := crow_mem HD8.out.fx (by simp)
                        have hgx : ∀ y ∈ E2, y.1 ≠ w6.heap.size := tags_ne (HD8.out.fx.sub fun x hx => List.mem_append_left _ hx) (fun y hy => (g8 y hy).2) HX8.out
                        have HDs : Hid (Dk w (w8) B d q p pd pm 0 0 ((w6.heap.size, cells9 zeroC none 0 0 none 0 0, (30 : TypeId)) :: (E2 ++ (cb, cells9 (mkC ms ov1) none 0 0 Q1 j1 p1, (30 : TypeId)) :: [])) 400 (newD 400) V2) := HD8.out.with (HD8.out.fx.sub sub1)
                        have HD9 := Lib.hid (HDs.out.put9H (y := mkC ms2 ov2) (A2 := none) (n2 := 0) (k2 := 0) (A2' := Q2) (n2' := j2) (k2' := p2) HXB.out (ne_app hgx hxc.symm))
                        have S9 := Lib.hid (HEQ.out _ _ _ HD9.out (by simp))
                        have hnq : w6.heap.size ≠ cb := hxc
                        unfold put9 at S9 HD9
                        obtain ⟨r0, r1, r2, r3, r4, r5, r6, r7, r8⟩ := HX8.out.cells
                        have zr := HX8.out.fz
                        have HK8 := Lib.hid k8
                        have HC8 := Lib.hid c8
                        have HF8 := Lib.hid f8
                        have HN8 : Hid (fcn m2 400 + L2.length = 349) := by
                          have h1 := HI49.out
                          have h2 := f8.lnn
                          show _ = _
                          omega
                        clear d8 k8 g8 c8 f8 hn8 hgx hxc))))
        all_goals
          go_wp2_with fail
          go_meet
          case rel => exact ⟨_, rfl, .inl ⟨Q2, j2, p2, E2, ov2, L2, V2, m2, rfl, HD9.out, HK8.out, HC8.out, HF8.out, HN8.out⟩⟩
      | false =>
        have HSAVE : Hid (∀ W F', Dk w W B d q p pd pm 0 0 F' 400 (newD 400) V1 → (∀ x ∈ E1, x ∈ F') → ∀ A2 c2, IntsAt W W.heap.size A2 ms2.length ms2 → ms2.length ≤ c2 → (A2 = none ∨ ∃ b o, A2 = some ⟨b, o, none⟩) → Calls Tryz.prog 13 #[.pointer (some ⟨d, 0, none⟩), .agg #[.int .i64 2, .int .i64 1, .int .i64 1, .int .i64 0, .slice none 0 0, .int .i64 0, .int .i64 0, .slice Q1 j1 p1, .int .i64 ov1], .slice A2 ms2.length c2] W fun e w' => e = .returned (.tuple #[cdv zeroC none 0 0 none 0 0, .int .i64 12]) ∧ Dk w w' B d q p pd pm 0 0 F' 400 (newD 400) V1) := fun W F' hd hm A2 c2 hi hc ha => (save_large hd HCR1.out (HFL1.out.at_ HK1.out (hd.fx.sub hm)) A2 ha _ c2 _ _ hi (Nat.le_refl _) (by have := HL2.out; omega) hc hE2).mono fun e w' ⟨he, hb⟩ => ⟨he, hd.below hb⟩
        clear hE2
        go_region_held3 (fun W => (W).cell? ⟨cb, 0, none⟩ = some (.int .i64 2) ∧ (W).cell? ⟨cb, 1, none⟩ = some (.int .i64 1) ∧ (W).cell? ⟨cb, 2, none⟩ = some (.int .i64 1) ∧ (W).cell? ⟨cb, 3, none⟩ = some (.int .i64 0) ∧ (W).cell? ⟨cb, 4, none⟩ = some (.slice none 0 0) ∧ (W).cell? ⟨cb, 5, none⟩ = some (.int .i64 0) ∧ (W).cell? ⟨cb, 6, none⟩ = some (.int .i64 0) ∧ (W).cell? ⟨cb, 7, none⟩ = some (.slice Q1 j1 p1) ∧ (W).cell? ⟨cb, 8, none⟩ = some (.int .i64 ov1))
          (first | with_reducible exact S9.out | with_reducible exact S8a.out | with_reducible exact S8.out | with_reducible exact S7a.out | with_reducible exact S7.out | with_reducible exact S6a.out | with_reducible exact S6d.out | with_reducible exact S6.out)
          (first
            | (go_at_call 10; first
                | (with_reducible refine (HIN2.out _ HBd.out).mono ?_
                   rintro e w7 ⟨v, rfl, ow, b7⟩
                   have HD7 : Hid (Dk w (w7) B d q p pd pm 0 0 ((cb, cells9 (mkC ms ov1) none 0 0 Q1 j1 p1, (30 : TypeId)) :: E1) 400 (newD 400) V1) := HD6d.out.below b7
                   have HPA : Hid True := trivial
                   obtain ⟨A2, c2, rfl, hc2, ha2⟩ := own_form ow
                   have hia := Lg.IntsAt.of_own ow rfl HF2.out
                   have S7 : Hid ((w7).cell? ⟨cb, 0, none⟩ = some (.int .i64 2) ∧ (w7).cell? ⟨cb, 1, none⟩ = some (.int .i64 1) ∧ (w7).cell? ⟨cb, 2, none⟩ = some (.int .i64 1) ∧ (w7).cell? ⟨cb, 3, none⟩ = some (.int .i64 0) ∧ (w7).cell? ⟨cb, 4, none⟩ = some (.slice none 0 0) ∧ (w7).cell? ⟨cb, 5, none⟩ = some (.int .i64 0) ∧ (w7).cell? ⟨cb, 6, none⟩ = some (.int .i64 0) ∧ (w7).cell? ⟨cb, 7, none⟩ = some (.slice Q1 j1 p1) ∧ (w7).cell? ⟨cb, 8, none⟩ = some (.int .i64 ov1)) := HEQ.out _ _ _ HD7.out (by simp)
                   have HSV7 := Lib.hid (HSAVE.out w7 _ HD7.out (fun x hx => by simp [hx]) A2 c2 hia hc2 ha2)
                   have HD7a := Lib.hid ((HD7.out.below (HAL.out w7 (.cells #[.int .i64 0, .int .i64 0, .int .i64 0, .int .i64 0, .slice none 0 0, .int .i64 0, .int .i64 0, .slice none 0 0, .int .i64 0] 30))).add (HZN.out w7) (by decide))
                   have S7a : Hid ((w7.alloc (.cells #[.int .i64 0, .int .i64 0, .int .i64 0, .int .i64 0, .slice none 0 0, .int .i64 0, .int .i64 0, .slice none 0 0, .int .i64 0] 30)).cell? ⟨cb, 0, none⟩ = some (.int .i64 2) ∧ (w7.alloc (.cells #[.int .i64 0, .int .i64 0, .int .i64 0, .int .i64 0, .slice none 0 0, .int .i64 0, .int .i64 0, .slice none 0 0, .int .i64 0] 30)).cell? ⟨cb, 1, none⟩ = some (.int .i64 1) ∧ (w7.alloc (.cells #[.int .i64 0, .int .i64 0, .int .i64 0, .int .i64 0, .slice none 0 0, .int .i64 0, .int .i64 0, .slice none 0 0, .int .i64 0] 30)).cell? ⟨cb, 2, none⟩ = some (.int .i64 1) ∧ (w7.alloc (.cells #[.int .i64 0, .int .i64 0, .int .i64 0, .int .i64 0, .slice none 0 0, .int .i64 0, .int .i64 0, .slice none 0 0, .int .i64 0] 30)).cell? ⟨cb, 3, none⟩ = some (.int .i64 0) ∧ (w7.alloc (.cells #[.int .i64 0, .int .i64 0, .int .i64 0, .int .i64 0, .slice none 0 0, .int .i64 0, .int .i64 0, .slice none 0 0, .int .i64 0] 30)).cell? ⟨cb, 4, none⟩ = some (.slice none 0 0) ∧ (w7.alloc (.cells #[.int .i64 0, .int .i64 0, .int .i64 0, .int .i64 0, .slice none 0 0, .int .i64 0, .int .i64 0, .slice none 0 0, .int .i64 0] 30)).cell? ⟨cb, 5, none⟩ = some (.int .i64 0) ∧ (w7.alloc (.cells #[.int .i64 0, .int .i64 0, .int .i64 0, .int .i64 0, .slice none 0 0, .int .i64 0, .int .i64 0, .slice none 0 0, .int .i64 0] 30)).cell? ⟨cb, 6, none⟩ = some (.int .i64 0) ∧ (w7.alloc (.cells #[.int .i64 0, .int .i64 0, .int .i64 0, .int .i64 0, .slice none 0 0, .int .i64 0, .int .i64 0, .slice none 0 0, .int .i64 0] 30)).cell? ⟨cb, 7, none⟩ = some (.slice Q1 j1 p1) ∧ (w7.alloc (.cells #[.int .i64 0, .int .i64 0, .int .i64 0, .int .i64 0, .slice none 0 0, .int .i64 0, .int .i64 0, .slice none 0 0, .int .i64 0] 30)).cell? ⟨cb, 8, none⟩ = some (.int .i64 ov1)) := HEQ.out _ _ _ HD7a.out (by simp)
                   have HSV7a := Lib.hid (HSAVE.out (w7.alloc (.cells #[.int .i64 0, .int .i64 0, .int .i64 0, .int .i64 0, .slice none 0 0, .int .i64 0, .int .i64 0, .slice none 0 0, .int .i64 0] 30)) _ HD7a.out (fun x hx => by simp [hx]) A2 c2 ((hia.below (HAL.out w7 _) (Nat.le_refl _)).more (HAL.out w7 _).size) hc2 ha2)
                   clear ow hia b7 hc2)
                | (with_reducible refine (HIN2.out _ HBa.out).mono ?_
                   rintro e w7 ⟨v, rfl, ow, b7⟩
                   have HD7 : Hid (Dk w (w7) B d q p pd pm 0 0 ((w6.heap.size, cells9 zeroC none 0 0 none 0 0, (30 : TypeId)) :: (cb, cells9 (mkC ms ov1) none 0 0 Q1 j1 p1, (30 : TypeId)) :: E1) 400 (newD 400) V1) := HD6a.out.below b7
                   obtain ⟨A2, c2, rfl, hc2, ha2⟩ := own_form ow
                   have hia := Lg.IntsAt.of_own ow rfl HF2.out
                   have S7 : Hid ((w7).cell? ⟨cb, 0, none⟩ = some (.int .i64 2) ∧ (w7).cell? ⟨cb, 1, none⟩ = some (.int .i64 1) ∧ (w7).cell? ⟨cb, 2, none⟩ = some (.int .i64 1) ∧ (w7).cell? ⟨cb, 3, none⟩ = some (.int .i64 0) ∧ (w7).cell? ⟨cb, 4, none⟩ = some (.slice none 0 0) ∧ (w7).cell? ⟨cb, 5, none⟩ = some (.int .i64 0) ∧ (w7).cell? ⟨cb, 6, none⟩ = some (.int .i64 0) ∧ (w7).cell? ⟨cb, 7, none⟩ = some (.slice Q1 j1 p1) ∧ (w7).cell? ⟨cb, 8, none⟩ = some (.int .i64 ov1)) := HEQ.out _ _ _ HD7.out (by simp)
                   have HSV7 := Lib.hid (HSAVE.out w7 _ HD7.out (fun x hx => by simp [hx]) A2 c2 hia hc2 ha2)
                   have HD7a := Lib.hid ((HD7.out.below (HAL.out w7 (.cells #[.int .i64 0, .int .i64 0, .int .i64 0, .int .i64 0, .slice none 0 0, .int .i64 0, .int .i64 0, .slice none 0 0, .int .i64 0] 30))).add (HZN.out w7) (by decide))
                   have S7a : Hid ((w7.alloc (.cells #[.int .i64 0, .int .i64 0, .int .i64 0, .int .i64 0, .slice none 0 0, .int .i64 0, .int .i64 0, .slice none 0 0, .int .i64 0] 30)).cell? ⟨cb, 0, none⟩ = some (.int .i64 2) ∧ (w7.alloc (.cells #[.int .i64 0, .int .i64 0, .int .i64 0, .int .i64 0, .slice none 0 0, .int .i64 0, .int .i64 0, .slice none 0 0, .int .i64 0] 30)).cell? ⟨cb, 1, none⟩ = some (.int .i64 1) ∧ (w7.alloc (.cells #[.int .i64 0, .int .i64 0, .int .i64 0, .int .i64 0, .slice none 0 0, .int .i64 0, .int .i64 0, .slice none 0 0, .int .i64 0] 30)).cell? ⟨cb, 2, none⟩ = some (.int .i64 1) ∧ (w7.alloc (.cells #[.int .i64 0, .int .i64 0, .int .i64 0, .int .i64 0, .slice none 0 0, .int .i64 0, .int .i64 0, .slice none 0 0, .int .i64 0] 30)).cell? ⟨cb, 3, none⟩ = some (.int .i64 0) ∧ (w7.alloc (.cells #[.int .i64 0, .int .i64 0, .int .i64 0, .int .i64 0, .slice none 0 0, .int .i64 0, .int .i64 0, .slice none 0 0, .int .i64 0] 30)).cell? ⟨cb, 4, none⟩ = some (.slice none 0 0) ∧ (w7.alloc (.cells #[.int .i64 0, .int .i64 0, .int .i64 0, .int .i64 0, .slice none 0 0, .int .i64 0, .int .i64 0, .slice none 0 0, .int .i64 0] 30)).cell? ⟨cb, 5, none⟩ = some (.int .i64 0) ∧ (w7.alloc (.cells #[.int .i64 0, .int .i64 0, .int .i64 0, .int .i64 0, .slice none 0 0, .int .i64 0, .int .i64 0, .slice none 0 0, .int .i64 0] 30)).cell? ⟨cb, 6, none⟩ = some (.int .i64 0) ∧ (w7.alloc (.cells #[.int .i64 0, .int .i64 0, .int .i64 0, .int .i64 0, .slice none 0 0, .int .i64 0, .int .i64 0, .slice none 0 0, .int .i64 0] 30)).cell? ⟨cb, 7, none⟩ = some (.slice Q1 j1 p1) ∧ (w7.alloc (.cells #[.int .i64 0, .int .i64 0, .int .i64 0, .int .i64 0, .slice none 0 0, .int .i64 0, .int .i64 0, .slice none 0 0, .int .i64 0] 30)).cell? ⟨cb, 8, none⟩ = some (.int .i64 ov1)) := HEQ.out _ _ _ HD7a.out (by simp)
                   have HSV7a := Lib.hid (HSAVE.out (w7.alloc (.cells #[.int .i64 0, .int .i64 0, .int .i64 0, .int .i64 0, .slice none 0 0, .int .i64 0, .int .i64 0, .slice none 0 0, .int .i64 0] 30)) _ HD7a.out (fun x hx => by simp [hx]) A2 c2 ((hia.below (HAL.out w7 _) (Nat.le_refl _)).more (HAL.out w7 _).size) hc2 ha2)
                   clear ow hia b7 hc2))
            | (go_at_call 13; first
                | (with_reducible refine HSV7a.out.mono ?_
                   rintro e w8 ⟨rfl, d8⟩
                   have HD8 : Hid (Dk w (w8) B d q p pd pm 0 0 ((w7.heap.size, cells9 zeroC none 0 0 none 0 0, (30 : TypeId)) :: (cb, cells9 (mkC ms ov1) none 0 0 Q1 j1 p1, (30 : TypeId)) :: E1) 400 (newD 400) V1) := d8
                   have HX9 : Hid (B ≤ w7.heap.size ∧ w7.heap.size ≠ cb) := ⟨HD7.out.hBs, Nat.ne_of_gt (HD7.out.fx.lt (x := (cb, cells9 (mkC ms ov1) none 0 0 Q1 j1 p1, (30 : TypeId))) (by simp))⟩
                   have S8 : Hid ((w8).cell? ⟨cb, 0, none⟩ = some (.int .i64 2) ∧ (w8).cell? ⟨cb, 1, none⟩ = some (.int .i64 1) ∧ (w8).cell? ⟨cb, 2, none⟩ = some (.int .i64 1) ∧ (w8).cell? ⟨cb, 3, none⟩ = some (.int .i64 0) ∧ (w8).cell? ⟨cb, 4, none⟩ = some (.slice none 0 0) ∧ (w8).cell? ⟨cb, 5, none⟩ = some (.int .i64 0) ∧ (w8).cell? ⟨cb, 6, none⟩ = some (.int .i64 0) ∧ (w8).cell? ⟨cb, 7, none⟩ = some (.slice Q1 j1 p1) ∧ (w8).cell? ⟨cb, 8, none⟩ = some (.int .i64 ov1)) := HEQ.out _ _ _ d8 (by simp)
                   have HX8 : Hid (CdRow w8 (w7.heap.size) zeroC none 0 0 none 0 0) := crow_mem HD8.out.fx (by simp)
                   have hgx : ∀ z ∈ (cb, cells9 (mkC ms ov1) none 0 0 Q1 j1 p1, (30 : TypeId)) :: E1, z.1 ≠ w7.heap.size := ne_con (tags_ne (HD8.out.fx.sub fun x hx => by simp [hx]) HG1.out HX8.out) HX9.out.2.symm
                   have HD9 := Lib.hid (HD8.out.put9H (y := zeroC) (A2 := none) (n2 := 0) (k2 := 0) (A2' := none) (n2' := 0) (k2' := 0) HX9.out.1 hgx)
                   have S9 := Lib.hid (HEQ.out _ _ _ HD9.out (by simp))
                   have hnq : w7.heap.size ≠ cb := HX9.out.2
                   unfold put9 at S9 HD9
                   obtain ⟨r0, r1, r2, r3, r4, r5, r6, r7, r8⟩ := HX8.out.cells
                   have zr := HX8.out.fz
                   clear d8 hgx)
                | (with_reducible refine HSV7.out.mono ?_
                   rintro e w8 ⟨rfl, d8⟩
                   first
                     | (have hpa := HPA
                        have HD8 : Hid (Dk w (w8) B d q p pd pm 0 0 ((cb, cells9 (mkC ms ov1) none 0 0 Q1 j1 p1, (30 : TypeId)) :: E1) 400 (newD 400) V1) := d8
                        have S8 : Hid ((w8).cell? ⟨cb, 0, none⟩ = some (.int .i64 2) ∧ (w8).cell? ⟨cb, 1, none⟩ = some (.int .i64 1) ∧ (w8).cell? ⟨cb, 2, none⟩ = some (.int .i64 1) ∧ (w8).cell? ⟨cb, 3, none⟩ = some (.int .i64 0) ∧ (w8).cell? ⟨cb, 4, none⟩ = some (.slice none 0 0) ∧ (w8).cell? ⟨cb, 5, none⟩ = some (.int .i64 0) ∧ (w8).cell? ⟨cb, 6, none⟩ = some (.int .i64 0) ∧ (w8).cell? ⟨cb, 7, none⟩ = some (.slice Q1 j1 p1) ∧ (w8).cell? ⟨cb, 8, none⟩ = some (.int .i64 ov1)) := HEQ.out _ _ _ d8 (by simp)
                        have S8a : Hid ((w8.alloc (.cells #[.int .i64 0, .int .i64 0, .int .i64 0, .int .i64 0, .slice none 0 0, .int .i64 0, .int .i64 0, .slice none 0 0, .int .i64 0] 30)).cell? ⟨cb, 0, none⟩ = some (.int .i64 2) ∧ (w8.alloc (.cells #[.int .i64 0, .int .i64 0, .int .i64 0, .int .i64 0, .slice none 0 0, .int .i64 0, .int .i64 0, .slice none 0 0, .int .i64 0] 30)).cell? ⟨cb, 1, none⟩ = some (.int .i64 1) ∧ (w8.alloc (.cells #[.int .i64 0, .int .i64 0, .int .i64 0, .int .i64 0, .slice none 0 0, .int .i64 0, .int .i64 0, .slice none 0 0, .int .i64 0] 30)).cell? ⟨cb, 2, none⟩ = some (.int .i64 1) ∧ (w8.alloc (.cells #[.int .i64 0, .int .i64 0, .int .i64 0, .int .i64 0, .slice none 0 0, .int .i64 0, .int .i64 0, .slice none 0 0, .int .i64 0] 30)).cell? ⟨cb, 3, none⟩ = some (.int .i64 0) ∧ (w8.alloc (.cells #[.int .i64 0, .int .i64 0, .int .i64 0, .int .i64 0, .slice none 0 0, .int .i64 0, .int .i64 0, .slice none 0 0, .int .i64 0] 30)).cell? ⟨cb, 4, none⟩ = some (.slice none 0 0) ∧ (w8.alloc (.cells #[.int .i64 0, .int .i64 0, .int .i64 0, .int .i64 0, .slice none 0 0, .int .i64 0, .int .i64 0, .slice none 0 0, .int .i64 0] 30)).cell? ⟨cb, 5, none⟩ = some (.int .i64 0) ∧ (w8.alloc (.cells #[.int .i64 0, .int .i64 0, .int .i64 0, .int .i64 0, .slice none 0 0, .int .i64 0, .int .i64 0, .slice none 0 0, .int .i64 0] 30)).cell? ⟨cb, 6, none⟩ = some (.int .i64 0) ∧ (w8.alloc (.cells #[.int .i64 0, .int .i64 0, .int .i64 0, .int .i64 0, .slice none 0 0, .int .i64 0, .int .i64 0, .slice none 0 0, .int .i64 0] 30)).cell? ⟨cb, 7, none⟩ = some (.slice Q1 j1 p1) ∧ (w8.alloc (.cells #[.int .i64 0, .int .i64 0, .int .i64 0, .int .i64 0, .slice none 0 0, .int .i64 0, .int .i64 0, .slice none 0 0, .int .i64 0] 30)).cell? ⟨cb, 8, none⟩ = some (.int .i64 ov1)) := HEQ.out _ _ _ (d8.below (HAL.out w8 (.cells #[.int .i64 0, .int .i64 0, .int .i64 0, .int .i64 0, .slice none 0 0, .int .i64 0, .int .i64 0, .slice none 0 0, .int .i64 0] 30))) (by simp)
                        have HD9 := Lib.hid ((d8.below (HAL.out w8 (.cells (cells9 zeroC none 0 0 none 0 0) 30))).add (show _ = _ from CdRow.new w8 zeroC none 0 0 none 0 0) (by decide))
                        have S9 := Lib.hid (HEQ.out _ _ _ HD9.out (by simp))
                        unfold cells9 at S9
                        have hne8 : w8.heap.size ≠ cb := Nat.ne_of_gt (HD8.out.fx.lt (x := (cb, cells9 (mkC ms ov1) none 0 0 Q1 j1 p1, (30 : TypeId))) (by simp))
                        have HX9 : Hid (B ≤ w8.heap.size ∧ w8.heap.size ≠ cb) := ⟨HD8.out.hBs, hne8⟩
                        clear d8)
                     | (have HD8 : Hid (Dk w (w8) B d q p pd pm 0 0 ((w6.heap.size, cells9 zeroC none 0 0 none 0 0, (30 : TypeId)) :: (cb, cells9 (mkC ms ov1) none 0 0 Q1 j1 p1, (30 : TypeId)) :: E1) 400 (newD 400) V1) := d8
                        have HX9 : Hid (B ≤ w6.heap.size ∧ w6.heap.size ≠ cb) := ⟨HSZ.out, Nat.ne_of_gt HCBL.out⟩
                        have S8 : Hid ((w8).cell? ⟨cb, 0, none⟩ = some (.int .i64 2) ∧ (w8).cell? ⟨cb, 1, none⟩ = some (.int .i64 1) ∧ (w8).cell? ⟨cb, 2, none⟩ = some (.int .i64 1) ∧ (w8).cell? ⟨cb, 3, none⟩ = some (.int .i64 0) ∧ (w8).cell? ⟨cb, 4, none⟩ = some (.slice none 0 0) ∧ (w8).cell? ⟨cb, 5, none⟩ = some (.int .i64 0) ∧ (w8).cell? ⟨cb, 6, none⟩ = some (.int .i64 0) ∧ (w8).cell? ⟨cb, 7, none⟩ = some (.slice Q1 j1 p1) ∧ (w8).cell? ⟨cb, 8, none⟩ = some (.int .i64 ov1)) := HEQ.out _ _ _ d8 (by simp)
                        have HX8 : Hid (CdRow w8 (w6.heap.size) zeroC none 0 0 none 0 0) := crow_mem HD8.out.fx (by simp)
                        have hgx : ∀ z ∈ (cb, cells9 (mkC ms ov1) none 0 0 Q1 j1 p1, (30 : TypeId)) :: E1, z.1 ≠ w6.heap.size := ne_con (tags_ne (HD8.out.fx.sub fun x hx => by simp [hx]) HG1.out HX8.out) HX9.out.2.symm
                        have HD9 := Lib.hid (HD8.out.put9H (y := zeroC) (A2 := none) (n2 := 0) (k2 := 0) (A2' := none) (n2' := 0) (k2' := 0) HX9.out.1 hgx)
                        have S9 := Lib.hid (HEQ.out _ _ _ HD9.out (by simp))
                        have hnq : w6.heap.size ≠ cb := HX9.out.2
                        unfold put9 at S9 HD9
                        obtain ⟨r0, r1, r2, r3, r4, r5, r6, r7, r8⟩ := HX8.out.cells
                        have zr := HX8.out.fz
                        clear d8 hgx))))
        all_goals
          go_wp2_with fail
          go_meet
          case rel => exact ⟨_, rfl, .inr ⟨rfl, HD9.out, HX9.out⟩⟩
    case rest =>
      obtain ⟨X, rfl, hcut⟩ := hcut
      have HWB := HIN2
      clear HBd HBa HD6d HD6a S6 S6d S6a HWB
      rcases hcut with ⟨Q2, j2, p2, E2, ov2, L2, V2, m2, rfl, hdx, hk2, hc2, hf2, hn2⟩ | ⟨rfl, hdx, hX⟩
      · have HDX := hdx
        have HKX := hk2
        have HCX := hc2
        have HFX := hf2
        have HNX := hn2
        clear hdx hk2 hc2 hf2 hn2
        have HXR : Hid (CdRow wc X (mkC ms2 ov2) none 0 0 Q2 j2 p2) := HDX.out.box
        unfold mkC at HXR
        obtain ⟨x0, x1, x2, x3, x4, x5, x6, x7, x8⟩ := HXR.out.cells
        simp only at x0 x1 x2 x3 x4 x5 x6 x7 x8
        have HDR := Lib.hid (drop_fl HDX.out HCX.out HFX.out HKX.out (HDX.out.fx.sub fun x hx => List.mem_cons_of_mem _ (List.mem_append_left _ hx)))
        unfold cdv mkC at HDR
        simp only at HDR
        go_wp2_with (first
          | (go_at_call 15; refine HSM.out.mono ?_; rintro e wf ⟨rfl, df⟩
             have HDf := Lib.hid (HDe.out.below (Lg.Below.drews (Below.refl _ _) df))
             have HYf : Hid (CdRow wf Y ⟨2, 1, 1, 0, [], 0, 0, (ofR []).take 3, ov3⟩ none 0 0 Q3 j3 p3) := HDf.out.box
             have HCf : Hid (CdRow wf cb ⟨2, 1, 1, 0, [], 0, 0, (ofR ms).take 3, ov1⟩ none 0 0 Q1 j1 p1) := crow_mem HDf.out.fx (show _ ∈ _ by simp [mkC])
             clear df y0 y1 y2 y3 y4 y5 y6 y7 y8
             obtain ⟨y0, y1, y2, y3, y4, y5, y6, y7, y8⟩ := HYf.out.cells
             obtain ⟨z0, z1, z2, z3, z4, z5, z6, z7, z8⟩ := HCf.out.cells
             simp only at y2 y3 z2 z3)
          | (go_at_call 16; refine HLD.out.mono ?_; rintro e wd ⟨gm, hgm, rfl, rowm, bd⟩
             have hmk := Lg.make_ints 120 (by omega) wd
             have hal := HAL.out wd (.cells (Lg.ints (List.replicate 120 0)).toArray 3)
             have HDe := Lib.hid ((HDc.out.below bd).below hal)
             have HSM := Lib.hid (rsame_ints (some ⟨gm, 0, none⟩) (some ⟨wd.heap.size, 0, none⟩) 120 120 120 120 _ _ (whole []) (List.replicate 120 0) true (wd.alloc (.cells (Lg.ints (List.replicate 120 0)).toArray 3)) (by rw [whole0]; simp) (whole_ints (rowm.below hal (Nat.le_refl _))) (row_ints (Lg.IntRow.new wd (List.replicate 120 0)) (fun z hz => by rw [List.eq_of_mem_replicate hz]; unfold Fit; omega) List.length_replicate) (by omega) (by omega))
             simp only [show ((120 : Nat) : Int) = 120 from rfl] at hmk
             clear bd rowm hgm hal
             generalize wd.alloc (.cells (Lg.ints (List.replicate 120 0)).toArray 3) = we at *)
          | (go_at_call 17; refine HLS.out.mono ?_; rintro e wk ⟨v15, rfl, ow15, bc⟩
             obtain ⟨A15, c15, rfl, -, -⟩ := own_form ow15
             have HDc := Lib.hid (HDb.out.below bc)
             have HLD := Lib.hid (load_of HDc.out HC3.out (HF3.out.at_ HK3.out (HDc.out.fx.sub (fun x hx => by simp [hx]))))
             unfold cdv mkC at HLD
             simp only at HLD
             have HYc : Hid (CdRow wk Y ⟨2, 1, 1, 0, [], 0, 0, (ofR []).take 3, ov3⟩ none 0 0 Q3 j3 p3) := HDc.out.box
             clear bc ow15 y0 y1 y2 y3 y4 y5 y6 y7 y8
             obtain ⟨y0, y1, y2, y3, y4, y5, y6, y7, y8⟩ := HYc.out.cells
             simp only at y0 y1 y2 y3 y4 y5 y6 y7 y8)
          | (go_at_call 12; refine HFE.out.mono ?_; rintro e wb ⟨rfl, bb⟩
             have HDb := Lib.hid (HDa.out.below bb)
             have HLS := Lib.hid (lists_of HDb.out HC3.out (HF3.out.at_ HK3.out (HDb.out.fx.sub (fun x hx => by simp [hx]))))
             unfold cdv mkC at HLS
             simp only at HLS
             have HYb : Hid (CdRow wb Y ⟨2, 1, 1, 0, [], 0, 0, (ofR []).take 3, ov3⟩ none 0 0 Q3 j3 p3) := HDb.out.box
             obtain ⟨y0, y1, y2, y3, y4, y5, y6, y7, y8⟩ := HYb.out.cells
             simp only at y0 y1 y2 y3 y4 y5 y6 y7 y8
             clear bb)
          | (go_at_call 21; refine HDR.out.mono ?_; rintro e wa ⟨Q3, j3, p3, E3, ov3, L3, V3, m3, rfl, d3, k3, g3, c3, f3, hn3, -⟩
             have h349 : fcn m3 400 = 349 := drop349 hn3 HNX.out
             have hl3 : L3 = [] := List.eq_nil_of_length_eq_zero (by rw [f3.lnn]; exact need0)
             subst hl3
             have HDa := Lib.hid ((d3.below (HAL.out wa (.cells (cells9 (mkC [] ov3) none 0 0 Q3 j3 p3) 30))).add (show _ = _ from CdRow.new wa (mkC [] ov3) none 0 0 Q3 j3 p3) (by decide))
             have HK3 := Lib.hid k3
             have HC3 := Lib.hid c3
             have HF3 := Lib.hid f3
             have HFE := Lib.hid (free_fl HDa.out HC3.out)
             rw [h349, show ((349 : Nat) : Int) = 349 from rfl] at HFE
             unfold cells9 at HDa HFE
             clear d3 k3 g3 c3 f3 hn3 h349 x0 x1 x2 x3 x4 x5 x6 x7 x8
             generalize hY : wa.heap.size = Y at *))
        go_ret
        exact ⟨rfl, HDf.out.hb⟩
      · have HXZ : Hid (CdRow wc X zeroC none 0 0 none 0 0) := hdx.out.box
        have HZC : Hid (CdRow wc cb ⟨2, 1, 1, 0, [], 0, 0, (ofR ms).take 3, ov1⟩ none 0 0 Q1 j1 p1) := crow_mem hdx.out.fx (show _ ∈ _ by simp [mkC])
        obtain ⟨r0, r1, r2, r3, r4, r5, r6, r7, r8⟩ := HXZ.out.cells
        obtain ⟨z0, z1, z2, z3, z4, z5, z6, z7, z8⟩ := HZC.out.cells
        simp only at z0 z1 z2 z3 z4 z5 z6 z7 z8
        have zr := HXZ.out.fz
        have HDX : Hid (Dk w (put9 wc X (mkC ms ov1) none 0 0 Q1 j1 p1) B d q p pd pm 0 0 (cbox X Q1 j1 p1 ms ov1 :: (E1 ++ (cb, cells9 (mkC ms ov1) none 0 0 Q1 j1 p1, (30 : TypeId)) :: [])) 400 (newD 400) V1) := by
          have hd : Dk w wc B d q p pd pm 0 0 ((X, cells9 zeroC none 0 0 none 0 0, (30 : TypeId)) :: (E1 ++ (cb, cells9 (mkC ms ov1) none 0 0 Q1 j1 p1, (30 : TypeId)) :: [])) 400 (newD 400) V1 := hdx.out.with (hdx.out.fx.sub sub3)
          exact hd.put9H hX.out.1 (ne_app (tags_ne (hd.fx.sub fun x hx => by simp [hx]) HG1.out HXZ.out) hX.out.2.symm)
        unfold put9 mkC at HDX
        simp only at HDX
        go_upto_region 12 with fail
        clear r0 r1 r2 r3 r4 r5 r6 r7 r8 z0 z1 z2 z3 z4 z5 z6 z7 z8 zr
        generalize World.setCell _ ⟨X, 8, none⟩ _ = wy at *
        have HKX := HK1
        have HCX := HCR1
        have HFX := HFL1
        have HNX := HI49
        have HXR : Hid (CdRow wy X (mkC ms ov1) none 0 0 Q1 j1 p1) := HDX.out.box
        unfold mkC at HXR
        obtain ⟨x0, x1, x2, x3, x4, x5, x6, x7, x8⟩ := HXR.out.cells
        simp only at x0 x1 x2 x3 x4 x5 x6 x7 x8
        have HDR := Lib.hid (drop_fl HDX.out HCX.out HFX.out HKX.out (HDX.out.fx.sub fun x hx => List.mem_cons_of_mem _ (List.mem_append_left _ hx)))
        unfold cdv mkC at HDR
        simp only at HDR
        go_wp2_with (first
          | (go_at_call 15; refine HSM.out.mono ?_; rintro e wf ⟨rfl, df⟩
             have HDf := Lib.hid (HDe.out.below (Lg.Below.drews (Below.refl _ _) df))
             have HYf : Hid (CdRow wf Y ⟨2, 1, 1, 0, [], 0, 0, (ofR []).take 3, ov3⟩ none 0 0 Q3 j3 p3) := HDf.out.box
             have HCf : Hid (CdRow wf cb ⟨2, 1, 1, 0, [], 0, 0, (ofR ms).take 3, ov1⟩ none 0 0 Q1 j1 p1) := crow_mem HDf.out.fx (show _ ∈ _ by simp [mkC])
             clear df y0 y1 y2 y3 y4 y5 y6 y7 y8
             obtain ⟨y0, y1, y2, y3, y4, y5, y6, y7, y8⟩ := HYf.out.cells
             obtain ⟨z0, z1, z2, z3, z4, z5, z6, z7, z8⟩ := HCf.out.cells
             simp only at y2 y3 z2 z3)
          | (go_at_call 16; refine HLD.out.mono ?_; rintro e wd ⟨gm, hgm, rfl, rowm, bd⟩
             have hmk := Lg.make_ints 120 (by omega) wd
             have hal := HAL.out wd (.cells (Lg.ints (List.replicate 120 0)).toArray 3)
             have HDe := Lib.hid ((HDc.out.below bd).below hal)
             have HSM := Lib.hid (rsame_ints (some ⟨gm, 0, none⟩) (some ⟨wd.heap.size, 0, none⟩) 120 120 120 120 _ _ (whole []) (List.replicate 120 0) true (wd.alloc (.cells (Lg.ints (List.replicate 120 0)).toArray 3)) (by rw [whole0]; simp) (whole_ints (rowm.below hal (Nat.le_refl _))) (row_ints (Lg.IntRow.new wd (List.replicate 120 0)) (fun z hz => by rw [List.eq_of_mem_replicate hz]; unfold Fit; omega) List.length_replicate) (by omega) (by omega))
             simp only [show ((120 : Nat) : Int) = 120 from rfl] at hmk
             clear bd rowm hgm hal
             generalize wd.alloc (.cells (Lg.ints (List.replicate 120 0)).toArray 3) = we at *)
          | (go_at_call 17; refine HLS.out.mono ?_; rintro e wk ⟨v15, rfl, ow15, bc⟩
             obtain ⟨A15, c15, rfl, -, -⟩ := own_form ow15
             have HDc := Lib.hid (HDb.out.below bc)
             have HLD := Lib.hid (load_of HDc.out HC3.out (HF3.out.at_ HK3.out (HDc.out.fx.sub (fun x hx => by simp [hx]))))
             unfold cdv mkC at HLD
             simp only at HLD
             have HYc : Hid (CdRow wk Y ⟨2, 1, 1, 0, [], 0, 0, (ofR []).take 3, ov3⟩ none 0 0 Q3 j3 p3) := HDc.out.box
             clear bc ow15 y0 y1 y2 y3 y4 y5 y6 y7 y8
             obtain ⟨y0, y1, y2, y3, y4, y5, y6, y7, y8⟩ := HYc.out.cells
             simp only at y0 y1 y2 y3 y4 y5 y6 y7 y8)
          | (go_at_call 12; refine HFE.out.mono ?_; rintro e wb ⟨rfl, bb⟩
             have HDb := Lib.hid (HDa.out.below bb)
             have HLS := Lib.hid (lists_of HDb.out HC3.out (HF3.out.at_ HK3.out (HDb.out.fx.sub (fun x hx => by simp [hx]))))
             unfold cdv mkC at HLS
             simp only at HLS
             have HYb : Hid (CdRow wb Y ⟨2, 1, 1, 0, [], 0, 0, (ofR []).take 3, ov3⟩ none 0 0 Q3 j3 p3) := HDb.out.box
             obtain ⟨y0, y1, y2, y3, y4, y5, y6, y7, y8⟩ := HYb.out.cells
             simp only at y0 y1 y2 y3 y4 y5 y6 y7 y8
             clear bb)
          | (go_at_call 21; refine HDR.out.mono ?_; rintro e wa ⟨Q3, j3, p3, E3, ov3, L3, V3, m3, rfl, d3, k3, g3, c3, f3, hn3, -⟩
             have h349 : fcn m3 400 = 349 := drop349 hn3 HNX.out
             have hl3 : L3 = [] := List.eq_nil_of_length_eq_zero (by rw [f3.lnn]; exact need0)
             subst hl3
             have HDa := Lib.hid ((d3.below (HAL.out wa (.cells (cells9 (mkC [] ov3) none 0 0 Q3 j3 p3) 30))).add (show _ = _ from CdRow.new wa (mkC [] ov3) none 0 0 Q3 j3 p3) (by decide))
             have HK3 := Lib.hid k3
             have HC3 := Lib.hid c3
             have HF3 := Lib.hid f3
             have HFE := Lib.hid (free_fl HDa.out HC3.out)
             rw [h349, show ((349 : Nat) : Int) = 349 from rfl] at HFE
             unfold cells9 at HDa HFE
             clear d3 k3 g3 c3 f3 hn3 h349 x0 x1 x2 x3 x4 x5 x6 x7 x8
             generalize hY : wa.heap.size = Y at *))
        go_ret
        exact ⟨rfl, HDf.out.hb⟩

set_option maxRecDepth 100000 in
theorem lifted (os : Os) (started : os.Started) (H : Type) (enc : TypeId × Value → H) :
    ReturnsInHanded {} Tryz.checked os 4 .any (Rows.runsDropSpec.pre6 enc Tryz.prog Tryz.f4 Rows.runsDropRow.domain false) (Rows.runsDropSpec.post enc Tryz.prog Tryz.f4 false true false false) := by
  refine returnsInHanded_of_change_sized (C := Tryz.checked) own started (by kernel_rfl) Tryz.func4
    (ChangeSpec.witness6 (enc := enc) (C := Tryz.checked) false ⟨#[], #[.slice none 0 0, .slice none 0 0], []⟩ 8 (by kernel_rfl) (by kernel_rfl) (by kernel_rfl) (by kernel_rfl)) ?_
  intro W base args ds gs before hval0 hW hcnd hsz0 _
  have hval : ∀ (j : Nat) t v, Tryz.f4.params[j]? = some t → args[j]? = some v → Value.okWide Tryz.prog W .any base t v := hval0
  have hW' := hW
  obtain ⟨p, q, hA0, hV, rfl, hfz, hnd⟩ := hW
  have hA : DataW.TrodAll enc Tryz.prog W 0 (fun _ => true) true Tryz.f4.params.toList args.toList ds p := hA0
  rw [Tryz.params4] at hA hval
  obtain ⟨v0, vs0, d0, ds0, p0, q0, hargs, rfl, rfl, h0, r0⟩ := trodAll_cons hA
  obtain ⟨v1, vs1, d1, ds1, p1, q1, rfl, rfl, rfl, h1, r1⟩ := trodAll_cons r0
  obtain ⟨rfl, rfl, rfl⟩ := trodAll_nil r1
  obtain rfl : args = #[v0, v1] := by cases args; simp_all
  obtain ⟨rfl, rfl⟩ := trodVars_none hV
  have lt0 : ∀ x ∈ p0, x.block < W.heap.size := by obtain ⟨m, hm⟩ := h0; exact DataW.trod_lt m _ _ _ hm
  obtain ⟨a0, len0, cap0, rfl⟩ := okWide_slice Tryz.underlying27 (hval 0 27 v0 rfl rfl)
  obtain ⟨l0, w0⟩ := ints_open h0
  have lt1 : ∀ x ∈ p1, x.block < W.heap.size := by obtain ⟨m, hm⟩ := h1; exact DataW.trod_lt m _ _ _ hm
  obtain ⟨a1, len1, cap1, rfl⟩ := okWide_slice Tryz.underlying27 (hval 1 27 v1 rfl rfl)
  obtain ⟨l1, w1⟩ := ints_open h1
  clear hA0 hval0
  refine (walk a0 len0 cap0 l0 a1 len1 cap1 l1 W w0 w1).mono fun e W' ⟨he, bel⟩ => ?_
  subst he
  exact ⟨_, rfl, _, _, _, [], _, [], hW', trodAll_mk1 (shut_bool Tryz.underlying4 _), (trodAll_cons_mk (Below.trod laidOut (by kernel_rfl) (of_decide_eq_true (by kernel_rfl)) h0 bel lt0) (trodAll_cons_mk (Below.trod laidOut (by kernel_rfl) (of_decide_eq_true (by kernel_rfl)) h1 bel lt1) trodAll_mk0)), rfl, bel.frame _, fun h => by cases h⟩

theorem over : Rows.runsDropRow.holds Tryz.pinned (OpenSpec.ofChange Rows.runsDropSpec) :=
  OpenClaim.holds_of_wide 4 Tryz.f4 rfl rfl rfl rfl rfl rfl rfl ⟨rfl, rfl, rfl, rfl, rfl⟩ rfl rfl rfl rfl rfl (by kernel_rfl) Tryz.func4 (by kernel_rfl)
    (of_decide_eq_true (by kernel_rfl)) (by unfold Func.isWrapper; first | (rw [if_pos (by decide +kernel)]; kernel_rfl) | (rw [if_neg (by decide +kernel)]; exact ⟨rfl, rfl⟩))
    (fun os started H enc _ => lifted os started H enc)

end Go.Proofs.YtgdlfiejjnjcpaaGreat.Dl.runsDrop
namespace Go.Proofs.YtgdlfiejjnjcpaaGreat
theorem runsDrop_proved : Rows.RunsDropSaid := Dl.runsDrop.over
#print axioms runsDrop_proved
end Go.Proofs.YtgdlfiejjnjcpaaGreat
