/-
  WALKS: the reference's Whole (at most 128 bytes), its Write. Conditions: at most 10000 pages, at most 100000 entries in all.
-/
import Derived.Test.YtflijnhgonigjaaPIWrite
import Derived.Test.YtflijnhgonigjaaPRef
namespace Go.Proofs.Ytflijnhgonigjaa
open Go.RowKit
set_option linter.unusedVariables false

set_option maxHeartbeats 1000000 in
theorem whole_any (s : ByteArray) (w : World) (hs : s.size ≤ 128) :
    Calls Try.prog 54 #[.string s] w fun e w' => e = .returned (.string (padS s 128)) ∧ Below w.heap.size w w' := by
  obtain ⟨m, hm⟩ : ∃ m : Nat, m = 128 - s.size := ⟨_, rfl⟩
  have HZ := Lib.hid (fun W => zeros_any m W (by omega))
  have e1 : min (s.size : Int) 128 = (s.size : Int) := by omega
  have e2 : s.extract 0 s.size = s := by
    apply ByteArray.ext; apply Array.ext'; simp
  have e3 : (128 : Int) - (s.size : Int) = (m : Int) := by omega
  have e4 : (s.size : Int) ≤ 128 := by omega
  have HP : Hid (s ++ (⟨(List.replicate m (0 : UInt8)).toArray⟩ : ByteArray) = padS s 128) := by show _ = _; rw [hm]; exact pad_add s 128
  have e5 : (⟨(List.replicate m (0 : UInt8)).toArray⟩ : ByteArray).size = m := by show (List.replicate m (0 : UInt8)).length = m; simp
  rw [← HP.out]
  have k1 : ¬ 9223372036854775807 < s.size + (⟨(List.replicate m (0 : UInt8)).toArray⟩ : ByteArray).size := by rw [e5]; omega
  clear HP e5 hm
  generalize (⟨(List.replicate m (0 : UInt8)).toArray⟩ : ByteArray) = Z at *
  go_enter Try.func54, Try.ntmps54
  go_wp2_with fail
  all_goals
    refine (HZ.out _).mono ?_
    rintro e w3 ⟨rfl, b3⟩
    go_wp2
    go_ret
    exact ⟨rfl, b3⟩

set_option maxRecDepth 100000 in
set_option maxHeartbeats 8000000 in
theorem rwriteP_any (A : Option Addr) (n c B : Nat) (p : Pg) (w : World) (hA : PgsAt w B A n p) (hB : B ≤ w.heap.size) (hn : n ≤ 10000) (hm : p.flatten.length ≤ 100000) :
    Calls Try.prog 25 #[.slice A n c] w (RetW w (writeP p)) := by
  have KR := Lib.hid (rright_anyP A n c B p w hA hB (by omega) hm)
  have hlen := hA.len
  cases hr : rightP p with
  | false =>
    have HF := Lib.hid (writeP_no hr)
    rw [hr] at KR
    clear hr hA hm hlen
    go_enter Try.func25, Try.ntmps25
    go_wp2_with fail
    refine KR.out.mono ?_
    rintro e w3 ⟨rfl, b3⟩
    go_wp2
    go_ret2
    exact RetW.err HF.out b3
  | true =>
    have HF := Lib.hid (writeP_yes hr)
    have HPK : Hid (∀ k, k < n → (∀ e ∈ p.getD k [], e.okS) ∧ (p.getD k []).length ≤ 9) := fun k hk => by
      rw [pg_getD (by rw [hlen]; exact hk)]
      have := page_okS hr (List.getElem_mem (by rw [hlen]; exact hk))
      exact ⟨this.1, this.2.1⟩
    have HMT : Hid (∀ k, k < n → (p.take (k + 1)).map blkP = (p.take k).map blkP ++ [blkP (p.getD k [])]) := fun k hk => map_take (by rw [hlen]; exact hk)
    have HML : Hid (∀ k, ((p.take k).map blkP).length ≤ k) := fun k => by rw [List.length_map, List.length_take]; omega
    have HME : Hid ((p.take n).map blkP = p.map blkP) := by show _ = _; rw [← hlen, List.take_length]
    have HA := Lib.hid hA
    rw [HF.out]
    rw [hr] at KR
    clear hr hA hm hlen HF
    go_enter Try.func25, Try.ntmps25
    go_wp2_with fail
    refine KR.out.mono ?_
    rintro e w3 ⟨rfl, b3⟩
    have HB3 := Lib.hid b3
    clear b3 KR
    go_wp2
    go_loopw [4, 5, 6, 7, 8, 9, 10, 11, 12] (fun v i _ _ _ _ _ _ _ wr => ∃ k : Nat, k ≤ n ∧ i = .int .i64 (k : Int) ∧ wr.ownsRow w.heap.size 9 1 v ((p.take k).map blkP).length (strs ((p.take k).map blkP)) ∧ Below w.heap.size w wr) (fun _ i _ _ _ _ _ _ _ _ => n - (intOf i).toNat)
    case atStart => exact ⟨0, by omega, rfl, World.ownsRow_nil _ _ _ _, HB3.out⟩
    case round =>
      obtain ⟨k, hk, rfl, hown, hb⟩ := hrel
      by_cases hlt : k < n
      · obtain ⟨W1, hW1⟩ : ∃ W1, W1 = wr := ⟨_, rfl⟩
        subst hW1
        obtain ⟨b, o, A1, c1, rfl, hbB, hcell, hlc, hE1⟩ := HA.out.at_ hlt
        have D0 : Hid (W1.cell? ⟨b, o + k, none⟩ = some (.slice A1 (p.getD k []).length c1)) := bcell hb hcell (by show b < _; omega)
        have HE : Hid (EnsAt W1 B A1 (p.getD k []).length (p.getD k [])) := hE1.below hb hB
        have hBr : B ≤ W1.heap.size := Nat.le_trans hB hb.size
        have hpk := HPK.out k hlt
        have HMTk := Lib.hid (HMT.out k hlt)
        have hml := HML.out k
        have hpl := hE1.len
        have HOKE : Hid (∀ j, j < (p.getD k []).length → ((p.getD k []).getD j En.z).okS) := fun j hj => by rw [getD_lt hj]; exact hpk.1 _ (List.getElem_mem _)
        have HSTE : Hid (∀ j, j < (p.getD k []).length → bs (pageL (p.getD k []).length ((p.getD k []).take j)) ++ (bs (nameL ((p.getD k []).getD j En.z).nm) ++ bs (byte2 ((p.getD k []).getD j En.z).nd)) = bs (pageL (p.getD k []).length ((p.getD k []).take (j + 1)))) := fun j hj => pageL_step hj
        have hmz : ∀ e ∈ p.getD k [], e.nm.size ≤ 11 := fun e he => (hpk.1 e he).len
        have HSZE : Hid (∀ j, j ≤ (p.getD k []).length → (bs (pageL (p.getD k []).length ((p.getD k []).take j))).size = 1 + 13 * j) := fun j hj => by
          rw [bs_size, pageL_len (fun e he => hmz e (List.mem_of_mem_take he)), List.length_take]; omega
        have HPAD : Hid (padS (bs (pageL (p.getD k []).length ((p.getD k []).take (p.getD k []).length))) 128 = blkP (p.getD k [])) := by
          show _ = _
          have h1 := blk_pad hmz hpk.2
          rw [padR_ok (by omega) (by rw [bs_size, pageL_len hmz]; have := hpk.2; omega)] at h1
          rw [List.take_length]
          exact congrArg Prod.fst h1
        have h9 := hpk.2
        have HOWN := Lib.hid hown
        have HB := Lib.hid hb
        have x1 : (0 : Int) ≤ (k : Int) := by omega
        have x2 : (k : Int) < (n : Int) := by omega
        clear hcell hE1 hlc hown hb hpk HPK HMT HML HME hmz hpl
        have HZ : Hid (bs (pageL (p.getD k []).length ((p.getD k []).take 0)) = bs [UInt8.ofNat (p.getD k []).length]) := rfl
        generalize (p.getD k []).length = len at *
        generalize p.getD k [] = pg at *
        generalize (p.take k).map blkP = acc at *
        have HW1 := Lib.hid (fun (A A' : Option Addr) (B : Nat) (W : World) (a : IntsAt W B A 1 [1]) (b : IntsAt W B A' 1 [(len : Int)]) (hB : B ≤ W.heap.size) => rwrite_any A A' 1 1 1 1 B [1] [(len : Int)] W a b hB (by omega) (by omega))
        rw [(write1 (n := len) (by omega)).1] at HW1
        simp only [(write1 (n := len) (by omega)).2] at HW1
        rw [← HZ.out] at HW1
        have d0 := D0.out
        have d1 : (W1.alloc (.cells #[.int .i64 1] 3)).cell? ⟨b, o + k, none⟩ = some (.slice A1 len c1) := by
          rw [World.cell?_alloc_lt _ _ _ (show b < _ by omega)]; exact d0
        clear HZ
        go_wp2_with fail
        obtain ⟨i1, i2, e3, b3⟩ := two_rows W1 1 len (by omega) (by omega)
        generalize ((W1.alloc (.cells #[.int .i64 1] 3)).alloc (.cells #[.int .i64 (len : Int)] 3)) = W3 at *
        have HBW3 := Lib.hid b3
        refine (HW1.out _ _ _ W3 i1 i2 (by rw [e3]; exact Nat.le_refl _)).mono ?_
        clear b3 i1 i2 d0 d1
        rintro e w4 ⟨rfl, b4⟩
        have HBW4 := Lib.hid (HBW3.out.trans (b4.mono HBW3.out.size))
        clear b4 HW1
        go_wp2
        go_loopw [6, 8, 9, 10, 11, 12] (fun t q _ _ _ _ wr => ∃ j : Nat, j ≤ len ∧ q = .int .i64 (j : Int) ∧ t = .string (bs (pageL len (pg.take j))) ∧ Below W1.heap.size W1 wr) (fun _ q _ _ _ _ _ => len - (intOf q).toNat)
        case atStart => exact ⟨0, by omega, rfl, rfl, HBW4.out⟩
        case round =>
          obtain ⟨j, hj, rfl, rfl, hb2⟩ := hrel
          have d0 := bcell hb2 D0.out (by show b < _; omega)
          by_cases hjl : j < len
          · obtain ⟨b1, o1, rfl, hb1, g1, g2⟩ := HE.out.at_ hjl
            have f1 := bcell hb2 g1 (by show b1 < _; omega)
            have f2 := bcell hb2 g2 (by show b1 < _; omega)
            have ho := HOKE.out j hjl
            have HSTk := Lib.hid (HSTE.out j hjl)
            have hz1 := HSZE.out j (by omega)
            have HB2 := Lib.hid hb2
            have hs2 := hb2.size
            have y1 : (0 : Int) ≤ (j : Int) := by omega
            have y2 : (j : Int) < (len : Int) := by omega
            clear g1 g2 hb2
            generalize pg.getD j En.z = x at *
            obtain ⟨s, z⟩ := x
            have h0 : 0 ≤ z := ho.lo
            have h1 : z ≤ 65535 := ho.hi
            have hs : s.size ≤ 11 := ho.len
            have hz : hasZ s = false := ho.nz
            simp only at f1 f2 HSTk
            have HX := Lib.hid (fun W => rtext_any s 11 W (by omega) (by omega))
            rw [text11 hs hz] at HX
            have HW := Lib.hid (fun (A A' : Option Addr) (B : Nat) (W : World) (a : IntsAt W B A 1 [2]) (b : IntsAt W B A' 1 [z]) (hB : B ≤ W.heap.size) => rwrite_any A A' 1 1 1 1 B [2] [z] W a b hB (by omega) (by omega))
            rw [(write2 h0 h1).1] at HW
            simp only [(write2 h0 h1).2] at HW
            have hn1 : (bs (nameL s)).size = 11 := by rw [bs_size, name_len hs]
            have hn2 : (bs (byte2 z)).size = 2 := rfl
            have hn3 : (bs (nameL s) ++ bs (byte2 z)).size = 13 := by rw [bs_append, bs_size, List.length_append, name_len hs]; rfl
            have k1 : ¬ 9223372036854775807 < (bs (nameL s)).size + (bs (byte2 z)).size := by omega
            have k2 : ¬ 9223372036854775807 < (bs (pageL len (pg.take j))).size + (bs (nameL s) ++ bs (byte2 z)).size := by omega
            clear ho hz hn1 hn2 hn3 hz1
            generalize bs (nameL s) = p11 at *
            generalize bs (byte2 z) = p2 at *
            generalize bs (pageL len (pg.take j)) = pk at *
            go_wp2_with fail
            refine (HX.out _).mono ?_
            rintro e w5 ⟨rfl, b5⟩
            have m0 := bcell b5 d0 (by show b < _; omega)
            have m2 := bcell b5 f2 (by show b1 < _; omega)
            have hs5 := b5.size
            have HB5 := Lib.hid (HB2.out.trans (b5.mono HB2.out.size))
            clear b5 d0 f1 f2
            have m3 : (w5.alloc (.cells #[.int .i64 2] 3)).cell? ⟨b, o + k, none⟩ = some (.slice (some ⟨b1, o1, none⟩) len c1) := by
              rw [World.cell?_alloc_lt _ _ _ (show b < _ by omega)]; exact m0
            have m4 : (w5.alloc (.cells #[.int .i64 2] 3)).cell? ⟨b1, o1 + j * 2 + 1, none⟩ = some (.int .i64 z) := by
              rw [World.cell?_alloc_lt _ _ _ (show b1 < _ by omega)]; exact m2
            go_wp2_with fail
            obtain ⟨i1, i2, e3, b3⟩ := two_rows w5 2 z (by omega) (by omega)
            generalize ((w5.alloc (.cells #[.int .i64 2] 3)).alloc (.cells #[.int .i64 z] 3)) = W6 at *
            have HB6 := Lib.hid (HB5.out.trans (b3.mono HB5.out.size))
            refine (HW.out _ _ _ W6 i1 i2 (by rw [e3]; exact Nat.le_refl _)).mono ?_
            clear b3 i1 i2
            rintro e w7 ⟨rfl, b7⟩
            have HB7 := Lib.hid (HB6.out.trans (b7.mono HB6.out.size))
            clear b7 HW
            go_wp2
            go_roundw
            case rel => exact ⟨j + 1, by omega, by go_num, by rw [← HSTk.out], HB7.out⟩
            case measure => simp [intOf]; omega
          · have y1 : ¬ (j : Int) < (len : Int) := by omega
            obtain rfl : j = len := by omega
            have HWH := Lib.hid (fun W => whole_any (bs (pageL j (pg.take j))) W (by rw [HSZE.out j (Nat.le_refl _)]; omega))
            rw [HPAD.out] at HWH
            have HB2 := Lib.hid hb2
            clear hb2
            generalize bs (pageL j (pg.take j)) = pk at *
            generalize blkP pg = Z at *
            go_wp2_with fail
            refine (HWH.out _).mono ?_
            rintro e w8 ⟨rfl, b8⟩
            have HB8 := Lib.hid (HB2.out.trans (b8.mono HB2.out.size))
            have HO8 := Lib.hid (own_below HOWN.out HB8.out (Nat.le_refl _))
            have HB9 := Lib.hid (HB.out.trans (HB8.out.mono HB.out.size))
            clear b8 d0
            go_wp2_with (at_builtin; refine pushS_law rfl (.tmp 73) (.tmp 76) rfl w.heap.size w8 _ acc Z rfl rfl HO8.out (by omega) HB9.out.size ?_)
            intro v' w9 ho9 b9
            have HO9 : Hid (w9.ownsRow w.heap.size 9 1 v' ((p.take (k + 1)).map blkP).length (strs ((p.take (k + 1)).map blkP))) := by
              show World.ownsRow _ _ _ _ _ _ _
              rw [HMTk.out, List.length_append]; exact ho9
            have HB10 := Lib.hid (HB9.out.trans b9)
            clear ho9 b9
            go_wp2
            go_roundw
            case rel => exact ⟨k + 1, by omega, by go_num, HO9.out, HB10.out⟩
            case measure => simp [intOf]; omega
      · have x1 : ¬ (k : Int) < (n : Int) := by omega
        obtain rfl : k = n := by omega
        rw [HME.out] at hown
        have HO := Lib.hid hown
        have HB := Lib.hid hb
        clear hown hb
        go_wp2
        go_ret2
        exact ⟨_, rfl, HO.out, HB.out⟩
end Go.Proofs.Ytflijnhgonigjaa
