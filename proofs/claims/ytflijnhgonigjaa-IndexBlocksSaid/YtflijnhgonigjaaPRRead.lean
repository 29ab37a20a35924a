/-
  WALK: the reference's Read. Conditions: at most 1000 texts.
-/
import Derived.Test.YtflijnhgonigjaaPIRead
import Derived.Test.YtflijnhgonigjaaPRWrite
namespace Go.Proofs.Ytflijnhgonigjaa
open Go.RowKit
set_option linter.unusedVariables false

theorem num2_take (l : List UInt8) : num2 (l.take 2) = num2 l := by
  unfold num2
  match l with
  | [] => rfl
  | [a] => rfl
  | a :: b :: r => rfl
theorem ent_facts {s : ByteArray} {j : Nat} (h : 14 + 13 * j ≤ s.size) :
    (s.extract (1 + 13 * j) (14 + 13 * j)).size = 13 ∧ (s.extract (1 + 13 * j) (14 + 13 * j)).extract 0 11 = s.extract (1 + 13 * j) (12 + 13 * j) ∧
    num2 ((s.extract (1 + 13 * j) (14 + 13 * j)).extract 11 (s.extract (1 + 13 * j) (14 + 13 * j)).size).data.toList = num2 (s.data.toList.drop (12 + 13 * j)) ∧
    2 ≤ ((s.extract (1 + 13 * j) (14 + 13 * j)).extract 11 (s.extract (1 + 13 * j) (14 + 13 * j)).size).size := by
  have hz : (s.extract (1 + 13 * j) (14 + 13 * j)).size = 13 := by rw [ByteArray.size_extract]; omega
  have hd : (s.extract (1 + 13 * j) (14 + 13 * j)).data.toList = (s.data.toList.drop (1 + 13 * j)).take 13 := by
    rw [ext_bs, bs_data, show 14 + 13 * j - (1 + 13 * j) = 13 by omega]
  refine ⟨hz, ?_, ?_, by rw [ByteArray.size_extract, hz]; omega⟩
  · rw [ext_bs, hd, ext_bs, List.drop_zero, List.take_take, show min (11 - 0) 13 = 12 + 13 * j - (1 + 13 * j) by omega]
  · rw [ext_data, hd, List.drop_take, List.drop_drop, show 1 + 13 * j + 11 = 12 + 13 * j by omega]
    exact num2_take _
theorem ref_no1 {s : ByteArray} (h : ¬ s.size = 128) : refb s = none := by unfold refb; rw [if_neg]; exact fun x => h x.1
theorem ref_no2 {s : ByteArray} (h : 9 < cnt s) : refb s = none := by unfold refb; rw [if_neg]; omega
theorem ref_go {s : ByteArray} (h : s.size = 128) (h9 : cnt s ≤ 9) : refb s = entsTo s (cnt s) := by unfold refb; rw [if_pos ⟨h, h9⟩]
theorem cnt_at {s : ByteArray} (h : 0 < s.size) : (s[0]'h).toNat = cnt s := by
  have := byte_at s 0 h
  unfold cnt
  simp only [List.getD, this, Option.getD_some]

set_option maxRecDepth 100000 in
set_option maxHeartbeats 8000000 in
theorem rreadP_any (A : Option Addr) (n c B : Nat) (bl : List ByteArray) (w : World) (hA : StrsAt w B A n bl) (hB : B ≤ w.heap.size) (hn : n ≤ 1000) :
    Calls Try.prog 27 #[.slice A n c] w (RetAP w (rd refb bl)) := by
  have hlen := hA.len
  have HL := Lib.hid hlen
  have HA := Lib.hid hA
  have HNO := Lib.hid (fun k (hk : k < n) h => rd_no (u := refb) (bl := bl) (k := k) (by rw [hlen]; exact hk) h)
  have HSN := Lib.hid (fun k (hk : k < n) l h => pgs_snoc refb (bl := bl) (k := k) (by rw [hlen]; exact hk) (l := l) h)
  have HPL : Hid (∀ k, k ≤ n → (pgs refb (bl.take k)).length = k) := fun k hk => by rw [pgs_len, List.length_take, hlen]; omega
  clear hA hlen
  go_enter Try.func27, Try.ntmps27
  go_wp2
  go_loopw [4, 5, 6, 7, 8, 9, 10, 11, 12, 13] (fun v i _ _ _ _ _ _ _ _ wr => ∃ k : Nat, k ≤ n ∧ i = .int .i64 (k : Int) ∧ Hid (∀ j, j < k → (refb (bl.getD j ⟨#[]⟩)).isSome = true) ∧ OwnPg wr w.heap.size v (pgs refb (bl.take k)) ∧ Below w.heap.size w wr) (fun _ i _ _ _ _ _ _ _ _ _ => n - (intOf i).toNat)
  case atStart => exact ⟨0, by omega, rfl, fun j hj => absurd hj (Nat.not_lt_zero _), OwnPg.nil _ _, Below.refl _ _⟩
  case round =>
    obtain ⟨k, hk, rfl, hok, hown, hb⟩ := hrel
    obtain ⟨A5, c5, rfl⟩ := hown.slice
    rw [HPL.out k hk] at hown ⊢
    by_cases hlt : k < n
    · obtain ⟨W1, hW1⟩ : ∃ W1, W1 = wr := ⟨_, rfl⟩
      subst hW1
      obtain ⟨b, o, rfl, hbB, g1⟩ := HA.out.at_ hlt
      have d1 := bcell hb g1 (by show b < _; omega)
      have hbd := HA.out.bd k
      have HNOk := Lib.hid (HNO.out k hlt)
      have HSNk := Lib.hid (HSN.out k hlt)
      have HOWN := Lib.hid hown
      have HB := Lib.hid hb
      have HOKk : Hid ((refb (bl.getD k ⟨#[]⟩)).isSome = true → ∀ j, j < k + 1 → (refb (bl.getD j ⟨#[]⟩)).isSome = true) := fun h j hj => by
        rcases Nat.lt_or_ge j k with h1 | h1
        · exact hok.out j h1
        · obtain rfl : j = k := by omega
          exact h
      have x1 : (0 : Int) ≤ (k : Int) := by omega
      have x2 : (k : Int) < (n : Int) := by omega
      have hal : (pgs refb (bl.take k)).length = k := HPL.out k hk
      have HALN := Lib.hid hal
      clear g1 hown hb HPL HNO HSN hok hal
      generalize bl.getD k ⟨#[]⟩ = S at *
      generalize pgs refb (bl.take k) = acc at *
      by_cases h128 : S.size = 128
      · have hb0 := cnt_at (s := S) (by omega)
        have hcl := cnt_le S
        have z1 : ((S.size : Int) == 128) = true := by rw [beq_iff_eq]; omega
        have z2 : (S.size : Int) = 128 := by omega
        by_cases h9 : cnt S ≤ 9
        · have HRG := Lib.hid (ref_go h128 h9)
          have HEF := Lib.hid (fun j (hj : j < cnt S) => ent_facts (s := S) (j := j) (by omega))
          have HEN := Lib.hid (fun j (hj : j < cnt S) he => entsTo_no (b := S) (k := j) he (cnt S) hj)
          have HNX := Lib.hid (fun j l e h he => entsTo_next (b := S) (k := j) (l := l) (e := e) h he)
          have HLN := Lib.hid (fun j l h => entsTo_len (b := S) j (l := l) h)
          generalize cnt S = N at *
          have z3 : decide ((9 : Int) < (N : Int)) = false := by simp; omega
          have z4 : wrap64 (N : Int) = (N : Int) := by unfold wrap64; omega
          go_wp2
          go_loopw [7, 8, 9, 10, 11, 12, 13] (fun v a _ _ _ _ _ wr => ∃ (j : Nat) (l : List En), j ≤ N ∧ a = .int .i64 (j : Int) ∧ Hid (entsTo S j = some l) ∧ Hid (∀ e ∈ l, e.fit) ∧ wr.ownsRow W1.heap.size 47 2 v l.length (ensCells l) ∧ Below W1.heap.size W1 wr) (fun _ a _ _ _ _ _ _ => N - (intOf a).toNat)
          case atStart => exact ⟨0, [], by omega, rfl, rfl, fun e he => by simp at he, World.ownsRow_nil _ _ _ _, Below.refl _ _⟩
          case round =>
            obtain ⟨j, l, hj, rfl, hent, hfit, hown2, hb2⟩ := hrel
            have hll := HLN.out j l hent.out
            have HO2 := Lib.hid hown2
            have HB2 := Lib.hid hb2
            have HLL := Lib.hid hll
            by_cases hjN : j < N
            · obtain ⟨A6, c6, rfl, hc6⟩ := own_slice hown2
              rw [hll] at HO2 ⊢
              obtain ⟨r1, r2, r3, r4⟩ := HEF.out j hjN
              have HNOj := Lib.hid (fun he => HNOk.out (HRG.out.trans (HEN.out j hjN he)))
              have HNXj := Lib.hid (fun e he => HNX.out j l e hent.out he)
              have y1 : (j : Int) < (N : Int) := by omega
              have y2 : (0 : Int) ≤ 1 + 13 * (j : Int) := by omega
              have y3 : 14 + 13 * (j : Int) ≤ 128 := by omega
              have y4 : (1 + 13 * (j : Int)).toNat = 1 + 13 * j := by omega
              have y5 : (14 + 13 * (j : Int)).toNat = 14 + 13 * j := by omega
              have y6 : 1 + 13 * (j : Int) ≤ 14 + 13 * (j : Int) := by omega
              have HNB := Lib.hid (num2_bd (S.data.toList.drop (12 + 13 * j)))
              have HU := Lib.hid (fun W => runtext_any (S.extract (1 + 13 * j) (12 + 13 * j)) W (by rw [ByteArray.size_extract]; omega))
              have hul := untext_le (S.extract (1 + 13 * j) (12 + 13 * j))
              have hel : (S.extract (1 + 13 * j) (12 + 13 * j)).size ≤ 128 := by rw [ByteArray.size_extract]; omega
              generalize hut : untextR (S.extract (1 + 13 * j) (12 + 13 * j)) = U at *
              obtain ⟨t, ze⟩ := U
              simp only at HU hul
              have HENo : Hid (¬ ze = 0 → entAt S j = none) := fun h => entAt_no hut h
              have HEY : Hid (ze = 0 → entAt S j = some ⟨t, num2 (S.data.toList.drop (12 + 13 * j))⟩) := fun h => entAt_yes (by rw [hut, h])
              rw [← r2] at HU
              have HRD := Lib.hid (fun (A : Option Addr) (B : Nat) (W : World) (a : IntsAt W B A 1 [2]) (hB : B ≤ W.heap.size) => rread_any A 1 1 B [2] ((S.extract (1 + 13 * j) (14 + 13 * j)).extract 11 (S.extract (1 + 13 * j) (14 + 13 * j)).size) W a hB (by omega) (by rw [ByteArray.size_extract]; omega))
              have hrd : readR [2] (bytesOf ((S.extract (1 + 13 * j) (14 + 13 * j)).extract 11 (S.extract (1 + 13 * j) (14 + 13 * j)).size)) = ([num2 (S.data.toList.drop (12 + 13 * j))], 0) := by
                have := read2 (p := ((S.extract (1 + 13 * j) (14 + 13 * j)).extract 11 (S.extract (1 + 13 * j) (14 + 13 * j)).size).data.toList) (by rw [data_len]; exact r4)
                rw [bs_eq, r3] at this
                exact this
              rw [hrd] at HRD
              have htl : t.size ≤ 140737488355328 := by omega
              have hTz : Hid ((S.extract (1 + 13 * j) (14 + 13 * j)).size = 13) := r1
              clear hut hul hel hrd r1 r2 r3 r4 hll hown2 hb2
              generalize num2 (S.data.toList.drop (12 + 13 * j)) = nn at *
              generalize entAt S j = oe at *
              generalize hTT : S.extract (1 + 13 * j) (14 + 13 * j) = T at *
              have HTT := Lib.hid hTT
              clear hTT
              have y7 : (11 : Int) ≤ (T.size : Int) := by have := hTz.out; omega
              go_upto_region 13 with fail
              rw [HTT.out]
              go_wp2_with fail
              refine (HU.out _).mono ?_
              rintro e w4 ⟨rfl, rfl⟩
              have hi4 := ints_one wr 2 (by omega)
              have HB5 : Hid (Below W1.heap.size W1 (wr.alloc (.cells #[.int .i64 2] 3))) := HB2.out.alloc HB2.out.size _
              have HO5 := Lib.hid (HO2.out.alloc (.cells #[.int .i64 2] 3))
              have hz4 : wr.heap.size + 1 ≤ (wr.alloc (.cells #[.int .i64 2] 3)).heap.size := by simp
              go_wp2_with fail
              refine (HRD.out _ _ _ hi4 hz4).mono ?_
              rintro e w6 ⟨A7, n7, c7, rfl, hi7, b7⟩
              have hn7 : n7 = 1 := hi7.len.symm
              subst hn7
              obtain ⟨g7, o7, rfl, hg7, hc7⟩ := hi7.at_ (k := 0) (by omega)
              have k7 : w6.cell? ⟨g7, o7, none⟩ = some (.int .i64 nn) := hc7
              have HO6 := Lib.hid (own_below HO5.out b7 (Nat.le_refl _))
              have HB6 := Lib.hid (HB5.out.trans (b7.mono HB5.out.size))
              clear b7 hi7 hc7 hi4 hz4
              by_cases hze : ze = 0
              · have HE := Lib.hid (HEY.out hze)
                subst hze
                go_wp2_with (at_builtin; refine push_law rfl (.tmp 64) (.tmp 70) rfl W1.heap.size w6 (.slice A6 j c6) l t nn rfl rfl (by rw [HLL.out]; exact HO6.out) (by rw [HLL.out]; omega) HB6.out.size ?_)
                intro v' w7 ho7 b7
                have HO7 : Hid (w7.ownsRow W1.heap.size 47 2 v' (l ++ [(⟨t, nn⟩ : En)]).length (ensCells (l ++ [(⟨t, nn⟩ : En)]))) := by
                  show World.ownsRow _ _ _ _ _ _ _
                  rw [List.length_append]; exact ho7
                have HB7 := Lib.hid (HB6.out.trans b7)
                clear ho7 b7
                go_wp2
                go_roundw
                case rel => exact ⟨j + 1, l ++ [⟨t, nn⟩], by omega, by go_num, HNXj.out _ HE.out, fun e he => by
                  rcases List.mem_append.1 he with he | he
                  · exact hfit.out e he
                  · obtain rfl : e = ⟨t, nn⟩ := by simpa using he
                    exact bytes_fit htl HNB.out, HO7.out, HB7.out⟩
                case measure => simp [intOf]; omega
              · have HF := Lib.hid (HNOj.out (HENo.out hze))
                have d1 : (ze == 0) = false := beq_eq_false_iff_ne.2 hze
                go_wp2
                go_ret2
                rw [HF.out]
                exact RetAP.err w 15 (HB.out.trans (HB6.out.mono HB.out.size))
            · have y1 : ¬ (j : Int) < (N : Int) := by omega
              obtain rfl : j = N := by omega
              have hru : refb S = some l := HRG.out.trans hent.out
              have HQ := Lib.hid (HSNk.out l hru)
              have HOK1 := Lib.hid (HOKk.out (by rw [hru]; rfl))
              obtain ⟨A6, c6, rfl, hsl⟩ := own_apart hown2 hfit.out HOWN.out
              have HOD := Lib.hid (HOWN.out.beneath hb2)
              have HB3 := Lib.hid (HB.out.trans (hb2.mono HB.out.size))
              have hz3 := HB3.out.size
              have HV := Lib.hid hsl
              rw [hll] at HV ⊢
              clear hown2 hb2 hsl hll hru HSNk HNOk HOKk HO2 HEF HEN HNX HLN d1
              go_wp2_with (at_builtin; refine pushP_law rfl (.tmp 72) (.tmp 74) rfl w.heap.size wr (.slice A5 k c5) acc [.slice A6 j c6] [l] rfl 1 1 rfl HOD.out (PgV.single HV.out) rfl (by omega) (by rw [HALN.out]; omega) hz3 ?_)
              intro v' w7 ho7 b7 hkp
              clear hkp
              rw [← HQ.out] at ho7
              have HO7 := Lib.hid ho7
              have HB7 : Hid (Below w.heap.size w w7) := HB3.out.trans (b7.mono (Nat.le_refl _))
              clear ho7 b7
              go_wp2
              go_roundw
              case rel => exact ⟨k + 1, by omega, by go_num, HOK1.out, HO7.out, HB7.out⟩
              case measure => simp [intOf]; omega
        · have HF := Lib.hid (HNOk.out (ref_no2 (by omega)))
          generalize cnt S = N at *
          have z3 : decide ((9 : Int) < (N : Int)) = true := by simp; omega
          have z5 : (9 : Int) < (N : Int) := by omega
          go_wp2
          go_ret2
          rw [HF.out]
          exact RetAP.err w 15 HB.out
      · have HF := Lib.hid (HNOk.out (ref_no1 h128))
        have d2 : ((S.size : Int) == 128) = false := by rw [beq_eq_false_iff_ne]; omega
        have d3 : ¬ (S.size : Int) = 128 := by omega
        go_wp2
        go_ret2
        rw [HF.out]
        exact RetAP.err w 15 HB.out
    · have x1 : ¬ (k : Int) < (n : Int) := by omega
      obtain rfl : k = n := by omega
      have e1 : bl.take k = bl := by rw [← HL.out, List.take_length]
      rw [e1] at hown
      have hpl : (pgs refb bl).length = k := by rw [pgs_len, HL.out]
      have HOKA : Hid (okAll refb bl = true) := rd_all (fun j hj => hok.out j (by rw [← HL.out]; exact hj))
      obtain ⟨A', c', e', hc', hP⟩ := hown.pgs
      injection e' with e1' e2' e3'
      subst e1' e3'
      clear e2'
      rw [hpl] at hP hc'
      have KW := Lib.hid (rwriteP_any A5 k c5 wr.heap.size (pgs refb bl) wr hP (Nat.le_refl _) (by omega) (Nat.le_trans (sum_le _ 9 (pgs_ref_le bl)) (by rw [pgs_len, HL.out]; omega)))
      have HOWN := Lib.hid hown
      have HB := Lib.hid hb
      have HODD : Hid (rightP (pgs refb bl) = false → rd refb bl = ([], 15)) := rd_odd
      have HNE : Hid (decide ((pgs refb bl).map blkP = bl) = false → rd refb bl = ([], 15)) := rd_ne
      have HYESR : Hid (rightP (pgs refb bl) = true → decide ((pgs refb bl).map blkP = bl) = true → rd refb bl = (pgs refb bl, 0)) := rd_yes HOKA.out
      have HML : Hid (((pgs refb bl).map blkP).length = k) := by show _ = _; rw [List.length_map, pgs_len, HL.out]
      clear hown hb hP hpl e1 hok HOKA
      generalize rd refb bl = RES at *
      generalize pgs refb bl = P at *
      have hrr : rightP P = false ∨ rightP P = true := by rcases Bool.eq_false_or_eq_true (rightP P) with h | h; exact Or.inr h; exact Or.inl h
      rcases hrr with hr | hr
      ·
        have HF := Lib.hid (HODD.out hr)
        rw [writeP_no hr] at KW
        clear hr
        go_wp2_with fail
        refine KW.out.mono ?_
        rintro e w3 ⟨v3, rfl, ho3, b3⟩
        obtain ⟨A3, c3, rfl, hc3⟩ := own_slice ho3
        simp only
        go_wp2
        go_ret2
        rw [HF.out]
        exact RetAP.err w 15 (HB.out.trans (b3.mono HB.out.size))
      ·
        have HBS := Lib.hid (blks_size hr)
        have HYES := Lib.hid (HYESR.out hr)
        rw [writeP_yes hr] at KW
        clear hr
        go_wp2_with fail
        refine KW.out.mono ?_
        rintro e w3 ⟨v3, rfl, ho3, b3⟩
        obtain ⟨A3, c3, rfl, hc3⟩ := own_slice ho3
        simp only at ho3 ⊢
        have HEQ := Lib.hid (texts_any A3 A k k c3 c w3.heap.size B (P.map blkP) bl w3 (by have := StrsAt.of_own ho3 rfl HBS.out; rw [HML.out] at this; exact this) (HA.out.below (HB.out.trans (b3.mono HB.out.size)) hB) (by omega) (by omega))
        have HB3 := Lib.hid b3
        rw [HML.out]
        clear ho3 b3 hc3
        have hdd : decide (P.map blkP = bl) = true ∨ decide (P.map blkP = bl) = false := Bool.eq_false_or_eq_true _
        rcases hdd with hdec | hdec
        ·
          have HF := Lib.hid (HYES.out hdec)
          rw [hdec] at HEQ
          clear hdec
          go_wp2_with fail
          refine HEQ.out.mono ?_
          rintro e w4 ⟨rfl, d4⟩
          go_wp2
          go_ret2
          rw [HF.out]
          exact RetAP.own HOWN.out HB.out (Below.drews HB3.out d4)
        ·
          have HF := Lib.hid (HNE.out hdec)
          rw [hdec] at HEQ
          clear hdec
          go_wp2_with fail
          refine HEQ.out.mono ?_
          rintro e w4 ⟨rfl, d4⟩
          go_wp2
          go_ret2
          rw [HF.out]
          exact RetAP.err w 15 (Below.drews (HB.out.trans (HB3.out.mono HB.out.size)) d4)
end Go.Proofs.Ytflijnhgonigjaa
