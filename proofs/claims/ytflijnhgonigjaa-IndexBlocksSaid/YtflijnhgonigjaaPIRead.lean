/-
  WALK: Read. Conditions: at most 1000 texts.
-/
import Derived.Test.YtflijnhgonigjaaPUnblock
import Derived.Test.YtflijnhgonigjaaPIWrite
import Derived.Test.YtflijnhgonigjaaPApart
import Derived.Test.YtflijnhgonigjaaPRefOf
namespace Go.Proofs.Ytflijnhgonigjaa
open Go.RowKit
set_option linter.unusedVariables false

theorem rd_odd {u : ByteArray → Option (List En)} {bl : List ByteArray} (h : rightP (pgs u bl) = false) : rd u bl = ([], 15) := by
  unfold rd; rw [if_neg]; rintro ⟨-, h1, -⟩; rw [h] at h1; cases h1
theorem rd_ne {u : ByteArray → Option (List En)} {bl : List ByteArray} (h : decide ((pgs u bl).map blkP = bl) = false) : rd u bl = ([], 15) := by
  unfold rd; rw [if_neg]; rintro ⟨-, -, h1⟩; exact of_decide_eq_false h h1
theorem rd_yes {u : ByteArray → Option (List En)} {bl : List ByteArray} (h : okAll u bl = true) (h1 : rightP (pgs u bl) = true) (h2 : decide ((pgs u bl).map blkP = bl) = true) : rd u bl = (pgs u bl, 0) := by
  unfold rd; rw [if_pos ⟨h, h1, of_decide_eq_true h2⟩]
theorem pgs_unb_le (bl : List ByteArray) : ∀ l ∈ pgs unb bl, l.length ≤ 255 := by
  intro l hl
  obtain ⟨b, hb, rfl⟩ := List.mem_map.1 hl
  cases h : unb b with
  | none => show 0 ≤ _; omega
  | some l' => have := unb_len h; have := cnt_le b; show l'.length ≤ _; omega
theorem pgs_ref_le (bl : List ByteArray) : ∀ l ∈ pgs refb bl, l.length ≤ 9 := by
  intro l hl
  obtain ⟨b, hb, rfl⟩ := List.mem_map.1 hl
  cases h : refb b with
  | none => show 0 ≤ _; omega
  | some l' => exact ref_len h
theorem blks_size {p : Pg} (h : rightP p = true) : ∀ s ∈ p.map blkP, s.size ≤ 140737488355328 := by
  intro s hs
  obtain ⟨l, hl, rfl⟩ := List.mem_map.1 hs
  have h1 := page_okS h hl
  rw [blk_size (fun e he => (h1.1 e he).len) h1.2.1]; omega
theorem RetAP.own {w wr W : World} {base : Nat} {A : Option Addr} {n c : Nat} {R : Pg} (h : OwnPg wr base (.slice A n c) R) (hb : Below w.heap.size w wr) (hd : Below wr.heap.size wr W) : RetAP w (R, 0) (.returned (.tuple #[.slice A n c, .int .i64 0])) W := by
  obtain ⟨A', c', e, hc, hP⟩ := h.pgs
  injection e with e1 e2 e3
  subst e1 e2 e3
  exact ⟨_, _, rfl, hc, hP.to hd, hb.trans (hd.mono hb.size)⟩

set_option maxRecDepth 100000 in
set_option maxHeartbeats 8000000 in
theorem iread_any (A : Option Addr) (n c B : Nat) (bl : List ByteArray) (w : World) (hA : StrsAt w B A n bl) (hB : B ≤ w.heap.size) (hn : n ≤ 1000) :
    Calls Try.prog 26 #[.slice A n c] w (RetAP w (rd unb bl)) := by
  have hlen := hA.len
  have HL := Lib.hid hlen
  have HA := Lib.hid hA
  have HNO := Lib.hid (fun k (hk : k < n) h => rd_no (u := unb) (bl := bl) (k := k) (by rw [hlen]; exact hk) h)
  have HSN := Lib.hid (fun k (hk : k < n) l h => pgs_snoc unb (bl := bl) (k := k) (by rw [hlen]; exact hk) (l := l) h)
  have HPL : Hid (∀ k, k ≤ n → (pgs unb (bl.take k)).length = k) := fun k hk => by rw [pgs_len, List.length_take, hlen]; omega
  clear hA hlen
  go_enter Try.func26, Try.ntmps26
  go_wp2
  go_loopw [4, 6, 7, 8, 13] (fun v _ _ _ i wr => ∃ k : Nat, k ≤ n ∧ i = .int .i64 (k : Int) ∧ Hid (∀ j, j < k → (unb (bl.getD j ⟨#[]⟩)).isSome = true) ∧ OwnPg wr w.heap.size v (pgs unb (bl.take k)) ∧ Below w.heap.size w wr) (fun _ _ _ _ i _ => n - (intOf i).toNat)
  case atStart => exact ⟨0, by omega, rfl, fun j hj => absurd hj (Nat.not_lt_zero _), OwnPg.nil _ _, Below.refl _ _⟩
  case round =>
    obtain ⟨k, hk, rfl, hok, hown, hb⟩ := hrel
    obtain ⟨A5, c5, rfl⟩ := hown.slice
    rw [HPL.out k hk] at hown ⊢
    by_cases hlt : k < n
    · obtain ⟨b, o, rfl, hbB, g1⟩ := HA.out.at_ hlt
      have d1 := bcell hb g1 (by show b < _; omega)
      have hbd := HA.out.bd k
      have HUB := Lib.hid (unblock_any (bl.getD k ⟨#[]⟩) wr hbd)
      have HNOk := Lib.hid (HNO.out k hlt)
      have HSNk := Lib.hid (HSN.out k hlt)
      have HPL1 := Lib.hid (HPL.out (k + 1) (by omega))
      have HOWN := Lib.hid hown
      have HB := Lib.hid hb
      have HOKk : Hid ((unb (bl.getD k ⟨#[]⟩)).isSome = true → ∀ j, j < k + 1 → (unb (bl.getD j ⟨#[]⟩)).isSome = true) := fun h j hj => by
        rcases Nat.lt_or_ge j k with h1 | h1
        · exact hok.out j h1
        · obtain rfl : j = k := by omega
          exact h
      have x1 : (0 : Int) ≤ (k : Int) := by omega
      have x2 : (k : Int) < (n : Int) := by omega
      have hal : (pgs unb (bl.take k)).length = k := HPL.out k hk
      have HALN := Lib.hid hal
      clear g1 hown hb hbd HPL HNO HSN hok hal
      generalize bl.getD k ⟨#[]⟩ = s at *
      generalize unb s = o at *
      generalize pgs unb (bl.take k) = acc at *
      cases o with
      | none =>
        have HF := Lib.hid (HNOk.out rfl)
        go_wp2_with fail
        refine HUB.out.mono ?_
        rintro e w3 ⟨A3, c3, rfl, -, -, b3⟩
        simp only [Option.getD_none, Option.isSome_none, List.length_nil]
        go_wp2
        go_ret2
        rw [HF.out]
        exact RetAP.err w 15 (HB.out.trans (b3.mono HB.out.size))
      | some l =>
        have HQ := Lib.hid (HSNk.out l rfl)
        have HOK1 := Lib.hid (HOKk.out rfl)
        clear HNOk HSNk HOKk
        go_wp2_with fail
        refine HUB.out.mono ?_
        rintro e w3 ⟨A3, c3, rfl, ho3, hf3, b3⟩
        obtain ⟨A4, c4, e4, hsl⟩ := own_apart ho3 hf3 HOWN.out
        injection e4 with e41 e42 e43
        subst e41 e43
        have HOD := Lib.hid (HOWN.out.beneath b3)
        have HB3 := Lib.hid (HB.out.trans (b3.mono HB.out.size))
        have hz3 := HB3.out.size
        have HV : Hid (SlE w3 w3.heap.size (.slice A5 k c5) (.slice A3 l.length c3) l) := hsl
        simp only [Option.getD_some, Option.isSome_some]
        clear ho3 hf3 b3 hsl
        generalize l.length = ll at *
        go_wp2_with (at_builtin; refine pushP_law rfl (.tmp 24) (.tmp 26) rfl w.heap.size w3 (.slice A5 k c5) acc [.slice A3 ll c3] [l] rfl 1 1 rfl HOD.out (PgV.single HV.out) rfl (by omega) (by rw [HALN.out]; omega) hz3 ?_)
        intro v' w7 ho7 b7 hkp
        clear hkp
        rw [← HQ.out] at ho7
        have HO7 := Lib.hid ho7
        have HB7 : Hid (Below w.heap.size w w7) := HB3.out.trans (b7.mono (Nat.le_refl _))
        clear ho7 b7
        go_wp2
        go_roundw
        case rel => exact ⟨k + 1, by omega, by go_num, HOK1.out, HO7.out, HB7.out⟩
        case measure => simp [intOf]; omega
    · have x1 : ¬ (k : Int) < (n : Int) := by omega
      obtain rfl : k = n := by omega
      have e1 : bl.take k = bl := by rw [← HL.out, List.take_length]
      rw [e1] at hown
      have hpl : (pgs unb bl).length = k := by rw [pgs_len, HL.out]
      have HOKA : Hid (okAll unb bl = true) := rd_all (fun j hj => hok.out j (by rw [← HL.out]; exact hj))
      obtain ⟨A', c', e', hc', hP⟩ := hown.pgs
      injection e' with e1' e2' e3'
      subst e1' e3'
      clear e2'
      rw [hpl] at hP hc'
      have KW := Lib.hid (iwrite_any A5 k c5 wr.heap.size (pgs unb bl) wr hP (Nat.le_refl _) (by omega) (fun l hl => Nat.le_trans (pgs_unb_le bl l hl) (by omega)))
      have HOWN := Lib.hid hown
      have HB := Lib.hid hb
      have HODD : Hid (rightP (pgs unb bl) = false → rd unb bl = ([], 15)) := rd_odd
      have HNE : Hid (decide ((pgs unb bl).map blkP = bl) = false → rd unb bl = ([], 15)) := rd_ne
      have HYESR : Hid (rightP (pgs unb bl) = true → decide ((pgs unb bl).map blkP = bl) = true → rd unb bl = (pgs unb bl, 0)) := rd_yes HOKA.out
      have HML : Hid (((pgs unb bl).map blkP).length = k) := by show _ = _; rw [List.length_map, pgs_len, HL.out]
      clear hown hb hP hpl e1 hok HOKA
      generalize rd unb bl = RES at *
      generalize pgs unb bl = P at *
      have hrr : rightP P = false ∨ rightP P = true := by rcases Bool.eq_false_or_eq_true (rightP P) with h | h; exact Or.inr h; exact Or.inl h
      rcases hrr with hr | hr
      ·
        have HF := Lib.hid (HODD.out hr)
        rw [writeP_no hr] at KW
        clear hr
        go_wp2_with fail
        refine KW.out.mono ?_
        rintro e w3 ⟨v3, rfl, ho3, b3⟩
        obtain ⟨A3, c3, rfl, hc3⟩ := own_slice ho3
        simp only
        go_wp2
        go_ret2
        rw [HF.out]
        exact RetAP.err w 15 (HB.out.trans (b3.mono HB.out.size))
      ·
        have HBS := Lib.hid (blks_size hr)
        have HYES := Lib.hid (HYESR.out hr)
        rw [writeP_yes hr] at KW
        clear hr
        go_wp2_with fail
        refine KW.out.mono ?_
        rintro e w3 ⟨v3, rfl, ho3, b3⟩
        obtain ⟨A3, c3, rfl, hc3⟩ := own_slice ho3
        simp only at ho3 ⊢
        have HEQ := Lib.hid (equalS_any A3 A k k c3 c w3.heap.size B (P.map blkP) bl w3 (by have := StrsAt.of_own ho3 rfl HBS.out; rw [HML.out] at this; exact this) (HA.out.below (HB.out.trans (b3.mono HB.out.size)) hB) (by omega) (by omega))
        have HB3 := Lib.hid b3
        rw [HML.out]
        clear ho3 b3 hc3
        have hdd : decide (P.map blkP = bl) = true ∨ decide (P.map blkP = bl) = false := Bool.eq_false_or_eq_true _
        rcases hdd with hdec | hdec
        ·
          have HF := Lib.hid (HYES.out hdec)
          rw [hdec] at HEQ
          clear hdec
          go_wp2_with fail
          refine HEQ.out.mono ?_
          rintro e w4 ⟨rfl, d4⟩
          go_wp2
          go_ret2
          rw [HF.out]
          exact RetAP.own HOWN.out HB.out (Below.drews HB3.out d4)
        ·
          have HF := Lib.hid (HNE.out hdec)
          rw [hdec] at HEQ
          clear hdec
          go_wp2_with fail
          refine HEQ.out.mono ?_
          rintro e w4 ⟨rfl, d4⟩
          go_wp2
          go_ret2
          rw [HF.out]
          exact RetAP.err w 15 (Below.drews (HB.out.trans (HB3.out.mono HB.out.size)) d4)
end Go.Proofs.Ytflijnhgonigjaa
