/-
  WALK: the reference's Head. Condition: a text of 128 bytes.
-/
import Derived.Test.YtpljifeebbeakaaLSame
import Derived.Test.YtpljifeebbeakaaLRRead
import Derived.Deep.RegionLaw
namespace Go.Proofs.Ytpljifeebbeakaa
open Go.RowKit

theorem own_ne {w : World} {base base' e e' sz sz' n n' : Nat} {v v' : Value} {xs xs' : List Value} (h : w.ownsRow base e sz v n xs) (h' : w.ownsRow base' e' sz' v' n' xs') (hne : e ≠ e') : v'.ownBlock = none ∨ v'.ownBlock ≠ v.ownBlock := by
  rcases h'.2 with ⟨rfl, _⟩ | ⟨g', cap', cur', rfl, _, hg', _⟩
  · exact Or.inl rfl
  · rcases h.2 with ⟨rfl, _⟩ | ⟨g, cap, cur, rfl, _, hg, _⟩
    · exact Or.inr (by simp [Value.ownBlock])
    · refine Or.inr fun e => ?_
      have e2 : g' = g := by simpa [Value.ownBlock] using e
      subst e2
      rw [hg] at hg'
      cases hg'
      exact hne rfl
/-- append of an int to a row of the call's own; what else lies there stays. -/
theorem pushI2_law {ops : Array Oper} {rest : List Oper} {o : Oper} {a : Act} {Q : Exit → Act → World → Prop} (hgd : o.guard = none) (s x : Operand)
    (ho : o.op = .call { callee := .builtin .append, args := #[s, x], argTypes := #[35, 35] })
    (base : Nat) (W : World) (v : Value) (l : List Int) (z : Int) (hs : a.eval s = v) (hx : a.eval x = .slice (some ⟨W.heap.size, 0, none⟩) 1 1)
    (hown : W.ownsRow base 3 1 v l.length (ints l)) (hl : l.length ≤ 1000000) (hbase : base ≤ W.heap.size)
    (h : ∀ v' w', w'.ownsRow base 3 1 v' (l ++ [z]).length (ints (l ++ [z])) → (W.alloc (.cells #[.int .i64 z] 3)).grownBy w' v.ownBlock → wpList Try.prog ops Q rest (a.put o.dst v') w') :
    wpList Try.prog ops Q (o :: rest) a (W.alloc (.cells #[.int .i64 z] 3)) := by
  obtain ⟨i0, hi, hz0, hz1, hz2⟩ := info_parts info3
  refine wpList_append_own _ hgd s x 35 ho base 3 i0 _ 1 8 Try.underlying35 hi hz0 hz1 hz2 rfl (by decide) v l.length (ints l) hs (hown.alloc _) ⟨W.heap.size, 0, none⟩ 1 1 [.int .i64 z] hx rfl
    (World.news_of_block (heap_alloc_new W _)) (one_cell_int _ z) (by unfold maxLen; omega) (by omega) (by simp; omega) ?_
  intro v' w' hown' hg _
  refine h v' w' ?_ hg
  rw [ints_snoc, List.length_append]; exact hown'
/-- append of a change to a row of the call's own, at a step of a region that draws; what else lies there stays. -/
theorem step_pushC {ops : Array Oper} {o : Oper} {a : Act} {K : Act → World → Prop} {Q : Exit → Act → World → Prop} {E : Prop} (hgd : o.guard = none) (s x : Operand)
    (ho : o.op = .call { callee := .builtin .append, args := #[s, x], argTypes := #[34, 34] })
    (base : Nat) (W : World) (v : Value) (l : List Ch) (bk : Int) (dt : ByteArray) (hs : a.eval s = v) (hx : a.eval x = .slice (some ⟨W.heap.size, 0, none⟩) 1 1)
    (hown : W.ownsRow base 58 2 v l.length (chsCells l)) (hl : l.length ≤ 100000000) (hbase : base ≤ W.heap.size)
    (h : ∀ v' w', w'.ownsRow base 58 2 v' (l ++ [(⟨bk, dt⟩ : Ch)]).length (chsCells (l ++ [⟨bk, dt⟩])) → (W.alloc (.cells #[.int .i64 bk, .string dt] 58)).grownBy w' v.ownBlock → K (a.put o.dst v') w') :
    if Region.wanted o (yielded ops a.tmps) = true then Oper.wp Try.prog o a (W.alloc (.cells #[.int .i64 bk, .string dt] 58)) K Q else E := by
  have hw : Region.wanted o (yielded ops a.tmps) = true := by simp [Region.wanted, hgd]
  rw [if_pos hw]
  obtain ⟨i0, hi, hz0, hz1, hz2⟩ := info_parts info58
  refine wp_append_own _ s x 34 ho base 58 i0 _ 2 24 Try.underlying34 hi hz0 hz1 hz2 rfl (by decide) v l.length (chsCells l) hs (hown.alloc _) ⟨W.heap.size, 0, none⟩ 1 1 (chCells ⟨bk, dt⟩) hx rfl
    (World.news_of_block (heap_alloc_new W _)) (one_ch ⟨bk, dt⟩) (by unfold maxLen; omega) (by omega) (by simp; omega) ?_
  intro v' w' hown' hg _
  refine h v' w' ?_ hg
  rw [chsCells_snoc, List.length_append]; exact hown'

def z128 : ByteArray := Sl.wholeS ⟨#[]⟩
def chL (bl : List Int) : List Ch := bl.map fun i => ⟨i, z128⟩
/-- the answer of the reference's Head. -/
def RetHR (w : World) (s : ByteArray) (N : Nat) (e : Ending) (w' : World) : Prop :=
  ∃ A n c, e = .returned (.tuple #[.slice A n c, .bool (hdOkR s N)]) ∧ Below w.heap.size w w' ∧ (hdOkR s N = true → n ≤ c ∧ IntsAt w' w'.heap.size A n (hdL s))
theorem byte0 {s : ByteArray} (h : 0 < s.size) : ((s[0]'h).toNat : Int) = (cntH s : Int) := by
  have h1 := bytesOf_at s 0 h
  rw [← h1, ← (cnt_nat s).1]
  show _ = decF (bytesOf s) 0 1
  simp [decF, List.getD]

theorem read_pair {s : ByteArray} (hs : s.size = 128) {k : Nat} (hk : k < cntH s) (h40 : cntH s ≤ 40) : readR [2] (bytesOf (s.extract (1 + 2 * k) 128)) = ([(hdL s).getD k 0], 0) := by
  have hsz : (s.extract (1 + 2 * k) 128).size = 127 - 2 * k := by rw [ByteArray.size_extract]; omega
  rw [readR_ok (by decide) (by rw [bytesOf_len, hsz]; simp [sumTo, List.getD]; omega)]
  show (readTo [2] _ 1, (0 : Int)) = _
  have e : readTo [2] (bytesOf (s.extract (1 + 2 * k) 128)) 1 = [decF (bytesOf (s.extract (1 + 2 * k) 128)) 0 2] := by simp [readTo, sumTo, List.getD]
  rw [e, hdL_get s hk]
  congr 2
  refine decF_congr _ _ 0 (1 + 2 * k) 2 fun i hi => ?_
  rw [bytesOf_at _ (0 + i) (by omega), bytesOf_at s (1 + 2 * k + i) (by omega)]
  congr 2
  rw [ByteArray.getElem_extract]
  congr 1; omega
theorem take_getD {l : List Int} {k : Nat} (h : k < l.length) : l.take (k + 1) = l.take k ++ [l.getD k 0] := by
  rw [List.take_succ_eq_append_getElem h]; simp [List.getD, h]
theorem chL_snoc (l : List Int) (z : Int) : chL (l ++ [z]) = chL l ++ [⟨z, z128⟩] := by simp [chL]
theorem chL_len (l : List Int) : (chL l).length = l.length := by simp [chL]
theorem z128_size : z128.size = 128 := size_padS _ _ (by rw [ByteArray.size_extract]; show min (min 0 128) 0 - 0 ≤ 128; omega)
theorem chL_bks (l : List Int) : bks (chL l) = l := by
  unfold bks chL
  rw [List.map_map]
  exact List.map_id' l
theorem chL_ok {l : List Int} (N : Nat) : okL N (chL l) = chB N l := by
  have hsz : ∀ k, k < (chL l).length → ((chL l).getD k Ch.z).dt.size = 128 := fun k hk => by
    rw [chL_len] at hk
    simp [chL, List.getD, hk, z128_size]
  cases hc : chB N l with
  | true => exact okL_of (by rw [chL_bks]; exact hc) hsz
  | false =>
    cases ho : okL N (chL l) with
    | false => rfl
    | true =>
      have := okL_ch ho
      rw [chL_bks, hc] at this
      cases this
theorem rightC_chL {l : List Int} {N : Nat} (h : l.length ≤ 40) : (rightC (chL l) N == 0) = chB N l := by
  have h1 : ¬ 40 < (chL l).length := by rw [chL_len]; omega
  cases hc : chB N l with
  | true => rw [rightC_ok h1 (by rw [chL_ok, hc])]; rfl
  | false => rw [rightC_no h1 (by rw [chL_ok, hc])]; rfl
theorem low_ne {w : World} {base n sz : Nat} {e : TypeId} {v : Value} {xs : List Value} (h : w.ownsRow base e sz v n xs) {b : Nat} (hb : w.heap.size ≤ b) : some b ≠ v.ownBlock := fun e => by
  have := (h.lt b e.symm).2
  omega
theorem whole_z (v : World) : Calls Try.prog 22 #[.string ⟨#[]⟩] v fun e w' => e = .returned (.string z128) ∧ Below v.heap.size v w' := Sl.whole_any ⟨#[]⟩ v (by decide)
theorem drew_own {w : World} {base n sz : Nat} {e : TypeId} {v : Value} {xs : List Value} (h : w.ownsRow base e sz v n xs) : w.drew.ownsRow base e sz v n xs := h
theorem two_row (w : World) : IntsAt (w.alloc (.cells #[.int .i64 2] 3)) (w.alloc (.cells #[.int .i64 2] 3)).heap.size (some ⟨w.heap.size, 0, none⟩) 1 [2] :=
  (IntRow.new w [2]).ints (by decide) (IntRow.new w [2]).lt

set_option maxRecDepth 100000 in
set_option maxHeartbeats 4000000 in
theorem rhead_any (s : ByteArray) (N : Nat) (w : World) (hs : s.size = 128) :
    Calls Try.prog 36 #[.string s, .int .i64 N] w fun e w' => RetHR w s N e w' := by
  have hc := (cnt_nat s).2
  have h128 : ((s.size : Int) == 128) = true := by rw [hs]; rfl
  have h0s : 0 < s.size := by omega
  have hx0 := byte0 h0s
  by_cases h40 : cntH s ≤ 40
  · have hg : decide ((40 : Int) < (cntH s : Int)) = false := by simp; omega
    have HRP := Lib.hid (fun k (hk : k < cntH s) => read_pair hs hk h40)
    have HLH := Lib.hid (hdL_len s)
    have HTK : Hid (∀ k, k < cntH s → (hdL s).take (k + 1) = (hdL s).take k ++ [(hdL s).getD k 0]) := fun k hk => take_getD (by rw [hdL_len]; exact hk)
    have HBD : Hid (∀ k, k < cntH s → 0 ≤ (hdL s).getD k 0 ∧ (hdL s).getD k 0 ≤ 65535) := fun k hk => by
      have hk' : k < (hdL s).length := by rw [hdL_len]; exact hk
      have e : (hdL s).getD k 0 = (hdL s)[k] := by simp [List.getD, hk']
      rw [e]; exact hdL_bd s _ (List.getElem_mem hk')
    have HTL : Hid (∀ k, k ≤ cntH s → ((hdL s).take k).length = k) := fun k hk => by rw [List.length_take, hdL_len]; omega
    have HSS := Lib.hid hs
    obtain ⟨m, hm⟩ : ∃ m, m = cntH s := ⟨_, rfl⟩
    have HM := Lib.hid hm
    rw [← hm] at hg HRP HLH HTK HBD HTL hx0 h40
    clear hc hm
    go_enter Try.func36, Try.ntmps36
    go_wp2
    go_loopw [6, 7, 8, 9, 10] (fun v u j _ _ wr => ∃ k : Nat, k ≤ m ∧ j = .int .i64 (k : Int) ∧ wr.ownsRow w.heap.size 3 1 v ((hdL s).take k).length (ints ((hdL s).take k)) ∧ wr.ownsRow w.heap.size 58 2 u (chL ((hdL s).take k)).length (chsCells (chL ((hdL s).take k))) ∧ Below w.heap.size w wr) (fun _ _ j _ _ _ => m - (intOf j).toNat)
    case atStart => exact ⟨0, by omega, rfl, World.ownsRow_nil _ _ _ _, World.ownsRow_nil _ _ _ _, Below.refl _ _⟩
    case round =>
      obtain ⟨k, hk, rfl, hv, hu, hb⟩ := hrel
      have HV := Lib.hid hv
      have HU := Lib.hid hu
      have HB := Lib.hid hb
      by_cases h1 : k < m
      · have hlt : (k : Int) < (m : Int) := by omega
        have x0 : (0 : Int) ≤ (k : Int) := by omega
        have HTKk := Lib.hid (HTK.out k h1)
        have HTLk := Lib.hid (HTL.out k hk)
        have hbd := HBD.out k h1
        have HR := Lib.hid (rread_new (some ⟨wr.heap.size, 0, none⟩) 1 1 _ [2] (s.extract (1 + 2 * k) 128) (wr.alloc (.cells #[.int .i64 2] 3)) (two_row wr) (Nat.le_refl _) (by omega) (by rw [ByteArray.size_extract]; omega))
        rw [HRP.out k h1] at HR
        generalize (hdL s).getD k 0 = z at *
        clear hv hu hb HTK HBD HTL
        generalize (hdL s).take k = tk at *
        go_wp2_with fail
        refine HR.out.mono ?_
        rintro e w5 ⟨A5, n5, c5, rfl, hn5, hfr, h5, b5⟩
        have hn1 : n5 = 1 := h5.len.symm
        subst hn1
        obtain ⟨b, o, rfl, hbl, hcell⟩ := h5.at_ (k := 0) (by omega)
        have c5c : w5.cell? ⟨b, o, none⟩ = some (.int .i64 z) := hcell
        have hbW := hfr b o rfl
        have hb0 : wr.heap.size ≤ b := by simp at hbW; omega
        have hx1 : wr.heap.size ≤ (wr.alloc (.cells #[.int .i64 2] 3)).heap.size := by simp
        have HV5 := Lib.hid (own_below (HV.out.alloc (.cells #[.int .i64 2] 3)) b5 (Nat.le_refl _))
        have HU5 := Lib.hid (own_below (HU.out.alloc (.cells #[.int .i64 2] 3)) b5 (Nat.le_refl _))
        have HB5 := Lib.hid ((HB.out.alloc HB.out.size (.cells #[.int .i64 2] 3)).trans (b5.mono (Nat.le_trans HB.out.size hx1)))
        have hne := low_ne HV.out hb0
        have hneu := low_ne HU.out hb0
        have HNE := Lib.hid hne
        clear hfr h5 hcell b5 hbW HR hx1 hne
        go_wp2_with (at_builtin; refine pushI2_law rfl (.tmp 38) (.tmp 42) rfl w.heap.size w5 _ (tk) z rfl rfl HV5.out (by rw [HTLk.out]; omega) HB5.out.size ?_)
        intro v6 w6 ho6 hg6
        have HV6 := Lib.hid ho6
        have HU6 := Lib.hid ((HU5.out.alloc (.cells #[.int .i64 z] 3)).kept hg6 (own_ne (HV5.out.alloc (.cells #[.int .i64 z] 3)) (HU5.out.alloc (.cells #[.int .i64 z] 3)) (by decide)))
        have HB6 := Lib.hid ((HB5.out.alloc HB5.out.size (.cells #[.int .i64 z] 3)).grown hg6 (Nat.le_trans HB5.out.size (by simp)) (fun q hq => (HV5.out.lt q hq).1))
        have c6a : (w5.alloc (.cells #[.int .i64 z] 3)).cell? ⟨b, o, none⟩ = some (.int .i64 z) := bcell ((Below.refl w5.heap.size w5).alloc (Nat.le_refl _) _) c5c hbl
        have c6 : w6.cell? ⟨b, o, none⟩ = some (.int .i64 z) := hg6.cell c6a HNE.out
        have c6d : w6.drew.cell? ⟨b, o, none⟩ = some (.int .i64 z) := c6
        have hbl6 : b < w6.heap.size := Nat.lt_of_lt_of_le hbl (Nat.le_trans (by simp) hg6.size)
        have HBL6 := Lib.hid hbl6
        have HU6d := Lib.hid (drew_own HU6.out)
        have HV6d := Lib.hid (drew_own HV6.out)
        have HB6d : Hid (Below w.heap.size w w6.drew) := ⟨HB6.out.os, HB6.out.tape, HB6.out.output, HB6.out.size, HB6.out.block⟩
        have HCL : Hid ((chL (tk)).length ≤ 1000) := by show _ ≤ _; rw [chL_len, HTLk.out]; omega
        have HEQ : Hid (chL (tk) ++ [⟨z, z128⟩] = chL (tk ++ [z])) := (chL_snoc _ _).symm
        clear ho6 hg6 c5c c6a hbl hbl6 hneu
        generalize chL (tk) = cl at *
        go_wp2_with fail
        go_region_law (first
          | (refine step_pushC rfl (.tmp 44) (.tmp 50) rfl w.heap.size w7 _ cl z z128 (by simp [Act.eval]) (by simp [Act.eval]) HU7.out (by have := HCL.out; omega) HB7.out.size ?_
             intro u8 w8 ho8 hg8)
          | (go_simp; go_at_call 22; refine (whole_z _).mono ?_
             rintro e w7 ⟨rfl, b7⟩
             have c7 := bcell b7 c6d HBL6.out
             have HU7 := Lib.hid (own_below HU6d.out b7 (Nat.le_refl _))
             have HV7 := Lib.hid (own_below HV6d.out b7 (Nat.le_refl _))
             have HB7 := Lib.hid (HB6d.out.trans (b7.mono HB6d.out.size))))
        all_goals
          have HV8 := Lib.hid ((HV7.out.alloc (.cells #[.int .i64 z, .string z128] 58)).kept hg8 (own_ne (HU7.out.alloc (.cells #[.int .i64 z, .string z128] 58)) (HV7.out.alloc (.cells #[.int .i64 z, .string z128] 58)) (by decide)))
          have HB8 := Lib.hid ((HB7.out.alloc HB7.out.size (.cells #[.int .i64 z, .string z128] 58)).grown hg8 (Nat.le_trans HB7.out.size (by simp)) (fun q hq => (HU7.out.lt q hq).1))
          have HU8 := Lib.hid ho8
          have e9 : tk.length + 1 = ((hdL s).take (k + 1)).length := by rw [HTKk.out]; simp
          rw [HEQ.out, ← HTKk.out] at HU8
          rw [e9, ← HTKk.out] at HV8
          clear e9
          clear ho8 hg8
          go_wp2
          go_roundw
          case rel => exact ⟨k + 1, h1, by push_cast; rfl, HV8.out, HU8.out, HB8.out⟩
          case measure => simp only [intOf]; omega
      · have hnlt : ¬ (k : Int) < (m : Int) := by omega
        have e : k = m := by omega
        have e2 : (hdL s).take k = hdL s := by rw [e, ← HLH.out, List.take_length]
        rw [e2] at hv hu
        rw [HLH.out] at hv
        obtain ⟨A, cap, rfl, hcap⟩ := own_sliceI hv
        have hv2 : wr.ownsRow w.heap.size 3 1 (.slice A (hdL s).length cap) (hdL s).length (ints (hdL s)) := by rw [HLH.out]; exact hv
        have HIV := IntsAt.of_own hv2 rfl (hd_fit s)
        rw [HLH.out] at HIV
        have HIV2 := Lib.hid HIV
        obtain ⟨AU, capU, rfl, hcapU⟩ := own_slice hu
        have hfitC : ∀ c ∈ chL (hdL s), c.fit := fun c hc => by
          obtain ⟨z, hz, rfl⟩ := List.mem_map.1 hc
          exact ⟨by show z128.size ≤ _; rw [z128_size]; omega, hd_fit s z hz⟩
        have HIU := ChsAt.of_own hu rfl hfitC
        have hlu : (chL (hdL s)).length = m := by rw [chL_len, HLH.out]
        rw [hlu] at HIU ⊢
        have HRR := Lib.hid (rright_any AU m capU wr.heap.size N (chL (hdL s)) wr HIU (Nat.le_refl _) (by omega))
        have HEQ := Lib.hid (rightC_chL (l := hdL s) (N := N) (by rw [HLH.out]; exact h40))
        have HTZ := Lib.hid (tailZ_t (s := s))
        rw [← HM.out] at HTZ
        have HOKR : Hid (hdOkR s N = (tailZ s && chB N (hdL s))) := by show _ = _; unfold hdOkR; rw [← HM.out, decide_eq_true h40]; rfl
        obtain ⟨W9, hW9⟩ : ∃ W9, W9 = wr := ⟨_, rfl⟩
        rw [← hW9] at HRR HIV2
        have HB9 : Hid (Below w.heap.size w W9) := by rw [hW9]; exact HB.out
        have HW9 := Lib.hid hW9
        have HSZ := Lib.hid hs
        generalize rightC (chL (hdL s)) N = rr at *
        clear hv hu hb e e2 hv2 HIV hfitC HIU hlu hW9 HTK HBD HTL HRP HV HU HB
        go_wp2
        go_loopw [11] (fun j wr2 => ∃ i : Nat, 1 + 2 * m ≤ i ∧ i ≤ 128 ∧ j = .int .i64 (i : Int) ∧ (∀ t, t < i → 1 + 2 * m ≤ t → (bytesOf s).getD t 0 = 0) ∧ wr2 = W9) (fun j _ => 128 - (intOf j).toNat)
        case atStart => exact ⟨1 + 2 * m, Nat.le_refl _, by omega, by push_cast; rfl, fun t h1 h2 => by omega, HW9.out.symm⟩
        case round =>
          obtain ⟨i, hi1, hi2, rfl, hz, rfl⟩ := hrel
          have HZ := Lib.hid hz
          by_cases h2 : i < 128
          · have hlt2 : (i : Int) < 128 := by omega
            have y0 : (0 : Int) ≤ (i : Int) := by omega
            have hxi := (bytesOf_at s i (by omega)).symm
            have HYB := Lib.hid (bytesOf_bd s i)
            have HZN : Hid ((bytesOf s).getD i 0 = 0 → ∀ t, t < i + 1 → 1 + 2 * m ≤ t → (bytesOf s).getD t 0 = 0) := fun h t h1 h2 => by
              by_cases e : t = i
              · rw [e]; exact h
              · exact HZ.out t (by omega) h2
            have HBAD : Hid (¬ (bytesOf s).getD i 0 = 0 → hdOkR s N = false) := fun h => by
              rw [HOKR.out]
              cases ht : tailZ s with
              | false => rfl
              | true => exact absurd (HTZ.out.1 ht i h2 hi1) h
            generalize (bytesOf s).getD i 0 = y at *
            clear hz
            cases gy : (y == 0) with
            | true =>
              have HZN2 := Lib.hid (HZN.out (by simpa using gy))
              go_wp2
              go_roundw
              case rel => exact ⟨i + 1, by omega, by omega, by push_cast; rfl, HZN2.out, by first | rfl | trivial⟩
              case measure => simp only [intOf]; omega
            | false =>
              have HNO := Lib.hid (HBAD.out (by simpa using gy))
              go_wp2
              go_ret2
              exact ⟨_, _, _, by rw [HNO.out]; rfl, HB9.out, fun h => by rw [HNO.out] at h; cases h⟩
          · have hnlt2 : ¬ (i : Int) < 128 := by omega
            have e : i = 128 := by omega
            have HT : Hid (tailZ s = true) := HTZ.out.2 fun t h1 h2 => HZ.out t (by omega) h2
            have HFIN : Hid (hdOkR s N = (rr == 0)) := by show _ = _; rw [HOKR.out, HT.out, HEQ.out]; rfl
            clear hz e
            go_wp2_with fail
            refine HRR.out.mono ?_
            rintro e w9 ⟨rfl, b9⟩
            have HI9 := Lib.hid ((HIV2.out.below b9 (Nat.le_refl _)).more b9.size)
            have HB10 := Lib.hid (HB9.out.trans (b9.mono HB9.out.size))
            clear b9
            go_wp2
            go_ret2
            exact ⟨_, _, _, by rw [HFIN.out]; rfl, HB10.out, fun _ => ⟨hcap, HI9.out⟩⟩
  · have hg : decide ((40 : Int) < (cntH s : Int)) = true := by simp; omega
    have HNO : Hid (hdOkR s N = false) := by show _ = _; unfold hdOkR; rw [decide_eq_false h40]; rfl
    go_enter Try.func36, Try.ntmps36
    go_wp2
    go_ret2
    exact ⟨_, _, _, by rw [HNO.out]; rfl, Below.refl _ _, fun h => by rw [HNO.out] at h; cases h⟩
end Go.Proofs.Ytpljifeebbeakaa
