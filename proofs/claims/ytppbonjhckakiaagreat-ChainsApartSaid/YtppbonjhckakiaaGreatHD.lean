import Derived.Test.YtppbonjhckakiaaGreatBY
import Derived.Test.YtppbonjhckakiaaGreatBZ
import Derived.Test.YtppbonjhckakiaaGreatGB
import Derived.Test.YtppbonjhckakiaaGreatHB
/-
  WALKS: mould's Read and ladder's Read, whose answers are rows of the call's own. Conditions: those of the walks that they follow.
-/
namespace Go.Proofs.YtppbonjhckakiaaGreat
open Go.RowKit
set_option maxRecDepth 100000 in
set_option maxHeartbeats 4000000 in
theorem read_own (A : Option Addr) (n c B : Nat) (ws : List Int) (s : ByteArray) (w : World) (hr : IntsAt w B A n ws) (hB : B ≤ w.heap.size) (hn : n ≤ 20000000000000) (hs : s.size ≤ 1000000000000000) :
    Calls Tryz.prog 102 #[.slice A n c, .string s] w fun e w' => ∃ v, e = .returned (.tuple #[v, .int .i64 (readR ws (bytesOf s)).2]) ∧ w'.ownsRow w.heap.size 3 1 v (readR ws (bytesOf s)).1.length ((readR ws (bytesOf s)).1.map (.int .i64)) ∧ (∀ z ∈ (readR ws (bytesOf s)).1, La.Fit z) ∧ Below w.heap.size w w' := by
  by_cases hok : okTo ws ws.length = true
  · have hsz := sizeS_good ws hok
    have hsb := sumTo_bd ws ws.length hok
    rw [hr.len] at hsb
    have hsn : decide (sizeS ws < 0) = false := by rw [hsz]; simp; rw [hr.len]; omega
    by_cases hsh : (s.size : Int) < sumTo ws ws.length
    · have HW := Lib.hid (readR_short (bs := bytesOf s) hok (by rw [bytesOf_len]; exact hsh))
      have hlt : decide ((s.size : Int) < sizeS ws) = true := by rw [hsz]; simpa using hsh
      clear hok hsz hsb hsh
      go_enter Tryz.func102, Tryz.ntmps102
      go_wp2_with (go_at_call 142; refine (size_any A n c B ws w hr (by omega)).mono ?_; rintro e w' ⟨rfl, rfl⟩)
      go_ret2
      exact ⟨.slice none 0 0, by rw [HW.out]; rfl, by rw [HW.out]; exact World.ownsRow_nil _ _ _ _, by rw [HW.out]; simp, Below.refl _ _⟩
    · obtain ⟨i0, hi, hz0, hz1, hz2⟩ := info_parts Tryz.info3
      have HW := Lib.hid (readR_ok (bs := bytesOf s) hok (by rw [bytesOf_len]; exact hsh))
      have hlt : decide ((s.size : Int) < sizeS ws) = false := by rw [hsz]; simpa using hsh
      have HOK := Lib.hid hok
      have HL := Lib.hid hr.len
      have HSH := Lib.hid hsh
      clear hok hsz hsb hsh
      go_enter Tryz.func102, Tryz.ntmps102
      go_wp2_with (first
        | (go_at_call 142; refine (size_any A n c B ws w hr (by omega)).mono ?_; rintro e w' ⟨rfl, rfl⟩)
        | (at_make; refine wpList_make_full _ rfl _ _ 27 rfl w.heap.size 3 i0 (.int .i64 0) 1 Tryz.underlying27 hi hz0 hz1 _ _ _ _ n rfl rfl rfl rfl (by rw [hz2]; omega) (by unfold maxLen; omega) (Nat.le_refl _) ?_; intro w1 hown1 hgrow1))
      have hb1 : Below w.heap.size w w1 := (Below.refl _ _).grown hgrow1 (Nat.le_refl _) (by intro k hk; cases hk)
      clear hgrow1 hsn hlt
      have hown2 : w1.ownsRow w.heap.size 3 1 (.slice (some ⟨w.heap.size, 0, none⟩) n n) n ((List.replicate n (0 : Int)).map (.int .i64)) := by
        rw [Nat.mul_one] at hown1
        rw [List.map_replicate]
        have e : (madeCells (Value.int .i64 0).cells n).toList = List.replicate n (Value.int .i64 0) := toList_madeCells_one _ _
        rw [e] at hown1
        exact hown1
      clear hown1
      go_loopw [8, 24] (fun at_ i wr => ∃ k : Nat, ∃ zs : List Int, k ≤ n ∧ i = .int .i64 k ∧ at_ = .int .i64 (sumTo ws k) ∧ zs.take k = readTo ws (bytesOf s) k ∧ (∀ z ∈ zs, 0 ≤ z ∧ z < 4294967296) ∧ wr.ownsRow w.heap.size 3 1 (.slice (some ⟨w.heap.size, 0, none⟩) n n) n (zs.map (.int .i64)) ∧ Below w.heap.size w wr) (fun _ i _ => n - (intOf i).toNat)
      case atStart => exact ⟨0, List.replicate n 0, Nat.zero_le _, rfl, rfl, by simp [readTo], by intro z hz; have := List.eq_of_mem_replicate hz; omega, hown2, hb1⟩
      case round =>
        obtain ⟨k, zs, hk, rfl, rfl, htk, hzb, hown, hbel⟩ := hrel
        clear hown2 hb1
        have HT := Lib.hid htk
        have HZ := Lib.hid hzb
        clear htk hzb
        by_cases hkn : k < n
        · have hrk := hr.below hbel hB
          obtain ⟨b, o, rfl, hb, hc⟩ := hrk.at_ hkn
          have hwk := okTo_at ws (k := k) (n := ws.length) (by rw [HL.out]; exact hkn) HOK.out
          have hok1 := okTo_mono ws (k + 1) ws.length (by rw [HL.out]; exact hkn) HOK.out
          have hs1 := sumTo_bd ws k (okTo_mono ws k ws.length (by rw [HL.out]; exact hk) HOK.out)
          have hs2 := sumTo_mono ws (k + 1) ws.length (by rw [HL.out]; exact hkn) HOK.out
          have hs3 : sumTo ws (k + 1) ≤ s.size := by have := HSH.out; omega
          have HS : Hid (sumTo ws (k + 1) = sumTo ws k + ws.getD k 0) := by show _ = _; rfl
          have HR : Hid (readTo ws (bytesOf s) (k + 1) = readTo ws (bytesOf s) k ++ [decF (bytesOf s) (sumTo ws k).toNat (ws.getD k 0).toNat]) := by show _ = _; rfl
          have hz := wOk_d hwk
          have hz1r : 0 ≤ ws.getD k 0 ∧ ws.getD k 0 ≤ 4 := by omega
          rw [HS.out] at hs3
          clear hwk hok1 hz hrk hs2
          generalize ws.getD k 0 = z at *
          generalize sumTo ws k = a at *
          obtain ⟨zn, rfl⟩ := Int.eq_ofNat_of_zero_le hz1r.1
          obtain ⟨an, rfl⟩ := Int.eq_ofNat_of_zero_le hs1.1
          have hcv := hown.cellAt k (by omega)
          have hzk : k < zs.length := by have := hown.1; simp at this; omega
          simp only [List.getElem?_map, List.getElem?_eq_getElem hzk, Option.map_some] at hcv
          have hfz := hown.frozenAt k
          have HF : Hid (decF (bytesOf (s.extract an (an + zn))) 0 (s.extract an (an + zn)).size = decF (bytesOf s) an zn) := decF_extract s an zn (by omega)
          have hfs : (s.extract an (an + zn)).size ≤ 4 := by rw [ByteArray.size_extract]; omega
          have HFS := Lib.hid hfs
          have hdb := decF_bd (bytesOf s) (bytesOf_bd s) zn an
          have hp4 := pow_le4 zn (by omega)
          rw [Int.toNat_natCast, Int.toNat_natCast] at HR
          clear hfs
          go_wp2_with fail
          refine (field_any _ _ HFS.out).mono ?_
          rintro e w' ⟨rfl, rfl⟩
          rw [HF.out]
          generalize decF (bytesOf s) an zn = v at *
          have hv : 0 ≤ v ∧ v < 4294967296 := by omega
          clear hdb hp4
          obtain ⟨hst, hgr⟩ := hown.stored k (.int .i64 v)
          have hb2 : Below w.heap.size w (wr.setCell ⟨w.heap.size, k, none⟩ (.int .i64 v)) := hbel.setCell (Nat.le_refl _) _
          have HST := Lib.hid hst
          clear hst hgr
          go_wp2
          go_roundw
          case rel =>
            refine ⟨k + 1, zs.set k v, by omega, by go_num, by rw [HS.out], ?_, ?_, ?_, hb2⟩
            · rw [HR.out, ← HT.out]; exact take_set_snoc zs k v hzk
            · intro z hz
              rcases List.mem_or_eq_of_mem_set hz with h | h
              · exact HZ.out z h
              · omega
            · rw [List.map_set]; exact HST.out
          case measure => simp [intOf]; omega
        · have hke : k = n := by omega
          subst hke
          have hfin : wr.ownsRow w.heap.size 3 1 (.slice (some ⟨w.heap.size, 0, none⟩) k k) (readTo ws (bytesOf s) k).length ((readTo ws (bytesOf s) k).map (.int .i64)) ∧ ∀ z ∈ readTo ws (bytesOf s) k, La.Fit z := by
            have hzl : zs.length = k := by have := hown.1; simpa using this
            have e : readTo ws (bytesOf s) k = zs := by rw [← HT.out, List.take_of_length_le (by omega)]
            rw [e, hzl]
            exact ⟨hown, fun z hz => by have := HZ.out z hz; unfold La.Fit; omega⟩
          have HFIN := Lib.hid hfin
          clear hfin
          go_wp2
          go_ret2
          exact ⟨.slice (some ⟨w.heap.size, 0, none⟩) k k, by rw [HW.out]; rfl, by rw [HW.out, HL.out]; exact HFIN.out.1, by rw [HW.out, HL.out]; exact HFIN.out.2, hbel⟩
  · have hsn : decide (sizeS ws < 0) = true := by simp only [decide_eq_true_eq]; exact (sizeS_neg ws).2 hok
    have HW := Lib.hid (readR_arg (bs := bytesOf s) hok)
    clear hok
    go_enter Tryz.func102, Tryz.ntmps102
    go_wp2_with (go_at_call 142; refine (size_any A n c B ws w hr (by omega)).mono ?_; rintro e w' ⟨rfl, rfl⟩)
    go_ret2
    exact ⟨.slice none 0 0, by rw [HW.out]; rfl, by rw [HW.out]; exact World.ownsRow_nil _ _ _ _, by rw [HW.out]; simp, Below.refl _ _⟩
end Go.Proofs.YtppbonjhckakiaaGreat
namespace Go.Proofs.YtppbonjhckakiaaGreat.La
open Go.RowKit
theorem own_less {w : World} {base base' n sz : Nat} {e : TypeId} {v : Value} {xs : List Value} (h : w.ownsRow base e sz v n xs) (hb : base' ≤ base) : w.ownsRow base' e sz v n xs := by
  refine ⟨h.1, ?_⟩
  rcases h.2 with h | ⟨g, cap, cur, e, hgb, r⟩
  · exact .inl h
  · exact .inr ⟨g, cap, cur, e, by omega, r⟩
theorem own_below {w w' : World} {base C n sz : Nat} {e : TypeId} {v : Value} {xs : List Value} (h : w.ownsRow base e sz v n xs) (hb : Below C w w') (hC : w.heap.size ≤ C) : w'.ownsRow base e sz v n xs := by
  refine h.kept (row := none) ⟨hb.os, hb.tape, hb.output, hb.size, fun k hk _ => hb.block k (by omega)⟩ ?_
  rcases h.2 with ⟨rfl, _⟩ | ⟨g, cap, cur, rfl, _⟩
  · exact .inl rfl
  · right; simp [Value.ownBlock]
/-- the answer of Read, a row of the call's own. -/
def RetReadO (w : World) (s : ByteArray) (e : Ending) (w' : World) : Prop := ∃ v, e = .returned (.tuple #[v, .int .i64 (readL s).2]) ∧ w'.ownsRow w.heap.size 3 1 v (readL s).1.length (ints (readL s).1) ∧ (∀ z ∈ (readL s).1, Fit z) ∧ Below w.heap.size w w'
set_option maxRecDepth 100000 in
set_option maxHeartbeats 4000000 in
theorem lread_own (s : ByteArray) (w : World) (hs : s.size ≤ 140737488355328) : Calls Tryz.prog 162 #[.string s] w (RetReadO w s) := by
  have HOK := Lib.hid (@readL_ok s)
  have HBAD := Lib.hid (@readL_bad s)
  have HL8 := Lib.hid (readR_len8 (bytesOf s))
  go_enter Tryz.func162, Tryz.ntmps162
  go_wp2_with fail
  refine (layout_any w).mono ?_
  rintro e w1 ⟨g, hg, rfl, hrow, b1⟩
  have hz1 := b1.size
  rw [show w8.length = 8 from rfl]
  go_wp2_with fail
  refine (read_own (some ⟨g, 0, none⟩) 8 8 w1.heap.size w8 s w1 (hrow.ints w8_fit hrow.lt) (Nat.le_refl _) (by omega) (by omega)).mono ?_
  rintro e w2 ⟨v, rfl, hi, hft, b2⟩
  have HB2 := Lib.hid (b1.trans (b2.mono hz1))
  have HI := Lib.hid hi
  have HFT := Lib.hid hft
  have HBS := Lib.hid hz1
  obtain ⟨A, c, rfl, hnc⟩ := own_slice hi
  have hn : (readR w8 (bytesOf s)).1.length ≤ 8 := HL8.out
  clear b1 b2 hi hrow hft
  by_cases h0 : (readR w8 (bytesOf s)).2 = 0
  · rw [h0]
    generalize hrr : (readR w8 (bytesOf s)).1 = rr at *
    have HAT := Lib.hid (IntsAt.of_own (l := rr) HI.out rfl HFT.out)
    go_wp2_with fail
    refine (lwrite_any A rr.length c w2.heap.size rr w2 HAT.out (Nat.le_refl _) (by omega)).mono ?_
    rintro e w3 ⟨rfl, b3⟩
    have HI3 := Lib.hid (own_less (own_below HI.out b3 (Nat.le_refl _)) HBS.out)
    have HB3 := Lib.hid (HB2.out.trans (b3.mono HB2.out.size))
    clear b3
    by_cases h1 : (writeL rr).2 = 0
    · by_cases h2 : (writeL rr).1 = s
      · have HR : Hid (readL s = (rr, 0)) := HOK.out h0 h1 h2
        have HFIN : Hid (RetReadO w s (.returned (.tuple #[.slice A rr.length c, .int .i64 0])) w3) := by
          unfold RetReadO
          show ∃ _, _
          rw [HR.out]
          exact ⟨_, rfl, HI3.out, HFT.out, HB3.out⟩
        rw [h1, h2]
        clear h0 h1 h2 HOK HBAD hrr
        go_wp2
        go_ret2
        exact HFIN.out
      · have HR : Hid (readL s = ([], 15)) := HBAD.out (fun h => h2 h.2.2)
        have HFIN : Hid (RetReadO w s (.returned (.tuple #[.slice none 0 0, .int .i64 15])) w3) := by
          unfold RetReadO
          show ∃ _, _
          rw [HR.out]
          exact ⟨_, rfl, World.ownsRow_nil _ _ _ _, by simp, HB3.out⟩
        have h2' : ((writeL rr).1.toList == s.toList) = false := str_ne h2
        rw [h1]
        clear h0 h1 HOK HBAD hrr
        generalize (writeL rr).1 = tt at *
        go_wp2
        go_ret2
        exact HFIN.out
    · have HR : Hid (readL s = ([], 15)) := HBAD.out (fun h => h1 h.2.1)
      have HFIN : Hid (RetReadO w s (.returned (.tuple #[.slice none 0 0, .int .i64 15])) w3) := by
        unfold RetReadO
        show ∃ _, _
        rw [HR.out]
        exact ⟨_, rfl, World.ownsRow_nil _ _ _ _, by simp, HB3.out⟩
      have h1' : ((writeL rr).2 != 0) = true := bne_iff_ne.2 h1
      clear h0 HOK HBAD hrr
      generalize (writeL rr).1 = tt at *
      generalize (writeL rr).2 = er at *
      go_wp2
      go_ret2
      exact HFIN.out
  · have HR : Hid (readL s = ([], 15)) := HBAD.out (fun h => h0 h.1)
    have HFIN : Hid (RetReadO w s (.returned (.tuple #[.slice none 0 0, .int .i64 15])) w2) := by
      unfold RetReadO
      show ∃ _, _
      rw [HR.out]
      exact ⟨_, rfl, World.ownsRow_nil _ _ _ _, by simp, HB2.out⟩
    have h0' : ((readR w8 (bytesOf s)).2 != 0) = true := bne_iff_ne.2 h0
    clear HOK HBAD
    generalize (readR w8 (bytesOf s)).2 = er at *
    go_wp2
    go_ret2
    exact HFIN.out

end Go.Proofs.YtppbonjhckakiaaGreat.La

/-
  WALKS: readList and rungs, on a deal with a crown: the lists that a card's pointers name. Condition: a deal on a calm slab.
-/
set_option linter.unusedVariables false
set_option linter.unusedSimpArgs false
set_option maxRecDepth 100000
set_option maxHeartbeats 4000000
namespace Go.Proofs.YtppbonjhckakiaaGreat.Dl
open Go.RowKit
open Mk
open Sl (Turns)
open Kr (crv rightK kf kb kc KBox cells3 I64 inB)

/-- the answer of readList. -/
def RetRl (w : World) (V : List ByteArray) (b i : Int) (e : Ending) (w' : World) : Prop :=
  ∃ v, e = .returned (.tuple #[v, .int .i64 (if rlOk V b i = true then 0 else 15)]) ∧ La.OwnLst w.heap.size w' v (if rlOk V b i = true then rlV V i else none) ∧ Below w.heap.size w w'
section
variable {w0 w : World} {B d q p pd pm k c : Nat} {F : Bxs} {N : Nat} {D V : List ByteArray} {b : Nat} {m : ByteArray}
theorem Dk.sized (h : Dk w0 w B d q p pd pm k c F N D V) {i : Nat} (hi : i < N) : (V.getD i ⟨#[]⟩).size = 128 := by
  obtain ⟨v, dv⟩ := h.ex
  exact dv.whole.get (k := i) (by rw [dv.len, h.hN]; exact hi)
theorem readlist_any (h : Dk w0 w B d q p pd pm k c F N D V) (hc : Crd V b m) (f u : Int) (hk : rightK f b u = true) (i : Int) :
    Calls Tryz.prog 122 #[.pointer (some ⟨d, 0, none⟩), crv f b u, .int .i64 i] w (RetRl w V b i) := by
  have HX0 : Hid (KBox (w.alloc (.cells (cells3 f b u) 62)) w.heap.size f b u) := KBox.new _ _ _ _
  have HB0 : Hid (Below w.heap.size w (w.alloc (.cells (cells3 f b u) 62))) := (Below.refl _ _).alloc (Nat.le_refl _) _
  have HN := Lib.hid none_any
  have HOW := Lib.hid (fun W => Kr.owned_any f b u i W)
  have hbl : b ≤ N := by have := (cr_b hc.ok).2.2.2; rw [hc.cb, h.lenV] at this; omega
  unfold RetRl
  by_cases h0 : i = 0
  · subst h0
    have e1 : rlOk V b 0 = true := rfl
    rw [e1, rlV_0]
    simp only [if_pos]
    unfold crv cells3 at *
    clear h hc hk
    go_enter Tryz.func122, Tryz.ntmps122
    go_wp2_with (go_at_call 83; refine (HN.out _ _).mono ?_; rintro e w2 ⟨rfl, rfl⟩)
    go_ret2
    exact ⟨_, rfl, rfl, HB0.out⟩
  · have hz : (i == 0) = false := beq_eq_false_iff_ne.2 h0
    rw [own_pt hk h0] at HOW
    by_cases hp : 51 ≤ i ∧ i < (b : Int)
    · have ep : ptOk b i = true := ptOk_t.2 (.inr hp)
      rw [ep] at HOW
      have hha : hasB V.length i = true := hasB_t.2 (by rw [h.lenV]; omega)
      have HRD := Lib.hid (fun W (hW : Below w.heap.size w W) => dk_read (h.below hW) i)
      have e2 : rdB V i = bA V i := by unfold rdB bA; rw [if_pos hha]
      have e3 : rdE V i = 0 := by unfold rdE; rw [if_pos hha]
      rw [e2, e3] at HRD
      have hsz : (bA V i).size = 128 := h.sized (by omega)
      have HLR := Lib.hid (fun W => La.lread_own (bA V i) W (by omega))
      unfold La.RetReadO at HLR
      have HV : Hid (rlV V i = some (La.readL (bA V i)).1) := by show _ = _; unfold rlV; rw [if_neg h0]
      have HI : Hid (rlOk V b i = true ↔ ((La.readL (bA V i)).2 = 0 ∧ La.zeroB (La.readL (bA V i)).1 = false)) := by
        show _ ↔ _
        rw [rlOk_t]
        constructor
        · rintro (e | ⟨_, _, e⟩)
          · exact absurd e h0
          · exact e
        · intro e; exact .inr ⟨hp.1, hp.2, e⟩
      have HL8 := Lib.hid (La.readL_len (bA V i))
      generalize La.readL (bA V i) = rr at *
      obtain ⟨l, er⟩ := rr
      simp only at HLR HV HI HL8
      generalize bA V i = bb at *
      clear h hc hk ep e2 e3 hha hsz hbl
      unfold crv cells3 at *
      by_cases he : er = 0
      · subst he
        by_cases hzz : La.zeroB l = false
        · have e4 : rlOk V b i = true := HI.out.2 ⟨rfl, hzz⟩
          rw [e4, HV.out]
          simp only [if_pos]
          have HZZ := Lib.hid hzz
          have hne : l ≠ [] := fun e => by subst e; cases hzz
          have HNE := Lib.hid hne
          clear e4 HI hzz hne
          go_enter Tryz.func122, Tryz.ntmps122
          go_wp2_with (first
            | (go_at_call 83; refine (HN.out _ _).mono ?_; rintro e w2 ⟨rfl, rfl⟩; obtain ⟨y0, y1, y2⟩ := HX0.out.row)
            | (go_at_call 47; refine (HOW.out _).mono ?_; rintro e w3 ⟨rfl, b3⟩; have HB3 := Lib.hid (HB0.out.trans (b3.mono HB0.out.size)); clear b3 y0 y1 y2)
            | (go_at_call 63; refine (HRD.out _ HB3.out).mono ?_; rintro e w4 ⟨rfl, b4⟩; have HB4 := Lib.hid (HB3.out.trans (b4.mono HB3.out.size)); clear b4)
            | (go_at_call 162; refine (HLR.out _).mono ?_; rintro e w5 ⟨v, rfl, ow, fi, b5⟩; have HB5 := Lib.hid (HB4.out.trans (b5.mono HB4.out.size)); obtain ⟨A, c', rfl, hcc⟩ := La.own_slice ow; have HOWN := Lib.hid (La.own_less ow HB4.out.size); have HFI := Lib.hid fi; have HCS := Lib.hid (csome_any A l.length c' w5.heap.size l w5 (La.IntsAt.of_own ow rfl fi) (by have := HL8.out; omega)); rw [HZZ.out] at HCS; clear ow b5 fi)
            | (go_at_call 163; refine HCS.out.mono ?_; rintro e w6 ⟨rfl, rfl⟩))
          go_ret2
          exact ⟨_, rfl, ⟨HOWN.out, HNE.out, HFI.out⟩, HB5.out⟩
        · have hz1 : La.zeroB l = true := by simpa using hzz
          have e4 : rlOk V b i = false := by
            cases e : rlOk V b i with
            | false => rfl
            | true => exact absurd (HI.out.1 e).2 hzz
          rw [e4]
          simp only [Bool.false_eq_true, if_false]
          have HZZ := Lib.hid hz1
          clear e4 HI hzz hz1
          go_enter Tryz.func122, Tryz.ntmps122
          go_wp2_with (first
            | (go_at_call 83; refine (HN.out _ _).mono ?_; rintro e w2 ⟨rfl, rfl⟩; obtain ⟨y0, y1, y2⟩ := HX0.out.row)
            | (go_at_call 47; refine (HOW.out _).mono ?_; rintro e w3 ⟨rfl, b3⟩; have HB3 := Lib.hid (HB0.out.trans (b3.mono HB0.out.size)); clear b3 y0 y1 y2)
            | (go_at_call 63; refine (HRD.out _ HB3.out).mono ?_; rintro e w4 ⟨rfl, b4⟩; have HB4 := Lib.hid (HB3.out.trans (b4.mono HB3.out.size)); clear b4)
            | (go_at_call 162; refine (HLR.out _).mono ?_; rintro e w5 ⟨v, rfl, ow, fi, b5⟩; have HB5 := Lib.hid (HB4.out.trans (b5.mono HB4.out.size)); obtain ⟨A, c', rfl, hcc⟩ := La.own_slice ow; have HCS := Lib.hid (csome_any A l.length c' w5.heap.size l w5 (La.IntsAt.of_own ow rfl fi) (by have := HL8.out; omega)); rw [HZZ.out] at HCS; clear ow b5 fi)
            | (go_at_call 163; refine HCS.out.mono ?_; rintro e w6 ⟨rfl, rfl⟩))
          go_ret2
          exact ⟨_, rfl, rfl, HB5.out⟩
      · have e4 : rlOk V b i = false := by
          cases e : rlOk V b i with
          | false => rfl
          | true => exact absurd (HI.out.1 e).1 he
        rw [e4]
        simp only [Bool.false_eq_true, if_false]
        have he2 : (er != 0) = true := bne_iff_ne.2 he
        clear e4 HI he
        go_enter Tryz.func122, Tryz.ntmps122
        go_wp2_with (first
          | (go_at_call 83; refine (HN.out _ _).mono ?_; rintro e w2 ⟨rfl, rfl⟩; obtain ⟨y0, y1, y2⟩ := HX0.out.row)
          | (go_at_call 47; refine (HOW.out _).mono ?_; rintro e w3 ⟨rfl, b3⟩; have HB3 := Lib.hid (HB0.out.trans (b3.mono HB0.out.size)); clear b3 y0 y1 y2)
          | (go_at_call 63; refine (HRD.out _ HB3.out).mono ?_; rintro e w4 ⟨rfl, b4⟩; have HB4 := Lib.hid (HB3.out.trans (b4.mono HB3.out.size)); clear b4)
          | (go_at_call 162; refine (HLR.out _).mono ?_; rintro e w5 ⟨v, rfl, ow, fi, b5⟩; have HB5 := Lib.hid (HB4.out.trans (b5.mono HB4.out.size)); obtain ⟨A, c', rfl, hcc⟩ := La.own_slice ow; clear ow b5 fi))
        go_ret2
        exact ⟨_, rfl, rfl, HB5.out⟩
    · have ep : ptOk b i = false := by
        cases e : ptOk b i with
        | false => rfl
        | true => rcases ptOk_t.1 e with e | e; exact absurd e h0; exact absurd e hp
      have e4 : rlOk V b i = false := by
        cases e : rlOk V b i with
        | false => rfl
        | true => rcases rlOk_t.1 e with e | ⟨e1, e2, _⟩; exact absurd e h0; exact absurd ⟨e1, e2⟩ hp
      rw [ep] at HOW
      rw [e4]
      simp only [Bool.false_eq_true, if_false]
      unfold crv cells3 at *
      clear h hc hk ep e4 hp hbl
      go_enter Tryz.func122, Tryz.ntmps122
      go_wp2_with (first
        | (go_at_call 83; refine (HN.out _ _).mono ?_; rintro e w2 ⟨rfl, rfl⟩; obtain ⟨y0, y1, y2⟩ := HX0.out.row)
        | (go_at_call 47; refine (HOW.out _).mono ?_; rintro e w3 ⟨rfl, b3⟩; have HB3 := Lib.hid (HB0.out.trans (b3.mono HB0.out.size)); clear b3 y0 y1 y2))
      go_ret2
      exact ⟨_, rfl, rfl, HB3.out⟩
end
end Go.Proofs.YtppbonjhckakiaaGreat.Dl
