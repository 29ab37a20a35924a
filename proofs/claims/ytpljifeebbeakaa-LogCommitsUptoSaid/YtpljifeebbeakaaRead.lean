/-
  WALKS: mould.field and mould.Read return what decF and readR say, and write nothing that was there. Conditions: the slice has at most 20000000000000 elements, the string at most 1000000000000000 bytes (field: at most 4).
-/
import Derived.Test.YtpljifeebbeakaaWrite
import Derived.Test.YtpljifeebbeakaaPlainB
import Derived.Laws.BitsAllLaws
namespace Go.Proofs.Ytpljifeebbeakaa
open Go.RowKit

theorem i64_or_byte (v : Int) (b : UInt8) (h0 : 0 ≤ v) (h1 : v < 16777216) : bits .or .i64 (v * 256) (wrap64 (b.toNat : Int)) = v * 256 + (b.toNat : Int) := by
  obtain ⟨n, rfl⟩ := Int.eq_ofNat_of_zero_le h0
  have hb : b.toNat < 256 := b.toNat_lt
  generalize b.toNat = m at *
  have hw : wrap64 (m : Int) = m := by unfold wrap64; omega
  rw [hw]
  have e1 : ((n : Int) * 256) = ((n * 256 : Nat) : Int) := by omega
  have ho : n * 256 ||| m = n * 256 + m := by
    have := Nat.two_pow_add_eq_or_of_lt (i := 8) (b := m) (by omega) n
    rw [show (2 : Nat) ^ 8 = 256 from rfl, Nat.mul_comm 256 n] at this
    exact this.symm
  rw [e1]
  show IntKind.i64.wrap ((BitVec.ofInt 64 ((n * 256 : Nat) : Int) ||| BitVec.ofInt 64 (m : Int)).toNat : Int) = _
  rw [BitVec.toNat_or, ofInt_u64 (n * 256) (by omega), ofInt_u64 m (by omega), ho, IntWalk.i64_in _ (by omega)]
  omega

set_option maxHeartbeats 1000000 in
theorem field_any (s : ByteArray) (w : World) (hs : s.size ≤ 4) :
    Calls Try.prog 79 #[.string s] w fun e w' => e = .returned (.int .i64 (decF (bytesOf s) 0 s.size)) ∧ w = w' := by
  go_enter Try.func79, Try.ntmps79
  go_wp2
  go_loop [3, 4] (fun v i => ∃ k : Nat, k ≤ s.size ∧ i = .int .i64 ((s.size : Int) - 1 - k) ∧ v = .int .i64 (decF (bytesOf s) (s.size - k) k)) (fun _ i => (intOf i + 1).toNat)
  case atStart => exact ⟨0, Nat.zero_le _, by simp, rfl⟩
  case round =>
    obtain ⟨k, hk, rfl, rfl⟩ := hrel
    have hd := decF_bd (bytesOf s) (bytesOf_bd s) k (s.size - k)
    by_cases hlt : k < s.size
    · obtain ⟨i, hi⟩ : ∃ i : Nat, i = s.size - 1 - k := ⟨_, rfl⟩
      have hii : ((s.size : Int) - 1 - k) = (i : Int) := by omega
      have hil : i < s.size := by omega
      have HB := Lib.hid (bytesOf_at s i hil)
      have hp := pow_le3 k (by omega)
      have HD : Hid (decF (bytesOf s) (s.size - (k + 1)) (k + 1) = (bytesOf s).getD i 0 + 256 * decF (bytesOf s) (s.size - k) k) := by
        show _ = _
        rw [show s.size - (k + 1) = i by omega, decF, show i + 1 = s.size - k by omega]
      rw [hii]
      have HI := Lib.hid hi
      clear hii hi
      generalize decF (bytesOf s) (s.size - k) k = v at *
      have hv : 0 ≤ v ∧ v < 16777216 := by omega
      clear hd hp
      have HO := Lib.hid (i64_or_byte v s[i] hv.1 hv.2)
      go_wp2
      refine ⟨⟨k + 1, by omega, ?_, ?_⟩, ?_⟩
      · congr 1; have := HI.out; omega
      · rw [HO.out, HD.out, HB.out]; congr 1; omega
      · simp [intOf]
    · have hkn : k = s.size := by omega
      subst hkn
      rw [Nat.sub_self] at *
      go_wp2
      go_ret
      exact ⟨rfl, rfl⟩

theorem decF_extract (s : ByteArray) (a z : Nat) (h : a + z ≤ s.size) : decF (bytesOf (s.extract a (a + z))) 0 (s.extract a (a + z)).size = decF (bytesOf s) a z := by
  have hsz : (s.extract a (a + z)).size = z := by rw [ByteArray.size_extract]; omega
  rw [hsz]
  refine decF_congr _ _ 0 a z fun i hi => ?_
  rw [Nat.zero_add, bytesOf_at _ i (by omega), bytesOf_at s (a + i) (by omega)]
  congr 2
  rw [ByteArray.getElem_extract]

theorem take_set_snoc (zs : List Int) (k : Nat) (v : Int) (h : k < zs.length) : (zs.set k v).take (k + 1) = zs.take k ++ [v] := by
  rw [List.take_add_one]
  have h1 : (zs.set k v).take k = zs.take k := by rw [List.take_set_of_le (Nat.le_refl k)]
  have h2 : (zs.set k v)[k]? = some v := by simp [h]
  rw [h1, h2]; rfl

theorem ints_of_own {w : World} {base n cap : Nat} {A : Option Addr} {zs : List Int} (h : w.ownsRow base 3 1 (.slice A n cap) n (zs.map (.int .i64))) (hb : ∀ z ∈ zs, -9223372036854775808 ≤ z ∧ z ≤ 9223372036854775807) : IntsAt w w.heap.size A n zs := by
  have hl : zs.length = n := by have := h.1; simpa using this
  refine ⟨hl, hb, fun k hk => ?_⟩
  rcases h.2 with ⟨_, h0⟩ | ⟨g, cap', cur, hv, _, _, _⟩
  · omega
  · have hA : A = some ⟨g, 0, none⟩ := by injection hv
    subst hA
    refine ⟨g, 0, rfl, (h.lt g rfl).2, ?_⟩
    have hc := h.cells (g := g) rfl k (.int .i64 (zs.getD k 0)) (by simp [List.getD, List.getElem?_eq_getElem (show k < zs.length by omega)])
    rw [Go.WideShapes.add_plain] at hc
    exact hc

set_option maxHeartbeats 1000000 in
theorem read_any (A : Option Addr) (n c B : Nat) (ws : List Int) (s : ByteArray) (w : World) (hr : IntsAt w B A n ws) (hB : B ≤ w.heap.size) (hn : n ≤ 20000000000000) (hs : s.size ≤ 1000000000000000) :
    Calls Try.prog 57 #[.slice A n c, .string s] w fun e w' => ∃ A' n' c', e = .returned (.tuple #[.slice A' n' c', .int .i64 (readR ws (bytesOf s)).2]) ∧ n' ≤ c' ∧ IntsAt w' w'.heap.size A' n' (readR ws (bytesOf s)).1 ∧ Below w.heap.size w w' := by
  by_cases hok : okTo ws ws.length = true
  · have hsz := sizeS_good ws hok
    have hsb := sumTo_bd ws ws.length hok
    rw [hr.len] at hsb
    have hsn : decide (sizeS ws < 0) = false := by rw [hsz]; simp; rw [hr.len]; omega
    by_cases hsh : (s.size : Int) < sumTo ws ws.length
    · have HW := Lib.hid (readR_short (bs := bytesOf s) hok (by rw [bytesOf_len]; exact hsh))
      have hlt : decide ((s.size : Int) < sizeS ws) = true := by rw [hsz]; simpa using hsh
      clear hok hsz hsb hsh
      go_enter Try.func57, Try.ntmps57
      go_wp2_with (go_at_call 78; refine (size_any A n c B ws w hr (by omega)).mono ?_; rintro e w' ⟨rfl, rfl⟩)
      go_ret2
      exact ⟨none, 0, 0, by rw [HW.out]; rfl, Nat.le_refl _, by rw [HW.out]; exact ⟨rfl, by simp, by intro k hk; omega⟩, Below.refl _ _⟩
    · obtain ⟨i0, hi, hz0, hz1, hz2⟩ := info_parts Try.info3
      have HW := Lib.hid (readR_ok (bs := bytesOf s) hok (by rw [bytesOf_len]; exact hsh))
      have hlt : decide ((s.size : Int) < sizeS ws) = false := by rw [hsz]; simpa using hsh
      have HOK := Lib.hid hok
      have HL := Lib.hid hr.len
      have HSH := Lib.hid hsh
      clear hok hsz hsb hsh
      go_enter Try.func57, Try.ntmps57
      go_wp2_with (first
        | (go_at_call 78; refine (size_any A n c B ws w hr (by omega)).mono ?_; rintro e w' ⟨rfl, rfl⟩)
        | (at_make; refine wpList_make_full _ rfl _ _ 35 rfl w.heap.size 3 i0 (.int .i64 0) 1 Try.underlying35 hi hz0 hz1 _ _ _ _ n rfl rfl rfl rfl (by rw [hz2]; omega) (by unfold maxLen; omega) (Nat.le_refl _) ?_; intro w1 hown1 hgrow1))
      have hb1 : Below w.heap.size w w1 := (Below.refl _ _).grown hgrow1 (Nat.le_refl _) (by intro k hk; cases hk)
      clear hgrow1 hsn hlt
      have hown2 : w1.ownsRow w.heap.size 3 1 (.slice (some ⟨w.heap.size, 0, none⟩) n n) n ((List.replicate n (0 : Int)).map (.int .i64)) := by
        rw [Nat.mul_one] at hown1
        rw [List.map_replicate]
        have e : (madeCells (Value.int .i64 0).cells n).toList = List.replicate n (Value.int .i64 0) := toList_madeCells_one _ _
        rw [e] at hown1
        exact hown1
      clear hown1
      go_loopw [8, 24] (fun at_ i wr => ∃ k : Nat, ∃ zs : List Int, k ≤ n ∧ i = .int .i64 k ∧ at_ = .int .i64 (sumTo ws k) ∧ zs.take k = readTo ws (bytesOf s) k ∧ (∀ z ∈ zs, 0 ≤ z ∧ z < 4294967296) ∧ wr.ownsRow w.heap.size 3 1 (.slice (some ⟨w.heap.size, 0, none⟩) n n) n (zs.map (.int .i64)) ∧ Below w.heap.size w wr) (fun _ i _ => n - (intOf i).toNat)
      case atStart => exact ⟨0, List.replicate n 0, Nat.zero_le _, rfl, rfl, by simp [readTo], by intro z hz; have := List.eq_of_mem_replicate hz; omega, hown2, hb1⟩
      case round =>
        obtain ⟨k, zs, hk, rfl, rfl, htk, hzb, hown, hbel⟩ := hrel
        clear hown2 hb1
        have HT := Lib.hid htk
        have HZ := Lib.hid hzb
        clear htk hzb
        by_cases hkn : k < n
        · have hrk := hr.below hbel hB
          obtain ⟨b, o, rfl, hb, hc⟩ := hrk.at_ hkn
          have hwk := okTo_at ws (k := k) (n := ws.length) (by rw [HL.out]; exact hkn) HOK.out
          have hok1 := okTo_mono ws (k + 1) ws.length (by rw [HL.out]; exact hkn) HOK.out
          have hs1 := sumTo_bd ws k (okTo_mono ws k ws.length (by rw [HL.out]; exact hk) HOK.out)
          have hs2 := sumTo_mono ws (k + 1) ws.length (by rw [HL.out]; exact hkn) HOK.out
          have hs3 : sumTo ws (k + 1) ≤ s.size := by have := HSH.out; omega
          have HS : Hid (sumTo ws (k + 1) = sumTo ws k + ws.getD k 0) := by show _ = _; rfl
          have HR : Hid (readTo ws (bytesOf s) (k + 1) = readTo ws (bytesOf s) k ++ [decF (bytesOf s) (sumTo ws k).toNat (ws.getD k 0).toNat]) := by show _ = _; rfl
          have hz := wOk_d hwk
          have hz1r : 0 ≤ ws.getD k 0 ∧ ws.getD k 0 ≤ 4 := by omega
          rw [HS.out] at hs3
          clear hwk hok1 hz hrk hs2
          generalize ws.getD k 0 = z at *
          generalize sumTo ws k = a at *
          obtain ⟨zn, rfl⟩ := Int.eq_ofNat_of_zero_le hz1r.1
          obtain ⟨an, rfl⟩ := Int.eq_ofNat_of_zero_le hs1.1
          have hcv := hown.cellAt k (by omega)
          have hzk : k < zs.length := by have := hown.1; simp at this; omega
          simp only [List.getElem?_map, List.getElem?_eq_getElem hzk, Option.map_some] at hcv
          have hfz := hown.frozenAt k
          have HF : Hid (decF (bytesOf (s.extract an (an + zn))) 0 (s.extract an (an + zn)).size = decF (bytesOf s) an zn) := decF_extract s an zn (by omega)
          have hfs : (s.extract an (an + zn)).size ≤ 4 := by rw [ByteArray.size_extract]; omega
          have HFS := Lib.hid hfs
          have hdb := decF_bd (bytesOf s) (bytesOf_bd s) zn an
          have hp4 := pow_le4 zn (by omega)
          rw [Int.toNat_natCast, Int.toNat_natCast] at HR
          clear hfs
          go_wp2_with fail
          refine (field_any _ _ HFS.out).mono ?_
          rintro e w' ⟨rfl, rfl⟩
          rw [HF.out]
          generalize decF (bytesOf s) an zn = v at *
          have hv : 0 ≤ v ∧ v < 4294967296 := by omega
          clear hdb hp4
          obtain ⟨hst, hgr⟩ := hown.stored k (.int .i64 v)
          have hb2 : Below w.heap.size w (wr.setCell ⟨w.heap.size, k, none⟩ (.int .i64 v)) := hbel.setCell (Nat.le_refl _) _
          have HST := Lib.hid hst
          clear hst hgr
          go_wp2
          go_roundw
          case rel =>
            refine ⟨k + 1, zs.set k v, by omega, by go_num, by rw [HS.out], ?_, ?_, ?_, hb2⟩
            · rw [HR.out, ← HT.out]; exact take_set_snoc zs k v hzk
            · intro z hz
              rcases List.mem_or_eq_of_mem_set hz with h | h
              · exact HZ.out z h
              · omega
            · rw [List.map_set]; exact HST.out
          case measure => simp [intOf]; omega
        · have hke : k = n := by omega
          subst hke
          have hfin : IntsAt wr wr.heap.size (some ⟨w.heap.size, 0, none⟩) k (readTo ws (bytesOf s) k) := by
            have hzl : zs.length = k := by have := hown.1; simpa using this
            rw [← HT.out, List.take_of_length_le (by omega)]
            exact ints_of_own hown (fun z hz => by have := HZ.out z hz; omega)
          have HFIN := Lib.hid hfin
          clear hfin
          go_wp2
          go_ret2
          exact ⟨_, _, _, by rw [HW.out]; rfl, Nat.le_refl _, by rw [HW.out, HL.out]; exact HFIN.out, hbel⟩
  · have hsn : decide (sizeS ws < 0) = true := by simp only [decide_eq_true_eq]; exact (sizeS_neg ws).2 hok
    have HW := Lib.hid (readR_arg (bs := bytesOf s) hok)
    clear hok
    go_enter Try.func57, Try.ntmps57
    go_wp2_with (go_at_call 78; refine (size_any A n c B ws w hr (by omega)).mono ?_; rintro e w' ⟨rfl, rfl⟩)
    go_ret2
    exact ⟨none, 0, 0, by rw [HW.out]; rfl, Nat.le_refl _, by rw [HW.out]; exact ⟨rfl, by simp, by intro k hk; omega⟩, Below.refl _ _⟩
end Go.Proofs.Ytpljifeebbeakaa
