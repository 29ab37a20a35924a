/-
  WALK: the reference Read returns what readR says, and writes nothing that was there. Conditions: the slice has at most 17592186044416 elements, the string at most 1000000000000000 bytes.
-/
import Derived.Test.YtpljifeebbeakaaRead
namespace Go.Proofs.Ytpljifeebbeakaa
open Go.RowKit

theorem one_cell_int (k : IntKind) (v : Int) : ∀ u ∈ [Value.int k v], u.oneCell' = true := by intro u hu; simp at hu; subst hu; rfl
theorem i64_add_byte (v : Int) (b : UInt8) (h0 : 0 ≤ v) (h1 : v < 16777216) : wrap64 (256 * v + wrap64 (b.toNat : Int)) = v * 256 + (b.toNat : Int) := by
  have hb : b.toNat < 256 := b.toNat_lt
  generalize b.toNat = m at *
  unfold wrap64; omega
theorem readTo_bd (ws bs : List Int) (hb : ∀ i, 0 ≤ bs.getD i 0 ∧ bs.getD i 0 ≤ 255) : ∀ k, okTo ws k = true → ∀ z ∈ readTo ws bs k, -9223372036854775808 ≤ z ∧ z ≤ 9223372036854775807 := by
  intro k
  induction k with
  | zero => intro _ z hz; simp [readTo] at hz
  | succ k ih =>
    intro h z hz
    simp only [okTo, Bool.and_eq_true] at h
    simp only [readTo, List.mem_append, List.mem_singleton] at hz
    rcases hz with hz | rfl
    · exact ih h.1 z hz
    · have h2 := wOk_d h.2
      have h3 := decF_bd bs hb (ws.getD k 0).toNat (sumTo ws k).toNat
      have h4 := pow_le4 (ws.getD k 0).toNat (by omega)
      omega

set_option maxRecDepth 100000 in
set_option maxHeartbeats 1000000 in
theorem rread_any (A : Option Addr) (n c B : Nat) (ws : List Int) (s : ByteArray) (w : World) (hr : IntsAt w B A n ws) (hB : B ≤ w.heap.size) (hn : n ≤ 17592186044416) (hs : s.size ≤ 1000000000000000) :
    Calls Try.prog 56 #[.slice A n c, .string s] w fun e w' => ∃ A' n' c', e = .returned (.tuple #[.slice A' n' c', .int .i64 (readR ws (bytesOf s)).2]) ∧ n' ≤ c' ∧ IntsAt w' w'.heap.size A' n' (readR ws (bytesOf s)).1 ∧ Below w.heap.size w w' := by
  by_cases hok : okTo ws ws.length = true
  · have hsz := sizeS_good ws hok
    have hsb := sumTo_bd ws ws.length hok
    rw [hr.len] at hsb
    have hsn : decide (sizeS ws < 0) = false := by rw [hsz]; simp; rw [hr.len]; omega
    by_cases hsh : (s.size : Int) < sumTo ws ws.length
    · have HW := Lib.hid (readR_short (bs := bytesOf s) hok (by rw [bytesOf_len]; exact hsh))
      have hlt : decide ((s.size : Int) < sizeS ws) = true := by rw [hsz]; simpa using hsh
      clear hok hsz hsb hsh
      go_enter Try.func56, Try.ntmps56
      go_wp2_with (go_at_call 77; refine (rsize_any A n c B ws w hr (by omega)).mono ?_; rintro e w' ⟨rfl, rfl⟩)
      go_ret2
      exact ⟨none, 0, 0, by rw [HW.out]; rfl, Nat.le_refl _, by rw [HW.out]; exact ⟨rfl, by simp, by intro k hk; omega⟩, Below.refl _ _⟩
    · obtain ⟨i0, hi, hz0, hz1, hz2⟩ := info_parts Try.info3
      have HW := Lib.hid (readR_ok (bs := bytesOf s) hok (by rw [bytesOf_len]; exact hsh))
      have hlt : decide ((s.size : Int) < sizeS ws) = false := by rw [hsz]; simpa using hsh
      have HOK := Lib.hid hok
      have HL := Lib.hid hr.len
      have HSH := Lib.hid hsh
      clear hok hsz hsb hsh
      go_enter Try.func56, Try.ntmps56
      go_wp2_with (go_at_call 77; refine (rsize_any A n c B ws w hr (by omega)).mono ?_; rintro e w' ⟨rfl, rfl⟩)
      clear hsn hlt
      go_loopw [6, 7, 8] (fun r at_ i wr => ∃ k : Nat, k ≤ n ∧ i = .int .i64 k ∧ at_ = .int .i64 (sumTo ws k) ∧ wr.ownsRow w.heap.size 3 1 r k ((readTo ws (bytesOf s) k).map (.int .i64)) ∧ Below w.heap.size w wr) (fun _ _ i _ => n - (intOf i).toNat)
      case atStart => exact ⟨0, Nat.zero_le _, rfl, rfl, World.ownsRow_nil _ _ _ _, Below.refl _ _⟩
      case round =>
        obtain ⟨k, hk, rfl, rfl, hown, hbel⟩ := hrel
        by_cases hkn : k < n
        · have hrk := hr.below hbel hB
          obtain ⟨b, o, rfl, hb, hc⟩ := hrk.at_ hkn
          have hwk := okTo_at ws (k := k) (n := ws.length) (by rw [HL.out]; exact hkn) HOK.out
          have hs1 := sumTo_bd ws k (okTo_mono ws k ws.length (by rw [HL.out]; exact hk) HOK.out)
          have hs2 := sumTo_mono ws (k + 1) ws.length (by rw [HL.out]; exact hkn) HOK.out
          have hs3 : sumTo ws (k + 1) ≤ s.size := by have := HSH.out; omega
          have HS : Hid (sumTo ws (k + 1) = sumTo ws k + ws.getD k 0) := by show _ = _; rfl
          have HR : Hid (readTo ws (bytesOf s) (k + 1) = readTo ws (bytesOf s) k ++ [decF (bytesOf s) (sumTo ws k).toNat (ws.getD k 0).toNat]) := by show _ = _; rfl
          have hz := wOk_d hwk
          have hz1r : 1 ≤ ws.getD k 0 ∧ ws.getD k 0 ≤ 4 := by omega
          rw [HS.out] at hs3
          clear hwk hz hrk hs2
          generalize ws.getD k 0 = z at *
          generalize sumTo ws k = a at *
          obtain ⟨zn, rfl⟩ := Int.eq_ofNat_of_zero_le (show 0 ≤ z by omega)
          obtain ⟨an, rfl⟩ := Int.eq_ofNat_of_zero_le hs1.1
          rw [Int.toNat_natCast, Int.toNat_natCast] at HR
          have hzx : w.heap.size ≤ wr.heap.size := hbel.size
          go_wp2
          go_loop [9, 10] (fun v i => ∃ j : Nat, j ≤ zn ∧ i = .int .i64 ((zn : Int) - 1 - j) ∧ v = .int .i64 (decF (bytesOf s) (an + zn - j) j)) (fun _ i => (intOf i + 1).toNat)
          case atStart => exact ⟨0, Nat.zero_le _, by simp, rfl⟩
          case round =>
            obtain ⟨j, hj, rfl, rfl⟩ := hrel
            have hd := decF_bd (bytesOf s) (bytesOf_bd s) j (an + zn - j)
            by_cases hjz : j < zn
            · obtain ⟨i, hii0⟩ : ∃ i : Nat, i = zn - 1 - j := ⟨_, rfl⟩
              have hii : ((zn : Int) - 1 - j) = (i : Int) := by omega
              have hil : an + i < s.size := by omega
              have HB := Lib.hid (bytesOf_at s (an + i) hil)
              have hp := pow_le3 j (by omega)
              have HD : Hid (decF (bytesOf s) (an + zn - (j + 1)) (j + 1) = (bytesOf s).getD (an + i) 0 + 256 * decF (bytesOf s) (an + zn - j) j) := by
                show _ = _
                rw [show an + zn - (j + 1) = an + i by omega, decF, show an + i + 1 = an + zn - j by omega]
              rw [hii]
              have HI := Lib.hid hii0
              clear hii hii0
              generalize decF (bytesOf s) (an + zn - j) j = v at *
              have hv : 0 ≤ v ∧ v < 16777216 := by omega
              clear hd hp
              have HO := Lib.hid (i64_add_byte v s[an + i] hv.1 hv.2)
              go_wp2
              refine ⟨⟨j + 1, by omega, ?_, ?_⟩, ?_⟩
              · congr 1; have := HI.out; omega
              · rw [HO.out, HD.out, HB.out]; congr 1; omega
              · simp [intOf]
            · have hje : j = zn := by omega
              subst hje
              rw [show an + j - j = an by omega] at *
              have hneg : decide (0 ≤ (j : Int) - 1 - j) = false := by simp; omega
              generalize decF (bytesOf s) an j = v at *
              have hp4 := pow_le4 j (by omega)
              have hv : 0 ≤ v ∧ v < 4294967296 := by omega
              clear hd hp4
              rw [show ((j : Int) - 1 - j) = -1 by omega] at *
              clear hneg
              go_wp2_with (first | (at_builtin; refine wpList_append_own _ rfl _ _ 35 rfl w.heap.size 3 i0 (.int .i64 0) 1 8 Try.underlying35 hi hz0 hz1 hz2 rfl (by decide) _ _ _ rfl (hown.alloc _) ⟨wr.heap.size, 0, none⟩ 1 1 [.int .i64 v] rfl rfl (cell_one_new _ _ _) (one_cell_int _ _) (by unfold maxLen; omega) (by omega) (by simp; omega) ?_))
              intro v' w1 hown2 hgrow _
              have hb2 : Below w.heap.size w w1 := (hbel.alloc (by omega) _).grown hgrow (by simp; omega) (fun g hg => (hown.lt g hg).1)
              have hc1 : w1.cell? ⟨b, o + k, none⟩ = some (.int .i64 j) := ((hb2.cell (p := ⟨b, o + k, none⟩) (by show b < _; omega)).trans (hbel.cell (p := ⟨b, o + k, none⟩) (by show b < _; omega)).symm).trans hc
              clear hgrow hown hbel hc
              go_wp2
              go_roundw
              case rel => exact ⟨k + 1, by omega, by go_num, by rw [HS.out], by rw [HR.out]; simpa using hown2, hb2⟩
              case measure => simp [intOf]; omega
        · have hke : k = n := by omega
          subst hke
          have hsh : ∃ A' c', u6 = .slice A' k c' ∧ k ≤ c' := by
            rcases hown.2 with ⟨h, h0⟩ | ⟨g, cap, cur, h, _, _, hc, _⟩
            · subst h0; exact ⟨none, 0, h, Nat.le_refl _⟩
            · exact ⟨_, _, h, hc⟩
          obtain ⟨A', c', rfl, hkc⟩ := hsh
          have HFIN := Lib.hid (ints_of_own hown (readTo_bd ws (bytesOf s) (bytesOf_bd s) k (okTo_mono ws k ws.length (by rw [HL.out]; exact hk) HOK.out)))
          go_wp2
          go_ret2
          exact ⟨A', k, c', by rw [HW.out]; rfl, hkc, by rw [HW.out, HL.out]; exact HFIN.out, hbel⟩
  · have hsn : decide (sizeS ws < 0) = true := by simp only [decide_eq_true_eq]; exact (sizeS_neg ws).2 hok
    have HW := Lib.hid (readR_arg (bs := bytesOf s) hok)
    clear hok
    go_enter Try.func56, Try.ntmps56
    go_wp2_with (go_at_call 77; refine (rsize_any A n c B ws w hr (by omega)).mono ?_; rintro e w' ⟨rfl, rfl⟩)
    go_ret2
    exact ⟨none, 0, 0, by rw [HW.out]; rfl, Nat.le_refl _, by rw [HW.out]; exact ⟨rfl, by simp, by intro k hk; omega⟩, Below.refl _ _⟩
end Go.Proofs.Ytpljifeebbeakaa
