/-
  WALK: block. Conditions: at most 9 entries, each with bytes.
-/
import Derived.Test.YtflijnhgonigjaaPStrs
namespace Go.Proofs.Ytflijnhgonigjaa
open Go.RowKit
set_option linter.unusedVariables false

theorem ints_one (w : World) (v : Int) (h : -9223372036854775808 ≤ v ∧ v ≤ 9223372036854775807) : IntsAt (w.alloc (.cells #[.int .i64 v] 3)) (w.heap.size + 1) (some ⟨w.heap.size, 0, none⟩) 1 [v] := by
  refine ⟨rfl, by simpa using h, fun k hk => ⟨w.heap.size, 0, rfl, by omega, ?_⟩⟩
  obtain rfl : k = 0 := by omega
  exact cell_new w _ 3 0 rfl
/-- two rows of one int each. -/
theorem two_rows (w : World) (a b : Int) (ha : -9223372036854775808 ≤ a ∧ a ≤ 9223372036854775807) (hb : -9223372036854775808 ≤ b ∧ b ≤ 9223372036854775807) :
    IntsAt ((w.alloc (.cells #[.int .i64 a] 3)).alloc (.cells #[.int .i64 b] 3)) (w.heap.size + 2) (some ⟨w.heap.size, 0, none⟩) 1 [a] ∧
    IntsAt ((w.alloc (.cells #[.int .i64 a] 3)).alloc (.cells #[.int .i64 b] 3)) (w.heap.size + 2) (some ⟨w.heap.size + 1, 0, none⟩) 1 [b] ∧
    ((w.alloc (.cells #[.int .i64 a] 3)).alloc (.cells #[.int .i64 b] 3)).heap.size = w.heap.size + 2 ∧
    Below w.heap.size w ((w.alloc (.cells #[.int .i64 a] 3)).alloc (.cells #[.int .i64 b] 3)) := by
  have e1 : (w.alloc (.cells #[.int .i64 a] 3)).heap.size = w.heap.size + 1 := by simp
  have i1 := ints_one w a ha
  have i2 := ints_one (w.alloc (.cells #[.int .i64 a] 3)) b hb
  rw [e1] at i2
  exact ⟨(i1.alloc (by rw [e1]; exact Nat.le_refl _) _).more (by omega), i2, by simp, ((Below.refl _ w).alloc (Nat.le_refl _) _).alloc (by simp) _⟩
theorem pageL_step {n : Nat} {l : List En} {k : Nat} (h : k < l.length) : bs (pageL n (l.take k)) ++ (bs (nameL (l.getD k En.z).nm) ++ bs (byte2 (l.getD k En.z).nd)) = bs (pageL n (l.take (k + 1))) := by
  rw [bs_append, bs_append, take_snoc l h]
  unfold pageL
  rw [bytesE_snoc]
  rfl

set_option maxRecDepth 100000 in
set_option maxHeartbeats 4000000 in
theorem block_any (A : Option Addr) (n c B : Nat) (l : List En) (w : World) (hA : EnsAt w B A n l) (hB : B ≤ w.heap.size) (hok : ∀ e ∈ l, e.okS) (h9 : n ≤ 9) :
    Calls Try.prog 51 #[.slice A n c] w fun e w' => e = .returned (.string (blkP l)) ∧ Below w.heap.size w w' := by
  have hlen := hA.len
  have hm : ∀ e ∈ l, e.nm.size ≤ 11 := fun e he => (hok e he).len
  have HA := Lib.hid hA
  have HOK : Hid (∀ k, k < n → (l.getD k En.z).okS) := fun k hk => by rw [getD_lt (by rw [hlen]; exact hk)]; exact hok _ (List.getElem_mem _)
  have HST : Hid (∀ k, k < n → bs (pageL n (l.take k)) ++ (bs (nameL (l.getD k En.z).nm) ++ bs (byte2 (l.getD k En.z).nd)) = bs (pageL n (l.take (k + 1)))) := fun k hk => pageL_step (by rw [hlen]; exact hk)
  have HSZ : Hid (∀ k, k ≤ n → (bs (pageL n (l.take k))).size = 1 + 13 * k) := fun k hk => by
    rw [bs_size, pageL_len (fun e he => hm e (List.mem_of_mem_take he)), List.length_take, hlen]; omega
  have HZ : Hid (bs (pageL n (l.take 0)) = bs [UInt8.ofNat n]) := rfl
  have HE : Hid (padR (bs (pageL n (l.take n))) 128 = (blkP l, 0)) := by
    show _ = _
    rw [← hlen, List.take_length]; exact blk_pad hm (by omega)
  have HW1 := Lib.hid (fun (A A' : Option Addr) (B : Nat) (W : World) (a : IntsAt W B A 1 [1]) (b : IntsAt W B A' 1 [(n : Int)]) (hB : B ≤ W.heap.size) => write_any A A' 1 1 1 1 B [1] [(n : Int)] W a b hB (by omega) (by omega))
  rw [(write1 (n := n) (by omega)).1] at HW1
  simp only [(write1 (n := n) (by omega)).2] at HW1
  rw [← HZ.out] at HW1
  have HPD := Lib.hid (fun W => pad_any (bs (pageL n (l.take n))) 128 W (by rw [HSZ.out n (Nat.le_refl _)]; omega) (by omega))
  rw [HE.out] at HPD
  clear hA hok hm HZ HE hlen
  go_enter Try.func51, Try.ntmps51
  go_wp2_with fail
  obtain ⟨i1, i2, e3, b3⟩ := two_rows w 1 n (by omega) (by omega)
  generalize ((w.alloc (.cells #[.int .i64 1] 3)).alloc (.cells #[.int .i64 (n : Int)] 3)) = W3 at *
  have HB3 := Lib.hid b3
  refine (HW1.out _ _ _ W3 i1 i2 (by rw [e3]; exact Nat.le_refl _)).mono ?_
  clear b3 i1 i2
  rintro e w4 ⟨rfl, b4⟩
  have HB4 := Lib.hid (HB3.out.trans (b4.mono HB3.out.size))
  clear b4 HW1
  go_wp2
  go_loopw [3, 6, 7, 8, 9, 10, 23] (fun t _ _ _ _ _ i wr => ∃ k : Nat, k ≤ n ∧ i = .int .i64 (k : Int) ∧ t = .string (bs (pageL n (l.take k))) ∧ Below w.heap.size w wr) (fun _ _ _ _ _ _ i _ => n - (intOf i).toNat)
  case atStart => exact ⟨0, by omega, rfl, rfl, HB4.out⟩
  case round =>
    obtain ⟨k, hk, rfl, rfl, hb⟩ := hrel
    by_cases hlt : k < n
    · obtain ⟨b, o, rfl, hbB, g1, g2⟩ := HA.out.at_ hlt
      have c1 := bcell hb g1 (by show b < _; omega)
      have c2 := bcell hb g2 (by show b < _; omega)
      have ho := HOK.out k hlt
      have HSTk := Lib.hid (HST.out k hlt)
      have hz1 := HSZ.out k (by omega)
      have HB := Lib.hid hb
      have x1 : (0 : Int) ≤ (k : Int) := by omega
      have x2 : (k : Int) < (n : Int) := by omega
      clear g1 g2 hb
      generalize l.getD k En.z = x at *
      obtain ⟨s, z⟩ := x
      have h0 : 0 ≤ z := ho.lo
      have h1 : z ≤ 65535 := ho.hi
      have hs : s.size ≤ 11 := ho.len
      have hz : hasZ s = false := ho.nz
      simp only at c1 c2 HSTk
      have HX := Lib.hid (fun W => text_any s 11 W (by omega) (by omega))
      rw [text11 hs hz] at HX
      have HW := Lib.hid (fun (A A' : Option Addr) (B : Nat) (W : World) (a : IntsAt W B A 1 [2]) (b : IntsAt W B A' 1 [z]) (hB : B ≤ W.heap.size) => write_any A A' 1 1 1 1 B [2] [z] W a b hB (by omega) (by omega))
      rw [(write2 h0 h1).1] at HW
      simp only [(write2 h0 h1).2] at HW
      have hn1 : (bs (nameL s)).size = 11 := by rw [bs_size, name_len hs]
      have hn2 : (bs (byte2 z)).size = 2 := rfl
      have hn3 : (bs (nameL s) ++ bs (byte2 z)).size = 13 := by rw [bs_append, bs_size, List.length_append, name_len hs]; rfl
      have k1 : ¬ 9223372036854775807 < (bs (nameL s)).size + (bs (byte2 z)).size := by omega
      have k2 : ¬ 9223372036854775807 < (bs (pageL n (l.take k))).size + (bs (nameL s) ++ bs (byte2 z)).size := by omega
      have n1 : (wr.alloc (.cells #[.string s, .int .i64 z] 47)).cell? ⟨wr.heap.size, 0, none⟩ = some (.string s) := cell_new wr _ 47 0 rfl
      have n2 : (wr.alloc (.cells #[.string s, .int .i64 z] 47)).cell? ⟨wr.heap.size, 1, none⟩ = some (.int .i64 z) := cell_new wr _ 47 1 rfl
      have HQ : Hid (wr.heap.size < (wr.alloc (.cells #[.string s, .int .i64 z] 47)).heap.size) := by show _ < _; simp
      have HBA : Hid (Below w.heap.size w (wr.alloc (.cells #[.string s, .int .i64 z] 47))) := HB.out.alloc HB.out.size _
      clear ho hz hn1 hn2 hn3 hz1
      generalize bs (nameL s) = p11 at *
      generalize bs (byte2 z) = p2 at *
      generalize bs (pageL n (l.take k)) = pk at *
      go_wp2_with fail
      generalize wr.alloc (.cells #[.string s, .int .i64 z] 47) = W4 at *
      generalize wr.heap.size = px at *
      refine (HX.out _).mono ?_
      rintro e w5 ⟨rfl, b5⟩
      have m2 := bcell b5 n2 HQ.out
      have HB5 := Lib.hid (HBA.out.trans (b5.mono HBA.out.size))
      have HQ5 : Hid (px < w5.heap.size) := Nat.lt_of_lt_of_le HQ.out b5.size
      clear b5 n1 n2
      have m3 : (w5.alloc (.cells #[.int .i64 2] 3)).cell? ⟨px, 1, none⟩ = some (.int .i64 z) := by
        rw [World.cell?_alloc_lt _ _ _ (by exact HQ5.out)]; exact m2
      go_wp2_with fail
      obtain ⟨i1, i2, e3, b3⟩ := two_rows w5 2 z (by omega) (by omega)
      generalize ((w5.alloc (.cells #[.int .i64 2] 3)).alloc (.cells #[.int .i64 z] 3)) = W6 at *
      have HB6 := Lib.hid (HB5.out.trans (b3.mono HB5.out.size))
      refine (HW.out _ _ _ W6 i1 i2 (by rw [e3]; exact Nat.le_refl _)).mono ?_
      clear b3 i1 i2
      rintro e w7 ⟨rfl, b7⟩
      have HB7 := Lib.hid (HB6.out.trans (b7.mono HB6.out.size))
      clear b7 HW
      go_wp2
      go_roundw
      case rel => exact ⟨k + 1, by omega, by go_num, by rw [← HSTk.out], HB7.out⟩
      case measure => simp [intOf]; omega
    · have x1 : ¬ (k : Int) < (n : Int) := by omega
      obtain rfl : k = n := by omega
      have HB := Lib.hid hb
      clear hb
      generalize bs (pageL k (l.take k)) = pk at *
      go_wp2_with fail
      refine (HPD.out _).mono ?_
      rintro e w8 ⟨rfl, b8⟩
      go_wp2
      go_ret
      exact ⟨rfl, HB.out.trans (b8.mono HB.out.size)⟩
end Go.Proofs.Ytflijnhgonigjaa
