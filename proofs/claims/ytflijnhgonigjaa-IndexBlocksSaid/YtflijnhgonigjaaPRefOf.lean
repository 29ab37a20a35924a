/-
  WALKS: the reference's Of; early. Conditions: at most 40000 entries; at most 100000 pages.
-/
import Derived.Test.YtflijnhgonigjaaPOf
namespace Go.Proofs.Ytflijnhgonigjaa
open Go.RowKit

def chunksTo (l : List En) (k : Nat) : Pg := (List.range k).map (cutAt l)
theorem chunksTo_succ (l : List En) (k : Nat) : chunksTo l (k + 1) = chunksTo l k ++ [cutAt l k] := by
  unfold chunksTo; rw [List.range_succ, List.map_append]; rfl
theorem chunksTo_len (l : List En) (k : Nat) : (chunksTo l k).length = k := by unfold chunksTo; simp
theorem OwnPg.ret {w w' : World} {v : Value} {p : Pg} (h : OwnPg w' w.heap.size v p) (hb : Below w.heap.size w w') : RetPgs w p (.returned v) w' := by
  obtain ⟨A, c, rfl, hc, hP⟩ := h.pgs
  exact ⟨A, c, rfl, hc, hP, hb⟩
theorem OwnPg.slice {w : World} {base : Nat} {v : Value} {p : Pg} (h : OwnPg w base v p) : ∃ A c, v = .slice A p.length c := by
  obtain ⟨A, c, e, -⟩ := h.pgs
  exact ⟨A, c, e⟩
/-- older memory lies apart from a row of the call's own. -/
theorem OwnPg.off {w w0 : World} {base B n : Nat} {v : Value} {p : Pg} {A : Option Addr} {l : List En} (h : OwnPg w base v p) (hE : EnsAt w0 B A n l) (hB : B ≤ base) : 0 < n → Off A v := fun hn a ha hv => by
  obtain ⟨vs, ho, -⟩ := h
  have h1 := (ho.lt a.block hv).1
  have h2 := hE.block hn ha
  omega

set_option maxHeartbeats 4000000 in
theorem rof_any (A : Option Addr) (n c B : Nat) (l : List En) (w : World) (hA : EnsAt w B A n l) (hB : B ≤ w.heap.size) (hn : n ≤ 40000) (hnc : n ≤ c) :
    Calls Try.prog 19 #[.slice A n c] w (RetPgs w (chunksL l)) := by
  have HL := Lib.hid hA.len
  have HA := Lib.hid hA
  clear hA
  have HEND : Hid (chunksTo l (qOf n) = chunksL l) := by show _ = _; unfold chunksTo chunksL; rw [HL.out]
  go_enter Try.func19, Try.ntmps19
  go_wp2
  go_loopw [3, 4] (fun v i wr => ∃ k : Nat, k ≤ qOf n ∧ i = .int .i64 ((9 * k : Nat) : Int) ∧ OwnPg wr w.heap.size v (chunksTo l k) ∧ Below w.heap.size w wr) (fun _ i _ => 50000 - (intOf i).toNat)
  case atStart => exact ⟨0, by omega, rfl, OwnPg.nil _ _, Below.refl _ _⟩
  case round =>
    obtain ⟨k, hk, rfl, hown, hb⟩ := hrel
    have hq : ∀ j, j < qOf n ↔ 9 * j < n := qOf_lt n
    have hlt := hq k
    obtain ⟨A5, c5, rfl⟩ := hown.slice
    by_cases hkq : k < qOf n
    · have hx := hlt.1 hkq
      obtain ⟨b, o, rfl, hbB, -, -⟩ := HA.out.at_ (k := 9 * k) hx
      have hE := (cut_ens HA.out k hx).below hb hB
      have hle : lenC n k = min 9 (n - 9 * k) := rfl
      have HCL : Hid ((cutAt l k).length = lenC n k) := by show _ = _; rw [cutAt_len, HL.out]
      have HSU := Lib.hid (chunksTo_succ l k)
      have HTL := Lib.hid (chunksTo_len l k)
      have HSL : Hid (SlE wr wr.heap.size (.slice A5 (chunksTo l k).length c5) (.slice (some ⟨b, o + 9 * k * 2, none⟩) (lenC n k) (c - 9 * k)) (cutAt l k)) := by
        show SlE _ _ _ _ _
        rw [← HCL.out] at hE ⊢
        refine ⟨_, _, rfl, by rw [HCL.out]; omega, hE.more (Nat.le_trans hB hb.size), ?_⟩
        exact hown.off hE hB
      have HOWN := Lib.hid hown
      have HB := Lib.hid hb
      have hsz := hb.size
      have hk4 : k ≤ 40000 := by omega
      clear hE hown hb hlt hq
      have HX : Hid (9 * (k + 1) = 9 * k + 9) := by show _ = _; omega
      generalize hen : lenC n k = len at *
      have HEN := Lib.hid hen
      clear hen
      have hlen1 : 0 < len ∧ len ≤ 9 ∧ 9 * k + len ≤ n := by omega
      have hmin' : min (9 * k + 9) n = 9 * k + len := by omega
      generalize chunksTo l k = acc at *
      generalize hcc : 9 * k = x at *
      have HCC := Lib.hid hcc
      clear hcc hle
      have hmin : min ((x : Int) + 9) (n : Int) = (x : Int) + (len : Int) := by omega
      have HMI := Lib.hid hmin'
      clear hmin'
      have x1 : (x : Int) < (n : Int) := by omega
      have x2 : (x : Int) + (len : Int) ≤ (n : Int) := by omega
      have x3 : ¬ c = x := by omega
      have x4 : ((x : Int) + (len : Int)).toNat = x + len := by omega
      have x5 : (x : Int) + (len : Int) ≤ (c : Int) := by omega
      have x6 : (0 : Int) ≤ (x : Int) + (len : Int) := by omega
      have x7 : x + len - x = len := by omega
      have hal := HTL.out
      go_wp2_with (at_builtin; refine pushP_law rfl (.tmp 11) (.tmp 20) rfl w.heap.size wr (.slice A5 acc.length c5) acc [.slice (some ⟨b, o + x * 2, none⟩) len (c - x)] [cutAt l k] rfl 1 1 rfl HOWN.out (PgV.single HSL.out) rfl (by omega) (by omega) hsz ?_)
      intro v' w6 ho6 b6 hkp
      clear hkp
      rw [← HSU.out] at ho6
      obtain ⟨A6, c6, rfl⟩ := ho6.slice
      have HO6 := Lib.hid ho6
      have HB6 := Lib.hid (HB.out.trans (b6.mono (Nat.le_refl _)))
      clear ho6 b6 hmin
      go_wp2
      go_roundw
      case rel => exact ⟨k + 1, by omega, by rw [HX.out]; go_num, HO6.out, HB6.out⟩
      case measure => simp [intOf]; omega
    · have x1 : ¬ ((9 * k : Nat) : Int) < (n : Int) := by omega
      obtain rfl : k = qOf n := by omega
      have hR := hown.ret hb
      have HR : Hid (RetPgs w (chunksL l) (.returned (.slice A5 (chunksTo l (qOf n)).length c5)) wr) := by rw [← HEND.out]; exact hR
      clear hR hown
      generalize (chunksTo l (qOf n)).length = m at *
      go_wp2
      go_ret
      exact HR.out
end Go.Proofs.Ytflijnhgonigjaa
