/-
  WALKS: the reference's Of and Find of layer 7. Conditions: at most 50000 entries.
-/
import Derived.Test.YtflijnhgonigjaaPRefFind
namespace Go.Proofs.Ytflijnhgonigjaa
open Go.RowKit

def lenV : Value → Nat
  | .slice _ n _ => n
  | _ => 0
theorem lenV_slice (A : Option Addr) (n c : Nat) : lenV (.slice A n c) = n := rfl
theorem fill_snoc (l : List En) (j : Nat) : l ++ List.replicate (j + 1) En.z = (l ++ List.replicate j En.z) ++ [⟨⟨#[]⟩, 0⟩] := by
  rw [List.replicate_succ', List.append_assoc]; rfl
theorem fill_end {l : List En} {j : Nat} (h : (l.length + j) % 8 = 0) (hj : j < 8) : ofR l = l ++ List.replicate j En.z := by
  unfold ofR
  congr 2
  omega
theorem of_fit {l : List En} (h : ∀ e ∈ l, e.fit) : ∀ e ∈ ofR l, e.fit := fun e he => by
  rcases List.mem_append.1 he with h1 | h1
  · exact h e h1
  · rw [List.eq_of_mem_replicate h1]; exact En.fit_z
theorem of_len (l : List En) : (ofR l).length ≤ l.length + 7 := by unfold ofR; rw [List.length_append, List.length_replicate]; omega
theorem findR_pos {l : List En} {s : ByteArray} {k : Nat} (h : placeR l s = k) : findR l s = ((l.getD k En.z).nd, true) := by
  unfold findR; rw [if_neg (by omega), h]; rfl
theorem findR_neg {l : List En} {s : ByteArray} (h : placeR l s < 0) : findR l s = (0, false) := by unfold findR; rw [if_pos h]
theorem RetOwn.to {w w1 : World} {l : List En} {e : Ending} {w' : World} (h : RetOwn w1 l e w') (hb : Below w.heap.size w w1) : RetOwn w l e w' := by
  obtain ⟨v, rfl, ho, b⟩ := h
  exact ⟨v, rfl, own_base ho hb.size, hb.trans (b.mono hb.size)⟩

set_option maxHeartbeats 4000000 in
theorem rof7_any (A : Option Addr) (n c B : Nat) (l : List En) (w : World) (hA : EnsAt w B A n l) (hn : n ≤ 50000) :
    Calls Try.prog 30 #[.slice A n c] w (RetOwn w (ofR l)) := by
  have HA := Lib.hid hA
  have HL := Lib.hid hA.len
  clear hA
  go_enter Try.func30, Try.ntmps30
  go_wp2_with (at_builtin; refine join_law rfl (.const (.slice none 0 0)) (.tmp 4) rfl w.heap.size w (.slice none 0 0) [] rfl B A n c l rfl (World.ownsRow_nil _ _ _ _) HA.out (by simp; omega) (Nat.le_refl _) ?_; intro v1 w1 ho1 b1)
  rw [List.nil_append] at ho1
  have HO1 := Lib.hid ho1
  have HB1 := Lib.hid b1
  clear ho1 b1
  obtain ⟨A1, c1, rfl, hc1⟩ := own_slice HO1.out
  go_loopw [3] (fun v wr => ∃ j : Nat, j ≤ (8 - n % 8) % 8 ∧ wr.ownsRow w.heap.size 47 2 v (l ++ List.replicate j En.z).length (ensCells (l ++ List.replicate j En.z)) ∧ Below w.heap.size w wr) (fun v _ => (8 - lenV v % 8) % 8)
  case atStart => exact ⟨0, by omega, by simpa using HO1.out, HB1.out⟩
  case round =>
    obtain ⟨j, hj, hown, hb⟩ := hrel
    obtain ⟨A', c', rfl, hc'⟩ := own_slice hown
    have hlen : (l ++ List.replicate j En.z).length = n + j := by rw [List.length_append, List.length_replicate, HL.out]
    rw [hlen] at hown hc' ⊢
    have HOWN := Lib.hid hown
    have HLE := Lib.hid hlen
    have HB := Lib.hid hb
    have hws := hb.size
    clear hown hlen hb
    by_cases hm : (n + j) % 8 = 0
    · have hfin : RetOwn w (ofR l) (.returned (.slice A' (n + j) c')) wr := by
        rw [fill_end (l := l) (j := j) (by rw [HL.out]; exact hm) (by omega)]
        exact ⟨_, rfl, by rw [HLE.out]; exact HOWN.out, HB.out⟩
      have HF := Lib.hid hfin
      clear hfin
      generalize n + j = m at *
      have x1 : (m : Int) % 8 = 0 := by omega
      go_wp2
      go_ret
      exact HF.out
    · have hj7 : j + 1 ≤ (8 - n % 8) % 8 := by omega
      have HNX := Lib.hid (fill_snoc l j)
      generalize hmm : n + j = m at *
      have HMM := Lib.hid hmm
      have hm9 : m ≤ 60000 := by omega
      clear hmm
      have x1 : ¬ (m : Int) % 8 = 0 := by omega
      go_wp2_with (at_builtin; refine push_law rfl (.tmp 10) (.tmp 12) rfl w.heap.size wr (.slice A' m c') (l ++ List.replicate j En.z) ⟨#[]⟩ 0 rfl rfl (by rw [HLE.out]; exact HOWN.out) (by rw [HLE.out]; omega) hws ?_; intro v' w3 hown3 hb3)
      have HO3 := Lib.hid hown3
      clear hown3
      obtain ⟨A3, c3, rfl, hc3⟩ := own_slice HO3.out
      go_roundw
      case rel => exact ⟨j + 1, by omega, by rw [HNX.out]; exact HO3.out, HB.out.trans hb3⟩
      case measure => simp [lenV]; have := HL.out; have := HMM.out; omega
set_option maxHeartbeats 2000000 in
theorem rfind_any (A : Option Addr) (n c B : Nat) (l : List En) (t : ByteArray) (w : World) (hA : EnsAt w B A n l) (hn : n ≤ 100000) (ht : t.size ≤ 9223372036854775807) :
    Calls Try.prog 31 #[.slice A n c, .string t] w fun e w' => e = .returned (.tuple #[.int .i64 (findR l t).1, .bool (findR l t).2]) ∧ w = w' := by
  have HL := Lib.hid hA.len
  have HA := Lib.hid hA
  clear hA
  have HC := Lib.hid (fun w => rright_any t w ht)
  cases hr : rightB t with
  | false =>
    have HR : Hid (findR l t = (0, false)) := findR_neg (by unfold placeR; rw [hr, if_neg (by decide)]; decide)
    rw [hr] at HC
    clear hr
    go_enter Try.func31, Try.ntmps31
    go_wp2_with fail
    refine (HC.out _).mono ?_
    rintro e w1 ⟨rfl, rfl⟩
    go_wp2
    go_ret2
    exact ⟨by rw [HR.out]; rfl, rfl⟩
  | true =>
    have HPL : Hid (placeR l t = idx (fun e => eqB e.nm t) l) := by show _ = _; unfold placeR; rw [hr]; rfl
    rw [hr] at HC
    clear hr
    go_enter Try.func31, Try.ntmps31
    go_wp2_with fail
    refine (HC.out _).mono ?_
    rintro e w1 ⟨rfl, rfl⟩
    go_wp2
    go_loop [6] (fun i => ∃ k : Nat, k ≤ n ∧ i = .int .i64 (k : Int) ∧ Hid (∀ j, j < k → (fun e : En => eqB e.nm t) (l.getD j En.z) = false)) (fun i => n - (intOf i).toNat)
    case atStart => exact ⟨0, by omega, rfl, fun j hj => absurd hj (Nat.not_lt_zero _)⟩
    case round =>
      obtain ⟨k, hk, rfl, hok⟩ := hrel
      by_cases hlt : k < n
      · obtain ⟨b, o, rfl, hbB, h1, h2⟩ := HA.out.at_ hlt
        cases hv : eqB (l.getD k En.z).nm t with
        | true =>
          have HR := Lib.hid (findR_pos (HPL.out.trans (idx_found (p := fun e => eqB e.nm t) (l := l) (k := k) (by rw [HL.out]; exact hlt) hok.out hv)))
          have hv' : ((l.getD k En.z).nm.toList == t.toList) = true := hv
          clear hv
          generalize l.getD k En.z = x at *
          obtain ⟨s, z⟩ := x
          simp only at h1 h2 HR hv'
          go_wp2
          go_ret2
          exact ⟨by rw [HR.out]; rfl, rfl⟩
        | false =>
          have HV := Lib.hid hv
          have hv' : ((l.getD k En.z).nm.toList == t.toList) = false := hv
          clear hv
          generalize hX : l.getD k En.z = x at *
          have HX := Lib.hid hX
          clear hX
          obtain ⟨s, z⟩ := x
          simp only at h1 h2 HV hv'
          go_wp2
          go_round
          case rel => exact ⟨k + 1, by omega, by go_num, fun j hj => by
            rcases Nat.lt_or_ge j k with h' | h'
            · exact hok.out j h'
            · obtain rfl : j = k := by omega
              show eqB (l.getD j En.z).nm t = false
              rw [HX.out]; exact HV.out⟩
          case measure => simp [intOf]; omega
      · have HR : Hid (findR l t = (0, false)) := findR_neg (by rw [HPL.out, idx_none (p := fun e => eqB e.nm t) (l := l) (fun j hj => hok.out j (by rw [HL.out] at hj; omega))]; omega)
        go_wp2
        go_ret2
        exact ⟨by rw [HR.out]; rfl, rfl⟩

end Go.Proofs.Ytflijnhgonigjaa
