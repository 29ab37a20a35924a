/-
  WALKS: the reference's Join and SameTexts. Conditions: fewer than 2^43 names.
-/
import Derived.Test.YtcijpefddicmiaaDoorRefSplit
import Derived.Test.YtcijpefddicmiaaDoorUnder
namespace Go.Proofs.YtcijpefddicmiaaDoor
open Go.RowKit

theorem bs_append (a b : List UInt8) : bs a ++ bs b = bs (a ++ b) := by
  apply ByteArray.ext
  apply Array.toList_inj.1
  simp [bs]
theorem glue_bound (l : List (List UInt8)) : ∀ k, k ≤ l.length → (∀ j, j < k → rightL (l.getD j []) = true) → (glue (l.take k)).length ≤ 12 * k
  | 0, _, _ => by simp [glue]
  | k + 1, hk, h => by
    have ih := glue_bound l k (by omega) (fun j hj => h j (by omega))
    have := rightL_len (h k (by omega))
    rw [glue_len l k (by omega)]
    simp only [List.length_append, List.length_cons]
    omega
theorem join_big {l : List (List UInt8)} (h0 : l ≠ []) (h : 255 < (glue l).length) : joinL l = none := by
  unfold joinL
  rw [if_neg h0, if_neg]
  rintro ⟨_, h1⟩
  omega

set_option maxHeartbeats 4000000 in
theorem rjoin_any (l : List (List UInt8)) (A : Option Addr) (n c : Nat) (w : World) (hA : StrsAt w w.heap.size A n l) (hn : n ≤ 8796093022208) (hx : ∀ k, (l.getD k []).length ≤ 9223372036854775807) : Calls Tryd.prog 19 #[.slice A n c] w (RetJoin w (joinL l)) := by
  have hlen := hA.len
  have HODD : Hid (∀ k, k < n → rightL (l.getD k []) = false → joinL l = none) := fun k hk h => join_odd (by omega) h
  have HALL : Hid (n ≠ 0 → (∀ j, j < n → rightL (l.getD j []) = true) → (glue (l.take n)).length ≤ 255 → joinL l = some (glue (l.take n))) := fun h0 h h1 => by
    rw [← hlen, List.take_length] at h1 ⊢
    exact join_all (by intro e; rw [e] at hlen; exact h0 hlen.symm) (fun j hj => h j (by omega)) h1
  have HBIG : Hid (n ≠ 0 → 255 < (glue (l.take n)).length → joinL l = none) := fun h0 h1 => by
    rw [← hlen, List.take_length] at h1
    exact join_big (by intro e; rw [e] at hlen; exact h0 hlen.symm) h1
  have HNIL : Hid (n = 0 → joinL l = some [47]) := fun h0 => by
    rw [List.eq_nil_of_length_eq_zero (hlen.trans h0)]; rfl
  have HBD : Hid (∀ k, k ≤ n → (∀ j, j < k → rightL (l.getD j []) = true) → (glue (l.take k)).length ≤ 12 * k) := fun k hk h => glue_bound l k (by omega) h
  have HST : Hid (∀ k, k < n → bs (glue (l.take k)) ++ (⟨#[47]⟩ ++ bs (l.getD k [])) = bs (glue (l.take (k + 1)))) := fun k hk => by
    rw [glue_len l k (by omega), show (⟨#[47]⟩ : ByteArray) = bs [47] from rfl, bs_append, bs_append]; rfl
  have HA := Lib.hid hA
  have HX := Lib.hid hx
  clear hA hlen hx
  generalize joinL l = o at *
  go_enter Tryd.func19, Tryd.ntmps19
  go_wp2
  go_loopw [4, 5] (fun s i wr => ∃ k : Nat, i = .int .i64 (k : Int) ∧ k ≤ n ∧ s = .string (bs (glue (l.take k))) ∧ wr = w ∧ Hid (∀ j, j < k → rightL (l.getD j []) = true)) (fun _ i _ => n - (intOf i).toNat)
  case atStart => exact ⟨0, rfl, Nat.zero_le _, rfl, rfl, fun j hj => absurd hj (Nat.not_lt_zero _)⟩
  case round =>
    obtain ⟨k, rfl, hk, rfl, rfl, hok⟩ := hrel
    have hgb := HBD.out k hk hok.out
    by_cases hlt : k < n
    · have hlt' : (k : Int) < (n : Int) := by omega
      obtain ⟨b, off, rfl, hB, hcc⟩ := HA.out.at_ hlt
      have hk0 : (0 : Int) ≤ (k : Int) := by omega
      have hst := HST.out k hlt
      have hsz : (bs (glue (l.take k))).size ≤ 12 * k := hgb
      clear hgb
      cases hR : rightL (l.getD k []) with
      | false =>
        have HN := Lib.hid (HODD.out k hlt hR)
        have HRt : Hid (∀ W, Calls Tryd.prog 12 #[.string (bs (l.getD k []))] W fun e w' => e = .returned (.bool false) ∧ w' = W) := fun W => by
          have := rright_any (bs (l.getD k [])) W (HX.out k)
          rwa [show rightB (bs (l.getD k [])) = false from hR] at this
        clear hR hst
        generalize bs (l.getD k []) = X at *
        generalize bs (glue (l.take k)) = S at *
        go_wp2_with fail
        refine (HRt.out _).mono ?_
        rintro e w2 ⟨rfl, rfl⟩
        go_wp2
        go_ret2
        rw [HN.out]
        exact ⟨rfl, Below.refl _ _⟩
      | true =>
        have hq := rightL_len hR
        have HRt : Hid (∀ W, Calls Tryd.prog 12 #[.string (bs (l.getD k []))] W fun e w' => e = .returned (.bool true) ∧ w' = W) := fun W => by
          have := rright_any (bs (l.getD k [])) W (by show (l.getD k []).length ≤ _; omega)
          rwa [show rightB (bs (l.getD k [])) = true from hR] at this
        have hxs : (bs (l.getD k [])).size ≤ 11 := hq.2
        have HOK : Hid (∀ j, j < k + 1 → rightL (l.getD j []) = true) := fun j hj => by
          rcases Nat.lt_or_ge j k with h | h
          · exact hok.out j h
          · obtain rfl : j = k := by omega
            exact hR
        have HS := Lib.hid hst
        clear hR hst hq
        generalize bs (l.getD k []) = X at *
        generalize bs (glue (l.take k)) = S at *
        go_wp2_with fail
        refine (HRt.out _).mono ?_
        rintro e w2 ⟨rfl, rfl⟩
        go_wp2
        go_roundw
        case rel => exact ⟨k + 1, by go_num, hlt, by rw [← HS.out], by first | rfl | trivial, HOK⟩
        case measure => simp [intOf]; omega
    · have hlt' : ¬ (k : Int) < (n : Int) := by omega
      obtain rfl : k = n := by omega
      by_cases h0 : k = 0
      · have HN := Lib.hid (HNIL.out h0)
        subst h0
        go_wp2
        go_ret2
        rw [HN.out]
        exact ⟨rfl, Below.refl _ _⟩
      · have h0' : ((k : Int) == 0) = false := by rw [beq_eq_false_iff_ne]; omega
        have hs : (bs (glue (l.take k))).size = (glue (l.take k)).length := rfl
        by_cases hbig : 255 < (glue (l.take k)).length
        · have HN := Lib.hid (HBIG.out h0 hbig)
          have hb : (255 : Int) < ((bs (glue (l.take k))).size : Int) := by rw [hs]; omega
          clear hs hbig hgb
          generalize bs (glue (l.take k)) = S at *
          go_wp2
          go_ret2
          rw [HN.out]
          exact ⟨rfl, Below.refl _ _⟩
        · have HN := Lib.hid (HALL.out h0 hok.out (by omega))
          have hb : ¬ (255 : Int) < ((bs (glue (l.take k))).size : Int) := by rw [hs]; omega
          clear hs hbig hgb
          generalize hS : bs (glue (l.take k)) = S at *
          have HS := Lib.hid hS
          clear hS
          go_wp2
          go_ret2
          rw [HN.out]
          exact ⟨by rw [← HS.out]; rfl, Below.refl _ _⟩

/-- the lists are the same. -/
def sameL (x y : List (List UInt8)) : Bool := decide (x = y)
theorem same_len {x y : List (List UInt8)} (h : x.length ≠ y.length) : sameL x y = false := by
  unfold sameL; rw [decide_eq_false_iff_not]; intro e; exact h (by rw [e])
theorem same_odd {x y : List (List UInt8)} (k : Nat) (h : x.getD k [] ≠ y.getD k []) : sameL x y = false := by
  unfold sameL; rw [decide_eq_false_iff_not]; intro e; exact h (by rw [e])
theorem same_all {x y : List (List UInt8)} (hl : x.length = y.length) (h : ∀ k, k < x.length → x.getD k [] = y.getD k []) : sameL x y = true := by
  unfold sameL; rw [decide_eq_true_eq]
  apply List.ext_getElem hl
  intro k h1 h2
  have := h k h1
  simpa [List.getD, List.getElem?_eq_getElem h1, List.getElem?_eq_getElem h2] using this
theorem bs_beq (a b : List UInt8) : ((bs a).toList == (bs b).toList) = (a == b) := by rw [ByteArray.toList_eq, ByteArray.toList_eq]; rfl

set_option maxHeartbeats 4000000 in
theorem same_any (x y : List (List UInt8)) (A A' : Option Addr) (n n' c c' : Nat) (w : World) (hA : StrsAt w w.heap.size A n x) (hA' : StrsAt w w.heap.size A' n' y) (hn : n ≤ 140737488355328) (hn' : n' ≤ 140737488355328) :
    Calls Tryd.prog 13 #[.slice A n c, .slice A' n' c'] w fun e w' => e = .returned (.bool (sameL x y)) ∧ Below w.heap.size w w' := by
  have hx := hA.len
  have hy := hA'.len
  by_cases he : n = n'
  · subst he
    have HODD : Hid (∀ k, x.getD k [] ≠ y.getD k [] → sameL x y = false) := fun k h => same_odd k h
    have HALL : Hid ((∀ k, k < n → x.getD k [] = y.getD k []) → sameL x y = true) := fun h => same_all (hx.trans hy.symm) (by rw [hx]; exact h)
    have HA := Lib.hid hA
    have HA' := Lib.hid hA'
    clear hA hA' hx hy
    generalize sameL x y = v at *
    go_enter Tryd.func13, Tryd.ntmps13
    go_wp2
    go_loopw [5] (fun i wr => ∃ k : Nat, i = .int .i64 (k : Int) ∧ k ≤ n ∧ (∃ q, wr = w.drewN q) ∧ Hid (∀ j, j < k → x.getD j [] = y.getD j [])) (fun i _ => n - (intOf i).toNat)
    case atStart => exact ⟨0, rfl, Nat.zero_le _, ⟨0, rfl⟩, fun j hj => absurd hj (Nat.not_lt_zero _)⟩
    case round =>
      obtain ⟨k, rfl, hk, ⟨q, rfl⟩, hok⟩ := hrel
      by_cases hlt : k < n
      · have hlt' : (k : Int) < (n : Int) := by omega
        have hk0 : (0 : Int) ≤ (k : Int) := by omega
        obtain ⟨b, off, rfl, hB, hcc⟩ := HA.out.at_ hlt
        obtain ⟨b', off', rfl, hB', hcc'⟩ := HA'.out.at_ hlt
        by_cases hq : x.getD k [] = y.getD k []
        · have HOK : Hid (∀ j, j < k + 1 → x.getD j [] = y.getD j []) := fun j hj => by
            rcases Nat.lt_or_ge j k with h | h
            · exact hok.out j h
            · obtain rfl : j = k := by omega
              exact hq
          rw [← hq] at hcc'
          clear hq
          generalize bs (x.getD k []) = X at *
          go_wp2
          go_quiet (fail)
          go_wp2
          go_roundw
          case rel => exact ⟨k + 1, by go_num, hlt, ⟨_, rfl⟩, HOK⟩
          case measure => simp [intOf]; omega
        · have HN := Lib.hid (HODD.out k hq)
          have hne : ((bs (x.getD k [])).toList == (bs (y.getD k [])).toList) = false := by rw [bs_beq, beq_eq_false_iff_ne]; exact hq
          clear hq
          generalize bs (x.getD k []) = X at *
          generalize bs (y.getD k []) = Y at *
          go_wp2
          go_quiet (fail)
          go_wp2
          go_ret
          exact ⟨ret_bool HN.out.symm, below_drewN (below_drewN (Below.refl _ _) q) nq⟩
      · have hlt' : ¬ (k : Int) < (n : Int) := by omega
        have HN := Lib.hid (HALL.out fun j hj => hok.out j (by omega))
        go_wp2
        go_ret
        exact ⟨ret_bool HN.out.symm, below_drewN (Below.refl _ _) q⟩
  · have HN := Lib.hid (same_len (x := x) (y := y) (by rw [hx, hy]; exact he))
    have e1 : ((n : Int) != (n' : Int)) = true := by rw [bne_iff_ne]; omega
    clear hx hy
    go_enter Tryd.func13, Tryd.ntmps13
    go_wp2
    go_ret
    exact ⟨ret_bool HN.out.symm, Below.refl _ _⟩
end Go.Proofs.YtcijpefddicmiaaDoor
