/-
  WALK: Write. Conditions: at most 10000 pages of at most 100000 entries each.
-/
import Derived.Test.YtflijnhgonigjaaPBlock
import Derived.Test.YtflijnhgonigjaaPRight
namespace Go.Proofs.Ytflijnhgonigjaa
open Go.RowKit
set_option linter.unusedVariables false

theorem RetW.err {w w' : World} {r : List ByteArray × Int} {z : Int} (h : r = ([], z)) (hb : Below w.heap.size w w') : RetW w r (.returned (.tuple #[.slice none 0 0, .int .i64 z])) w' := by
  subst h
  exact ⟨_, rfl, World.ownsRow_nil _ _ _ _, hb⟩
theorem map_take {p : Pg} {k : Nat} (h : k < p.length) : (p.take (k + 1)).map blkP = (p.take k).map blkP ++ [blkP (p.getD k [])] := by
  rw [List.take_succ_eq_append_getElem h, List.map_append, pg_getD h]; rfl

set_option maxRecDepth 100000 in
set_option maxHeartbeats 4000000 in
theorem iwrite_any (A : Option Addr) (n c B : Nat) (p : Pg) (w : World) (hA : PgsAt w B A n p) (hB : B ≤ w.heap.size) (hn : n ≤ 10000) (hm : ∀ l ∈ p, l.length ≤ 100000) :
    Calls Try.prog 24 #[.slice A n c] w (RetW w (writeP p)) := by
  have KR := Lib.hid (iright_any A n c B p w hA hB (by omega) hm)
  have hlen := hA.len
  cases hr : rightP p with
  | false =>
    have HF := Lib.hid (writeP_no hr)
    rw [hr] at KR
    clear hr hA hm hlen
    go_enter Try.func24, Try.ntmps24
    go_wp2_with fail
    refine KR.out.mono ?_
    rintro e w3 ⟨rfl, b3⟩
    go_wp2
    go_ret2
    exact RetW.err HF.out b3
  | true =>
    have HF := Lib.hid (writeP_yes hr)
    have HPK : Hid (∀ k, k < n → (∀ e ∈ p.getD k [], e.okS) ∧ (p.getD k []).length ≤ 9) := fun k hk => by
      rw [pg_getD (by rw [hlen]; exact hk)]
      have := page_okS hr (List.getElem_mem (by rw [hlen]; exact hk))
      exact ⟨this.1, this.2.1⟩
    have HMT : Hid (∀ k, k < n → (p.take (k + 1)).map blkP = (p.take k).map blkP ++ [blkP (p.getD k [])]) := fun k hk => map_take (by rw [hlen]; exact hk)
    have HML : Hid (∀ k, ((p.take k).map blkP).length ≤ k) := fun k => by rw [List.length_map, List.length_take]; omega
    have HME : Hid ((p.take n).map blkP = p.map blkP) := by show _ = _; rw [← hlen, List.take_length]
    have HA := Lib.hid hA
    rw [HF.out]
    rw [hr] at KR
    clear hr hA hm hlen HF
    go_enter Try.func24, Try.ntmps24
    go_wp2_with fail
    refine KR.out.mono ?_
    rintro e w3 ⟨rfl, b3⟩
    have HB3 := Lib.hid b3
    clear b3 KR
    go_wp2
    go_loopw [4, 6, 12] (fun v _ i wr => ∃ k : Nat, k ≤ n ∧ i = .int .i64 (k : Int) ∧ wr.ownsRow w.heap.size 9 1 v ((p.take k).map blkP).length (strs ((p.take k).map blkP)) ∧ Below w.heap.size w wr) (fun _ _ i _ => n - (intOf i).toNat)
    case atStart => exact ⟨0, by omega, rfl, World.ownsRow_nil _ _ _ _, HB3.out⟩
    case round =>
      obtain ⟨k, hk, rfl, hown, hb⟩ := hrel
      by_cases hlt : k < n
      · obtain ⟨b, o, A1, c1, rfl, hbB, hcell, hlc, hE1⟩ := HA.out.at_ hlt
        have d0 := bcell hb hcell (by show b < _; omega)
        have hpk := HPK.out k hlt
        have HBK := Lib.hid (block_any A1 (p.getD k []).length c1 B (p.getD k []) wr (hE1.below hb hB) (Nat.le_trans hB hb.size) hpk.1 hpk.2)
        have HMTk := Lib.hid (HMT.out k hlt)
        have hml := HML.out k
        have HOWN := Lib.hid hown
        have HB := Lib.hid hb
        have x1 : (0 : Int) ≤ (k : Int) := by omega
        have x2 : (k : Int) < (n : Int) := by omega
        clear hcell hE1 hlc hown hb hpk HPK HMT HML HME
        generalize (p.getD k []).length = len at *
        generalize p.getD k [] = pg at *
        generalize (p.take k).map blkP = acc at *
        generalize blkP pg = Z at *
        go_wp2_with fail
        refine HBK.out.mono ?_
        rintro e w5 ⟨rfl, b5⟩
        have HO5 := Lib.hid (own_below HOWN.out b5 (Nat.le_refl _))
        have HB5 := Lib.hid (HB.out.trans (b5.mono HB.out.size))
        clear b5
        go_wp2_with (at_builtin; refine pushS_law rfl (.tmp 16) (.tmp 19) rfl w.heap.size w5 _ acc Z rfl rfl HO5.out (by omega) HB5.out.size ?_)
        intro v' w7 ho7 b7
        have HO7 : Hid (w7.ownsRow w.heap.size 9 1 v' ((p.take (k + 1)).map blkP).length (strs ((p.take (k + 1)).map blkP))) := by
          show World.ownsRow _ _ _ _ _ _ _
          rw [HMTk.out, List.length_append]; exact ho7
        have HB7 := Lib.hid (HB5.out.trans b7)
        clear ho7 b7
        go_wp2
        go_roundw
        case rel => exact ⟨k + 1, by omega, by go_num, HO7.out, HB7.out⟩
        case measure => simp [intOf]; omega
      · have x1 : ¬ (k : Int) < (n : Int) := by omega
        obtain rfl : k = n := by omega
        rw [HME.out] at hown
        have HO := Lib.hid hown
        have HB := Lib.hid hb
        clear hown hb
        go_wp2
        go_ret2
        exact ⟨_, rfl, HO.out, HB.out⟩
end Go.Proofs.Ytflijnhgonigjaa
