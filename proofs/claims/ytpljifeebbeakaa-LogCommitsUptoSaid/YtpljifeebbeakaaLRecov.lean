/-
  WALK: the reference's Recovered. Conditions: at most 1000 blocks, of 128 bytes each.
-/
import Derived.Test.YtpljifeebbeakaaLHeadR
namespace Go.Proofs.Ytpljifeebbeakaa
open Go.RowKit

def rcD (D : List ByteArray) : List ByteArray := setL D (loggedL D (hdL (D.getD 1 ⟨#[]⟩)))
def okR (D : List ByteArray) : Bool := hdOkR (D.getD 1 ⟨#[]⟩) D.length
/-- the answer of the reference's Recovered. -/
def RetRc (w : World) (D : List ByteArray) (e : Ending) (w' : World) : Prop :=
  ∃ v z, e = .returned (.tuple #[v, .bool z]) ∧ Below w.heap.size w w' ∧ (64 ≤ D.length → z = okR D) ∧ (64 ≤ D.length → okR D = true → w'.ownsRow w.heap.size 9 1 v (rcD D).length (strs (rcD D)))
theorem loggedL_snoc {D : List ByteArray} {bl : List Int} {k : Nat} (hk : k < bl.length) : (loggedL D bl).take (k + 1) = (loggedL D bl).take k ++ [⟨bl.getD k 0, D.getD (2 + k) ⟨#[]⟩⟩] := by
  have hk' : k < (loggedL D bl).length := by rw [loggedL_len]; exact hk
  rw [← loggedL_get D bl hk, List.take_succ_eq_append_getElem hk']
  simp [List.getD, hk']

set_option maxRecDepth 100000 in
set_option maxHeartbeats 4000000 in
theorem recov_any (A : Option Addr) (n c B : Nat) (D : List ByteArray) (w : World) (hA : SsAt w B A n D) (hB : B ≤ w.heap.size) (hn : n ≤ 1000) (hw : Whole D) :
    Calls Try.prog 24 #[.slice A n c] w (RetRc w D) := by
  have hlen := hA.len
  have HL := Lib.hid hlen
  by_cases h64 : 64 ≤ n
  · have hg : decide ((n : Int) < 64) = false := by simp; omega
    have x1 : (1 : Int) < (n : Int) := by omega
    obtain ⟨b, o, rfl, hb, hc1⟩ := hA.at_ (k := 1) (by omega)
    have HHD := Lib.hid (rhead_any (D.getD 1 ⟨#[]⟩) n w (hw.get (by omega)))
    have HA := Lib.hid hA
    have HOK : Hid (okR D = hdOkR (D.getD 1 ⟨#[]⟩) n) := by show _ = _; unfold okR; rw [hlen]
    have HEQ : Hid (okR D = true → InL n (loggedL D (hdL (D.getD 1 ⟨#[]⟩))) ∧ (hdL (D.getD 1 ⟨#[]⟩)).length ≤ 40) := fun h => by
      have h2 : hdOkR (D.getD 1 ⟨#[]⟩) D.length = true := h
      rw [← hdOk_eq (hw.get (by omega))] at h2
      obtain ⟨a, b, _⟩ := hdOk_t h2
      have hl : (hdL (D.getD 1 ⟨#[]⟩)).length ≤ 40 := by rw [hdL_len]; exact a
      rw [← hlen]
      exact ⟨loggedL_in hw (by omega) hl b, hl⟩
    have HRC : Hid (rcD D = setL D (loggedL D (hdL (D.getD 1 ⟨#[]⟩)))) := rfl
    have H64 : Hid (64 ≤ D.length) := by show _ ≤ _; omega
    clear hA hlen
    go_enter Try.func24, Try.ntmps24
    go_wp2_with fail
    refine HHD.out.mono ?_
    rintro e w1 ⟨A1, n1, c1, rfl, b1, h1⟩
    have HB1 := Lib.hid b1
    cases hok : okR D with
    | false =>
      have HF := Lib.hid (HOK.out.symm.trans hok)
      have HOF := Lib.hid hok
      rw [HF.out]
      clear h1 hok b1
      go_wp2
      go_ret2
      exact ⟨_, _, rfl, HB1.out, fun _ => HOF.out.symm, fun _ h => by rw [HOF.out] at h; cases h⟩
    | true =>
      have hT : hdOkR (D.getD 1 ⟨#[]⟩) n = true := HOK.out.symm.trans hok
      obtain ⟨hnc, hi⟩ := h1 hT
      have HT := Lib.hid hT
      have HOT := Lib.hid hok
      obtain ⟨hin, hl40⟩ := HEQ.out hok
      have HIN := Lib.hid hin
      have HI := Lib.hid hi
      have HN1 : Hid ((hdL (D.getD 1 ⟨#[]⟩)).length = n1) := hi.len
      rw [HN1.out] at hl40
      rw [HT.out]
      have HSN : Hid (∀ k, k < n1 → (loggedL D (hdL (D.getD 1 ⟨#[]⟩))).take (k + 1) = (loggedL D (hdL (D.getD 1 ⟨#[]⟩))).take k ++ [⟨(hdL (D.getD 1 ⟨#[]⟩)).getD k 0, D.getD (2 + k) ⟨#[]⟩⟩]) := fun k hk => loggedL_snoc (by rw [HN1.out]; exact hk)
      have HLL : Hid ((loggedL D (hdL (D.getD 1 ⟨#[]⟩))).length = n1) := by show _ = _; rw [loggedL_len, HN1.out]
      have HD2 : Hid (∀ k, k < n1 → (2 + k) < n) := fun k hk => by omega
      clear h1 hok b1 hT hin hi HHD HEQ HOK
      generalize hdL (D.getD 1 ⟨#[]⟩) = bl at *
      generalize loggedL D bl = ll at *
      go_wp2
      go_loopw [6, 7] (fun u j wr => ∃ k : Nat, k ≤ n1 ∧ j = .int .i64 (k : Int) ∧ wr.ownsRow w1.heap.size 58 2 u (ll.take k).length (chsCells (ll.take k)) ∧ Below w1.heap.size w1 wr) (fun _ j _ => n1 - (intOf j).toNat)
      case atStart => exact ⟨0, by omega, rfl, World.ownsRow_nil _ _ _ _, Below.refl _ _⟩
      case round =>
        obtain ⟨k, hk, rfl, hu, hb⟩ := hrel
        have HU := Lib.hid hu
        have HBR := Lib.hid hb
        by_cases h1 : k < n1
        · have hlt : (k : Int) < (n1 : Int) := by omega
          have x0 : (0 : Int) ≤ (k : Int) := by omega
          have h2k := HD2.out k h1
          have x2 : 0 ≤ 2 + (k : Int) ∧ 2 + (k : Int) < (n : Int) := by omega
          have hsum : IntKind.i64.wrap (2 + (k : Int)) = 2 + (k : Int) := IntWalk.i64_in _ (by omega)
          have x3 : (2 + (k : Int)).toNat = 2 + k := by omega
          obtain ⟨b2, o2, rfl, hb2, d0⟩ := HI.out.at_ h1
          obtain ⟨b', o', e', hb3, d1⟩ := HA.out.at_ h2k
          cases e'
          have e0 : wr.drew.cell? ⟨b2, o2 + k, none⟩ = some (.int .i64 (bl.getD k 0)) := (bcell hb d0 hb2 : wr.cell? ⟨b2, o2 + k, none⟩ = _)
          have e1 : wr.drew.cell? ⟨b, o + (2 + k), none⟩ = some (.string (D.getD (2 + k) ⟨#[]⟩)) := (bcell (HB1.out.trans (hb.mono HB1.out.size)) d1 (by show b < _; omega) : wr.cell? _ = _)
          have HSNk := Lib.hid (HSN.out k h1)
          have HTL : Hid ((ll.take k).length ≤ 100) := by show _ ≤ _; rw [List.length_take]; omega
          have HUd := Lib.hid (drew_own HU.out)
          have HBd : Hid (Below w.heap.size w wr.drew) := Below.drew (HB1.out.trans (hb.mono HB1.out.size))
          have HBd1 : Hid (Below w1.heap.size w1 wr.drew) := Below.drew hb
          generalize bl.getD k 0 = z at *
          generalize D.getD (2 + k) ⟨#[]⟩ = t at *
          generalize ll.take k = tk at *
          clear hu hb d0 d1
          go_wp2_with fail
          go_region_law (refine step_pushC rfl (.tmp 28) (.tmp 39) rfl w1.heap.size wr.drew _ tk z t (by simp [Act.eval]) (by simp [Act.eval]) HUd.out (by have := HTL.out; omega) HBd1.out.size ?_; intro u8 w8 ho8 hg8)
          all_goals
            have HB8 := Lib.hid ((HBd1.out.alloc HBd1.out.size (.cells #[.int .i64 z, .string t] 58)).grown hg8 (Nat.le_trans HBd1.out.size (by simp)) (fun q hq => (HUd.out.lt q hq).1))
            have HU8 := Lib.hid ho8
            rw [← HSNk.out] at HU8
            clear ho8 hg8 x3 hsum
            go_wp2
            go_roundw
            case rel => exact ⟨k + 1, h1, by push_cast; rfl, HU8.out, HB8.out⟩
            case measure => simp only [intOf]; omega
        · have hnlt : ¬ (k : Int) < (n1 : Int) := by omega
          have e : k = n1 := by omega
          have e2 : ll.take k = ll := by rw [e, ← HLL.out, List.take_length]
          rw [e2] at hu
          obtain ⟨AU, capU, rfl, hcapU⟩ := own_slice hu
          have hfit : ∀ c ∈ ll, c.fit := fun c hc => by
            have h := HIN.out c hc
            refine ⟨by rw [h.2.2]; omega, by omega, ?_⟩
            have := h.2.1
            omega
          have HIU := ChsAt.of_own hu rfl hfit
          rw [HLL.out] at HIU ⊢
          have hBB : Below w.heap.size w wr := HB1.out.trans (hb.mono HB1.out.size)
          have HWI := Lib.hid (with_any (some ⟨b, o, none⟩) AU n c n1 capU wr.heap.size D ll wr ((HA.out.below hBB hB).more (Nat.le_trans hB hBB.size)) HIU (Nat.le_refl _) hn (by omega) HIN.out (by omega))
          have HBB := Lib.hid hBB
          rw [← HRC.out] at HWI
          clear hu hb e e2 hfit HIU hBB
          go_wp2_with fail
          refine HWI.out.mono ?_
          rintro e w9 ⟨v9, rfl, ho9, b9⟩
          have HB9 := Lib.hid (HBB.out.trans (b9.mono HBB.out.size))
          have HO9 : Hid (w9.ownsRow w.heap.size 9 1 v9 (rcD D).length (strs (rcD D))) := ⟨ho9.1, by
            rcases ho9.2 with h | ⟨g, cap, cur, h1, h2, h3⟩
            · exact Or.inl h
            · exact Or.inr ⟨g, cap, cur, h1, Nat.le_trans HBB.out.size h2, h3⟩⟩
          clear ho9 b9
          go_wp2
          go_ret2
          exact ⟨_, _, rfl, HB9.out, fun _ => HOT.out.symm, fun _ _ => HO9.out⟩
  · have hg : decide ((n : Int) < 64) = true := by simp; omega
    have H64 : Hid (¬ 64 ≤ D.length) := by show ¬ _; omega
    clear hA hlen
    go_enter Try.func24, Try.ntmps24
    go_wp2
    go_ret2
    exact ⟨_, _, rfl, Below.refl _ _, fun h => absurd h H64.out, fun h => absurd h H64.out⟩
end Go.Proofs.Ytpljifeebbeakaa
