/-
  WALKS: early, changes. Condition: at most 50000000 blocks in a batch.
-/
import Derived.Test.YtpljifeebbeakaaLRecov
namespace Go.Proofs.Ytpljifeebbeakaa
open Go.RowKit

/-- the slice at A with n elements reads as the bytes bs, and lies below block B. -/
def BysAt (w : World) (B : Nat) (A : Option Addr) (n : Nat) (bs : List Int) : Prop :=
  bs.length = n ∧ (∀ x ∈ bs, 0 ≤ x ∧ x ≤ 255) ∧ ∀ k, k < n → ∃ b o, A = some ⟨b, o, none⟩ ∧ b < B ∧ w.cell? ⟨b, o + k, none⟩ = some (.int .u8 (bs.getD k 0))
theorem BysAt.bd {w : World} {B n : Nat} {A : Option Addr} {bs : List Int} (h : BysAt w B A n bs) (k : Nat) : 0 ≤ bs.getD k 0 ∧ bs.getD k 0 ≤ 255 := by
  rcases Nat.lt_or_ge k bs.length with hl | hl
  · have := h.2.1 bs[k] (List.getElem_mem hl)
    simpa [List.getD, List.getElem?_eq_getElem hl] using this
  · simp only [List.getD, List.getElem?_eq_none hl, Option.getD_none]; omega
theorem BysAt.keep {w w' : World} {B n : Nat} {A : Option Addr} {bs : List Int} (h : BysAt w B A n bs) (hk : ∀ p : Addr, p.block < B → w'.cell? p = w.cell? p) : BysAt w' B A n bs :=
  ⟨h.1, h.2.1, fun k hkn => by
    obtain ⟨b, o, e, hb, h1⟩ := h.2.2 k hkn
    exact ⟨b, o, e, hb, (hk _ hb).trans h1⟩⟩
/-- the byte with which change i of a batch is filled. -/
def fillX (bs : List Int) (i : Nat) : Int := if i < bs.length then bs.getD i 0 else (i : Int) % 256
/-- the changes of a batch. -/
def chgs (zs bs : List Int) : List Ch := (List.range zs.length).map fun i : Nat => ⟨zs.getD i 0, fillS (fillX bs i)⟩
theorem chgs_len (zs bs : List Int) : (chgs zs bs).length = zs.length := by simp [chgs]
theorem chgs_take {zs bs : List Int} {k : Nat} (h : k < zs.length) : (chgs zs bs).take k ++ [⟨zs.getD k 0, fillS (fillX bs k)⟩] = (chgs zs bs).take (k + 1) := by
  have hk' : k < (chgs zs bs).length := by rw [chgs_len]; exact h
  rw [List.take_succ_eq_append_getElem hk']
  simp [chgs]
theorem chgs_size {zs bs : List Int} : ∀ c ∈ chgs zs bs, c.dt.size = 128 := by
  intro c hc
  obtain ⟨i, _, rfl⟩ := List.mem_map.1 hc
  exact fillS_size _
theorem chgs_fit {zs bs : List Int} (hz : ∀ z ∈ zs, Fit z) : ∀ c ∈ chgs zs bs, c.fit := by
  intro c hc
  obtain ⟨i, hi, rfl⟩ := List.mem_map.1 hc
  have hi' := List.mem_range.1 hi
  have e : zs.getD i 0 = zs[i] := by simp [List.getD, hi']
  refine ⟨by show (fillS _).size ≤ _; rw [fillS_size]; omega, ?_⟩
  show Fit (zs.getD i 0)
  rw [e]; exact hz _ (List.getElem_mem hi')
/-- a batch, as a value. -/
def batV (A : Option Addr) (n c : Nat) (A2 : Option Addr) (n2 c2 : Nat) : Value := .agg #[.slice A n c, .slice A2 n2 c2]

set_option maxRecDepth 100000 in
set_option maxHeartbeats 4000000 in
theorem changes_any (A A2 : Option Addr) (n c n2 c2 B : Nat) (zs bs : List Int) (w : World) (hA : IntsAt w B A n zs) (hA2 : BysAt w B A2 n2 bs) (hB : B ≤ w.heap.size) (hn : n ≤ 50000000) :
    Calls Try.prog 12 #[batV A n c A2 n2 c2] w (RetOwnC w (chgs zs bs)) := by
  have hbox0 : (w.alloc (.cells #[.slice A n c, .slice A2 n2 c2] 38)).cell? ⟨w.heap.size, 0, none⟩ = some (.slice A n c) := cell_new w _ 38 0 rfl
  have hbox1 : (w.alloc (.cells #[.slice A n c, .slice A2 n2 c2] 38)).cell? ⟨w.heap.size, 1, none⟩ = some (.slice A2 n2 c2) := cell_new w _ 38 1 rfl
  obtain ⟨W0, hW0⟩ : ∃ W0, W0 = w.alloc (.cells #[.slice A n c, .slice A2 n2 c2] 38) := ⟨_, rfl⟩
  rw [← hW0] at hbox0 hbox1
  have HZ0 : Hid (W0.heap.size = w.heap.size + 1) := by show _ = _; rw [hW0]; simp
  have HB0 : Hid (Below w.heap.size w W0) := by rw [hW0]; exact (Below.refl _ _).alloc (Nat.le_refl _) _
  have HA := Lib.hid (hA.keep (w' := W0) fun p hp => by rw [hW0]; exact ((Below.refl w.heap.size w).alloc (Nat.le_refl _) _).cell (by omega))
  have HA2 := Lib.hid (hA2.keep (w' := W0) fun p hp => by rw [hW0]; exact ((Below.refl w.heap.size w).alloc (Nat.le_refl _) _).cell (by omega))
  have HLZ : Hid (zs.length = n) := hA.len
  have HLB : Hid (bs.length = n2) := hA2.1
  have HQ0 := Lib.hid hbox0
  have HQ1 := Lib.hid hbox1
  have HCK : Hid (∀ k, k < n → (chgs zs bs).take k ++ [⟨zs.getD k 0, fillS (fillX bs k)⟩] = (chgs zs bs).take (k + 1)) := fun k hk => chgs_take (by rw [HLZ.out]; exact hk)
  have HCL : Hid ((chgs zs bs).length = n) := by show _ = _; rw [chgs_len, HLZ.out]
  have HX1 : Hid (∀ k, k < n2 → fillX bs k = bs.getD k 0) := fun k hk => by unfold fillX; rw [if_pos (by rw [HLB.out]; exact hk)]
  have HX2 : Hid (∀ k, ¬ k < n2 → fillX bs k = (k : Int) % 256) := fun k hk => by unfold fillX; rw [if_neg (by rw [HLB.out]; exact hk)]
  generalize chgs zs bs = cl at *
  clear hA hA2 hbox0 hbox1
  unfold batV
  go_enter Try.func12, Try.ntmps12
  go_wp2
  rw [← hW0]
  have HW0 := Lib.hid hW0
  clear hW0
  go_loopw [3, 4, 5] (fun v j _ wr => ∃ k : Nat, k ≤ n ∧ j = .int .i64 (k : Int) ∧ wr.ownsRow (w.heap.size + 1) 58 2 v (cl.take k).length (chsCells (cl.take k)) ∧ Below (w.heap.size + 1) W0 wr) (fun _ j _ _ => n - (intOf j).toNat)
  case atStart => exact ⟨0, by omega, rfl, World.ownsRow_nil _ _ _ _, Below.refl _ _⟩
  case round =>
    obtain ⟨k, hk, rfl, hu, hb⟩ := hrel
    have q0 := bcell hb HQ0.out (by show w.heap.size < _; omega)
    have q1 := bcell hb HQ1.out (by show w.heap.size < _; omega)
    have HB := Lib.hid hb
    have HU := Lib.hid hu
    have HB1 : Hid (w.heap.size + 1 ≤ wr.heap.size) := by show _ ≤ _; rw [← HZ0.out]; exact hb.size
    by_cases h1 : k < n
    · have hlt : (k : Int) < (n : Int) := by omega
      have x0 : (0 : Int) ≤ (k : Int) := by omega
      obtain ⟨b, o, rfl, hbB, e0⟩ := HA.out.at_ h1
      have d0 := bcell hb e0 (by show b < _; omega)
      have HBL : Hid (b < wr.heap.size) := by have := HB1.out; show _ < _; omega
      have HTL : Hid ((cl.take k).length ≤ 50000000) := by show _ ≤ _; rw [List.length_take, HCL.out]; omega
      have HNX := Lib.hid (HCK.out k h1)
      by_cases h2 : k < n2
      · have hlt2 : (k : Int) < (n2 : Int) := by omega
        obtain ⟨b3, o3, rfl, hb3, e1⟩ := HA2.out.2.2 k h2
        have d1 := bcell hb e1 (by show b3 < _; omega)
        have hx := HA2.out.bd k
        rw [HX1.out k h2] at HNX
        generalize bs.getD k 0 = x at *
        generalize zs.getD k 0 = z at *
        generalize cl.take k = tk at *
        clear hu hb e0 e1 HCK HX1 HX2
        have c0d : wr.drew.cell? ⟨w.heap.size, 0, none⟩ = some (.slice (some ⟨b, o, none⟩) n c) := q0
        have z0d : wr.drew.cell? ⟨b, o + k, none⟩ = some (.int .i64 z) := d0
        have HUd := Lib.hid (drew_own HU.out)
        have HBd : Hid (Below (w.heap.size + 1) W0 wr.drew) := Below.drew HB.out
        have HLT : Hid (b < wr.drew.heap.size) := HBL.out
        have HLQ : Hid (w.heap.size < wr.drew.heap.size) := Nat.lt_of_lt_of_le (Nat.lt_succ_self _) HB1.out
        go_wp2_with fail
        go_region_law (first
          | (refine step_pushC rfl (.tmp 25) (.tmp 34) rfl (w.heap.size + 1) w7 _ tk z (fillS x) (by simp [Act.eval]) (by simp [Act.eval]) HU7.out (by have := HTL.out; omega) HS7.out ?_
             intro u8 w8 ho8 hg8)
          | (go_simp; go_at_call 26; refine (fill_any x _ hx).mono ?_
             rintro e w7 ⟨rfl, b7⟩
             have c7 := bcell b7 c0d HLQ.out
             have z7 := bcell b7 z0d HLT.out
             have HU7 := Lib.hid (own_below HUd.out b7 (Nat.le_refl _))
             have HS7 : Hid (w.heap.size + 1 ≤ w7.heap.size) := Nat.le_trans HB1.out b7.size
             have HB7 := Lib.hid (HBd.out.trans (b7.mono HB1.out))))
        all_goals
          have HB8 := Lib.hid ((HB7.out.alloc HS7.out (.cells #[.int .i64 z, .string (fillS x)] 58)).grown hg8 (Nat.le_trans HS7.out (by simp)) (fun q hq => (HU7.out.lt q hq).1))
          have HU8 := Lib.hid ho8
          rw [HNX.out] at HU8
          clear ho8 hg8
          go_wp2
          go_roundw
          case rel => exact ⟨k + 1, h1, by push_cast; rfl, HU8.out, HB8.out⟩
          case measure => simp only [intOf]; omega
      · have hlt2 : ¬ (k : Int) < (n2 : Int) := by omega
        rw [HX2.out k h2] at HNX
        have hx : 0 ≤ (k : Int) % 256 ∧ (k : Int) % 256 ≤ 255 := by omega
        have hwx : IntKind.u8.wrap (k : Int) = (k : Int) % 256 := by rw [IntKind.wrap_u8]
        generalize (k : Int) % 256 = x at *
        generalize zs.getD k 0 = z at *
        generalize cl.take k = tk at *
        clear hu hb e0 HCK HX1 HX2
        have c0d : wr.drew.cell? ⟨w.heap.size, 0, none⟩ = some (.slice (some ⟨b, o, none⟩) n c) := q0
        have z0d : wr.drew.cell? ⟨b, o + k, none⟩ = some (.int .i64 z) := d0
        have HUd := Lib.hid (drew_own HU.out)
        have HBd : Hid (Below (w.heap.size + 1) W0 wr.drew) := Below.drew HB.out
        have HLT : Hid (b < wr.drew.heap.size) := HBL.out
        have HLQ : Hid (w.heap.size < wr.drew.heap.size) := Nat.lt_of_lt_of_le (Nat.lt_succ_self _) HB1.out
        go_wp2_with fail
        go_region_law (first
          | (refine step_pushC rfl (.tmp 25) (.tmp 34) rfl (w.heap.size + 1) w7 _ tk z (fillS x) (by simp [Act.eval]) (by simp [Act.eval]) HU7.out (by have := HTL.out; omega) HS7.out ?_
             intro u8 w8 ho8 hg8)
          | (go_simp; go_at_call 26; refine (fill_any x _ hx).mono ?_
             rintro e w7 ⟨rfl, b7⟩
             have c7 := bcell b7 c0d HLQ.out
             have z7 := bcell b7 z0d HLT.out
             have HU7 := Lib.hid (own_below HUd.out b7 (Nat.le_refl _))
             have HS7 : Hid (w.heap.size + 1 ≤ w7.heap.size) := Nat.le_trans HB1.out b7.size
             have HB7 := Lib.hid (HBd.out.trans (b7.mono HB1.out))))
        all_goals
          have HB8 := Lib.hid ((HB7.out.alloc HS7.out (.cells #[.int .i64 z, .string (fillS x)] 58)).grown hg8 (Nat.le_trans HS7.out (by simp)) (fun q hq => (HU7.out.lt q hq).1))
          have HU8 := Lib.hid ho8
          rw [HNX.out] at HU8
          clear ho8 hg8
          go_wp2
          go_roundw
          case rel => exact ⟨k + 1, h1, by push_cast; rfl, HU8.out, HB8.out⟩
          case measure => simp only [intOf]; omega
    · have hnlt : ¬ (k : Int) < (n : Int) := by omega
      have e : k = n := by omega
      have e2 : cl.take k = cl := by rw [e, ← HCL.out, List.take_length]
      rw [e2] at hu
      have HU2 : Hid (wr.ownsRow w.heap.size 58 2 _ cl.length (chsCells cl)) := ⟨hu.1, by
        rcases hu.2 with h | ⟨g, cap, cur, h1, h2, h3⟩
        · exact Or.inl h
        · exact Or.inr ⟨g, cap, cur, h1, by omega, h3⟩⟩
      have HB2 : Hid (Below w.heap.size w wr) := HB0.out.trans (hb.mono (by omega))
      clear hu hb e e2
      go_wp2
      go_ret
      exact ⟨_, rfl, HU2.out, HB2.out⟩
end Go.Proofs.Ytpljifeebbeakaa
