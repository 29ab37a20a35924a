/-
  WALKS: Read and Image of a slab. No condition.
-/
import Derived.Test.YtpljifeebbeakaaSWrite
import Derived.Maps.OwnSet
namespace Go.Proofs.Ytpljifeebbeakaa.Sl
open Go.RowKit Go.Maps

section
variable (w : World) {ops : Array Oper} {rest : List Oper} {o : Oper} {a : Act} {Q : Exit → Act → World → Prop}

theorem wpList_lookup_pend_ok (hg : o.guard = none) (m x : Operand) (hop : o.op = Op.lookup 62 m x true) (b n : Nat) (D : DataW Unit)
    (hm : a.eval m = .map (some b)) (hown : w.ownsMap Try.prog 3 pendElem b n D) (i : Int) (hx : a.eval x = .int .i64 i) (hi : -9223372036854775808 ≤ i ∧ i ≤ 9223372036854775807) (r : Option ByteArray) (hr : lk D i = r)
    (hK : wpList Try.prog ops Q rest (a.put o.dst (.tuple #[.agg #[.string (r.getD ⟨#[]⟩)], .bool r.isSome])) w) : wpList Try.prog ops Q (o :: rest) a w :=
  wpList_lookup_own_ok w hg m x 62 hop 3 76 law3 Try.underlying62 pendElem (zero60 w) (.lit (.string [])) [] rfl b n D hm hown _ _ hx (key_i64 hi) (fun v ps hv => by
    rw [look_pend hown hv, ← lk_has, hr]
    exact hK)

theorem wpList_lookup_pend (hg : o.guard = none) (m x : Operand) (hop : o.op = Op.lookup 62 m x false) (b n : Nat) (D : DataW Unit)
    (hm : a.eval m = .map (some b)) (hown : w.ownsMap Try.prog 3 pendElem b n D) (i : Int) (hx : a.eval x = .int .i64 i) (hi : -9223372036854775808 ≤ i ∧ i ≤ 9223372036854775807) (r : Option ByteArray) (hr : lk D i = r)
    (hK : wpList Try.prog ops Q rest (a.put o.dst (.agg #[.string (r.getD ⟨#[]⟩)])) w) : wpList Try.prog ops Q (o :: rest) a w := by
  refine wpList_plain hg fun K' hK' => ?_
  obtain ⟨v, ps, hrun, hv⟩ := hown.lookup law3 Try.underlying62 (zero60 w) (show pendElem _ = some (.lit (.string []), []) from rfl) (key_i64 hi)
  rw [look_pend hown hv, hr] at hrun
  unfold Oper.wp
  simp [execOp, hop, hm, hx, hrun, Result.andThen]
  exact hK' _ _ hK
end

/-- a block as it reads. -/
def St.at (σ : St) (k : Nat) : ByteArray := (σ.loose k).getD (σ.dur.getD k ⟨#[]⟩)
def St.read (σ : St) (i : Int) : ByteArray := if σ.has i = true then σ.at i.toNat else ⟨#[]⟩

theorem has_nat {σ : St} {i : Int} (h : σ.has i = true) : ∃ k : Nat, i = k ∧ k < σ.dur.length := by
  unfold St.has at h
  simp at h
  exact ⟨i.toNat, by omega, by omega⟩

set_option maxHeartbeats 1000000 in
theorem read_any (p pd pm : Nat) (σ : St) (i : Int) (w : World) (h : SlabAt w p pd pm σ) :
    Calls Try.prog 29 #[.pointer (some ⟨p, 0, none⟩), .int .i64 i] w fun e w' => e = .returned (.string (σ.read i)) ∧ Below w.heap.size w w' := by
  have HA := Lib.hid (has_any p pd pm σ i w h)
  cases hb : σ.has i with
  | false =>
    have HR : Hid (σ.read i = ⟨#[]⟩) := by show _ = _; unfold St.read; rw [hb]; rfl
    have HB := Lib.hid hb
    clear hb h
    go_enter Try.func29, Try.ntmps29
    go_wp2_with (go_at_call 40; refine HA.out.mono ?_; rintro e w3 ⟨rfl, rfl⟩; rw [HB.out])
    go_ret
    exact ⟨by rw [HR.out]; rfl, Below.refl _ _⟩
  | true =>
    obtain ⟨k, rfl, hk⟩ := has_nat hb
    have hkl := h.len
    have hR : σ.read (k : Int) = (σ.loose k).getD (σ.dur.getD k ⟨#[]⟩) := by unfold St.read; rw [hb, if_pos rfl]; simp [St.at]
    have HB := Lib.hid hb
    have c0 := h.c0
    have c1 := h.c1
    have hd := h.d hk
    obtain ⟨D, hD, hL⟩ := h.hm
    have HD := Lib.hid hD
    have hl := hL k
    cases hs : σ.loose k with
    | none =>
      rw [hs] at hR hl
      have HR := Lib.hid hR
      have HLK := Lib.hid hl
      rw [Option.getD_none] at HR
      have hda : (w.alloc (.cells #[.string ⟨#[]⟩] 76)).cell? ⟨pd, k, none⟩ = some (.string (σ.dur.getD k ⟨#[]⟩)) := (World.cell?_alloc_lt w _ _ h.lt_d).trans hd
      have c0a : (w.alloc (.cells #[.string ⟨#[]⟩] 76)).cell? ⟨p, 0, none⟩ = _ := (World.cell?_alloc_lt w _ _ h.lt_p).trans c0
      generalize σ.dur.getD k ⟨#[]⟩ = R at *
      clear hb h hD hL hl hR hs
      go_enter Try.func29, Try.ntmps29
      go_wp2_with (first
        | (go_at_call 40; refine HA.out.mono ?_; rintro e w3 ⟨rfl, rfl⟩; rw [HB.out])
        | (at_lookup; refine wpList_lookup_pend_ok _ rfl _ _ rfl pm 1000 D rfl HD.out _ rfl (by omega) none HLK.out ?_)
        | go_in)
      go_ret
      exact ⟨by rw [HR.out]; rfl, (Below.refl _ _).alloc (Nat.le_refl _) _⟩
    | some s =>
      rw [hs] at hR hl
      have HR := Lib.hid hR
      have HLK := Lib.hid hl
      rw [Option.getD_some] at HR
      clear hb h hD hL hl hR hs
      go_enter Try.func29, Try.ntmps29
      go_wp2_with (first
        | (go_at_call 40; refine HA.out.mono ?_; rintro e w3 ⟨rfl, rfl⟩; rw [HB.out])
        | (at_lookup; refine wpList_lookup_pend_ok _ rfl _ _ rfl pm 1000 D rfl HD.out _ rfl (by omega) (some s) HLK.out ?_)
        | go_in)
      go_ret
      exact ⟨by rw [HR.out]; rfl, (Below.refl _ _).alloc (Nat.le_refl _) _⟩

set_option maxHeartbeats 1000000 in
theorem read_nil (i : Int) (w : World) : Calls Try.prog 29 #[.pointer none, .int .i64 i] w fun e w' => e = .returned (.string ⟨#[]⟩) ∧ w = w' := by
  go_enter Try.func29, Try.ntmps29
  go_wp2_with (go_at_call 40; refine (has_nil i w).mono ?_; rintro e w3 ⟨rfl, rfl⟩)
  go_ret
  exact ⟨rfl, rfl⟩
end Go.Proofs.Ytpljifeebbeakaa.Sl
