/-
  WALKS: Write and Read of a slab. Conditions: strings of at most 9223372036854775807 bytes; fewer than 1000000 calls so far.
-/
import Derived.Test.YtpljifeebbeakaaSPad
namespace Go.Proofs.Ytpljifeebbeakaa.Sl
open Go.RowKit Go.Maps

/-- does a Write of these bytes to this block say no (ErrArg)? -/
def St.fits (σ : St) (i : Int) (s : ByteArray) : Bool := decide (s.size ≤ 128) && σ.has i
/-- a block is loose. -/
def St.put (σ : St) (i : Int) (s : ByteArray) : St := { σ with loose := fun j => if j = i then some s else σ.loose j }
def St.write (σ : St) (i : Int) (s : ByteArray) : St := if σ.halted = true then σ.tick else (if σ.fits i s = true then σ.tick.put i (padS s 128) else σ.tick)
def St.writeE (σ : St) (i : Int) (s : ByteArray) : Int := if σ.halted = true then 14 else (if σ.fits i s = true then 0 else 1)

theorem St.tick_has (σ : St) (i : Int) : σ.tick.has i = σ.has i := rfl

theorem SlabAt.stored {w w' : World} {p pd pm : Nat} {σ : St} {n : Nat} (h : SlabAt w p pd pm σ) {D : DataW Unit} {i : Int} {s : ByteArray} (hL : ∀ j, lk D j = σ.loose j) (hM : IsMap D) (hD : w'.ownsMap Try.prog 3 pendElem pm n (D.put (.int .i64 i) (.lit (.string s.data.toList)))) 
    (ht : w.mapTurned w' pm) (hi : σ.has i = true) : SlabAt w' p pd pm (σ.put i s) ∧ Turns [pm] w w' := by
  have hg := ht.grown
  have ht' : Turns [pm] w w' := Turns.of_grown hg (by intro j e; cases e; simp)
  have h1 := h.ne_mp
  have h2 := h.ne_md
  have hput : ∀ j, lk (D.put (.int .i64 i) (.lit (.string s.data.toList))) j = (σ.put i s).loose j := fun j => by rw [lk_put hM]; simp only [St.put, hL]
  have hok : ∀ j, (σ.put i s).loose j ≠ none → 0 ≤ j ∧ j < (σ.dur.length : Int) := by
    intro j hj
    by_cases e : j = i
    · subst e
      unfold St.has at hi
      simp at hi
      exact hi
    · simp only [St.put, if_neg e] at hj
      exact h.ok j hj
  exact ⟨⟨(ht'.block p h.lt_p (by simp; exact fun e => h1 e.symm)).trans h.hp, (ht'.block pd h.lt_d (by simp; exact fun e => h2 e.symm)).trans h.hd, ⟨_, own_tight hD (fun j hj => hok j (by rw [← hput]; exact hj)) h.len, hput⟩, hok, h.len, h.ne⟩, ht'⟩

set_option maxHeartbeats 1000000 in
theorem write_any (p pd pm : Nat) (σ : St) (i : Int) (s : ByteArray) (w : World) (h : SlabAt w p pd pm σ) (hc : σ.calls < 1000000) (hi : -9223372036854775808 ≤ i ∧ i ≤ 9223372036854775807) (hs : s.size ≤ 9223372036854775807) :
    Calls Try.prog 50 #[.pointer (some ⟨p, 0, none⟩), .int .i64 i, .string s] w fun e w' => e = .returned (.int .i64 (σ.writeE i s)) ∧ SlabAt w' p pd pm (σ.write i s) ∧ Turns [p, pd, pm] w w' := by
  have HC := Lib.hid (count_any p pd pm σ w h hc)
  clear h
  cases hh : σ.halted with
  | true =>
    have H1 : Hid (σ.writeE i s = 14) := by show _ = _; unfold St.writeE; rw [if_pos hh]
    have H2 : Hid (σ.write i s = σ.tick) := by show _ = _; unfold St.write; rw [if_pos hh]
    have HH := Lib.hid hh
    clear hh
    go_enter Try.func50, Try.ntmps50
    go_wp2_with (go_at_call 64; refine HC.out.mono ?_; rintro e w1 ⟨rfl, h1, t1⟩; rw [HH.out])
    go_ret
    exact ⟨by rw [H1.out]; rfl, by rw [H2.out]; exact h1, t1.mono (by simp)⟩
  | false =>
    by_cases hz : s.size ≤ 128
    · have HP : Hid (padR s 128 = (padS s 128, 0)) := padR_ok (by omega) (by omega)
      cases hb : σ.has i with
      | true =>
        have hf : σ.fits i s = true := by unfold St.fits; rw [hb]; simpa using hz
        have H1 : Hid (σ.writeE i s = 0) := by show _ = _; unfold St.writeE; rw [hh, hf]; rfl
        have H2 : Hid (σ.write i s = σ.tick.put i (padS s 128)) := by show _ = _; unfold St.write; rw [hh, hf]; rfl
        have HH := Lib.hid hh
        have HB := Lib.hid hb
        clear hh hb hf
        go_enter Try.func50, Try.ntmps50
        go_wp2_with fail
        refine HC.out.mono ?_
        rintro e w1 ⟨rfl, h1, t1⟩
        rw [HH.out]
        go_wp2_with fail
        refine (pad_any s 128 w1 hs (by omega)).mono ?_
        rintro e w2 ⟨rfl, b2⟩
        rw [HP.out]
        have t2 : Turns [] w1 w2 := Turns.of_below _ b2
        have h2 := h1.keptB t2
        have c1 := h2.c1
        generalize padS s 128 = S at *
        have H2' := Lib.hid h2
        obtain ⟨D, hD0, hL⟩ := h2.hm
        have HL := Lib.hid hL
        have HD := Lib.hid hD0
        clear h2 hL h1 hD0
        have hkey := key_i64 hi
        go_wp2_with (first
          | (go_at_call 40; refine (has_any p pd pm σ.tick i w2 H2'.out).mono ?_; rintro e w3 ⟨rfl, rfl⟩; rw [St.tick_has, HB.out])
          | (at_mapUpdate; refine wpList_mapUpdate_in _ rfl _ _ _ 62 rfl 3 76 law3 Try.underlying62 _ pm 1000 D rfl HD.out (by unfold maxLen; omega) _ _ _ rfl rfl hkey _ [] (pendElem_mk S) ?_; intro w4 hown4 hturn4)
          | go_in)
        go_ret
        obtain ⟨h4, t4⟩ := H2'.out.stored HL.out HD.out.isMap hown4 hturn4 (by rw [St.tick_has]; exact HB.out)
        exact ⟨by rw [H1.out]; rfl, by rw [H2.out]; exact h4, ((t1.mono (by simp)).trans (t2.mono (by simp))).trans (t4.mono (by simp))⟩
      | false =>
        have hf : σ.fits i s = false := by unfold St.fits; rw [hb]; simp
        have H1 : Hid (σ.writeE i s = 1) := by show _ = _; unfold St.writeE; rw [hh, hf]; rfl
        have H2 : Hid (σ.write i s = σ.tick) := by show _ = _; unfold St.write; rw [hh, hf]; rfl
        have HH := Lib.hid hh
        have HB := Lib.hid hb
        clear hh hb hf
        go_enter Try.func50, Try.ntmps50
        go_wp2_with fail
        refine HC.out.mono ?_
        rintro e w1 ⟨rfl, h1, t1⟩
        rw [HH.out]
        go_wp2_with fail
        refine (pad_any s 128 w1 hs (by omega)).mono ?_
        rintro e w2 ⟨rfl, b2⟩
        rw [HP.out]
        have t2 : Turns [] w1 w2 := Turns.of_below _ b2
        have h2 := h1.keptB t2
        generalize padS s 128 = S at *
        have H2' := Lib.hid h2
        clear h2 h1
        go_wp2_with (go_at_call 40; refine (has_any p pd pm σ.tick i w2 H2'.out).mono ?_; rintro e w3 ⟨rfl, rfl⟩; rw [St.tick_has, HB.out])
        go_ret
        exact ⟨by rw [H1.out]; rfl, by rw [H2.out]; exact H2'.out, (t1.mono (by simp)).trans (t2.mono (by simp))⟩
    · have HP : Hid (padR s 128 = (⟨#[]⟩, 3)) := padR_range (by omega) (by omega)
      have hf : σ.fits i s = false := by unfold St.fits; simp [hz]
      have H1 : Hid (σ.writeE i s = 1) := by show _ = _; unfold St.writeE; rw [hh, hf]; rfl
      have H2 : Hid (σ.write i s = σ.tick) := by show _ = _; unfold St.write; rw [hh, hf]; rfl
      have HH := Lib.hid hh
      clear hh hf
      go_enter Try.func50, Try.ntmps50
      go_wp2_with fail
      refine HC.out.mono ?_
      rintro e w1 ⟨rfl, h1, t1⟩
      rw [HH.out]
      go_wp2_with fail
      refine (pad_any s 128 w1 hs (by omega)).mono ?_
      rintro e w2 ⟨rfl, b2⟩
      rw [HP.out]
      have t2 : Turns [] w1 w2 := Turns.of_below _ b2
      have h2 := Lib.hid (h1.keptB t2)
      clear h1
      go_wp2
      go_ret
      exact ⟨by rw [H1.out]; rfl, by rw [H2.out]; exact h2.out, (t1.mono (by simp)).trans (t2.mono (by simp))⟩

set_option maxHeartbeats 1000000 in
theorem write_nil (i : Int) (s : ByteArray) (w : World) : Calls Try.prog 50 #[.pointer none, .int .i64 i, .string s] w fun e w' => e = .returned (.int .i64 1) ∧ w = w' := by
  go_enter Try.func50, Try.ntmps50
  go_wp2
  go_ret
  exact ⟨rfl, rfl⟩
end Go.Proofs.Ytpljifeebbeakaa.Sl
