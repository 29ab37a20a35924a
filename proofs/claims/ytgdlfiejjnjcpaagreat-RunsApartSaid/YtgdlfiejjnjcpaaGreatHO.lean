/-
  WORDS for the laws of runs: a file in a box of a card, a slice that a deal doesn't touch; Used of a file's lists. No condition.
-/
import Derived.Test.YtgdlfiejjnjcpaaGreatHN
import Derived.Test.YtgdlfiejjnjcpaaGreatHM
import Derived.Test.YtgdlfiejjnjcpaaGreatFQ
import Derived.Test.YtgdlfiejjnjcpaaGreatBG
set_option linter.unusedVariables false
set_option linter.unusedSimpArgs false
set_option maxRecDepth 100000
set_option maxHeartbeats 8000000
namespace Go.Proofs.YtgdlfiejjnjcpaaGreat.Dl
open Go.RowKit
open Mk
open Sl (Turns SlabAt)
open Kr (I64)

abbrev cbox (cb : Nat) (A : Option Addr) (n kp : Nat) (zs : List Int) (ov : Int) : Nat × Array Value × TypeId := (cb, cells9 (mkC zs ov) none 0 0 A n kp, 30)
/-- the form of a slice of one's own. -/
theorem own_form {w : World} {base n sz : Nat} {v : Value} {xs : List Value} {e : TypeId} (h : w.ownsRow base e sz v n xs) : ∃ A c, v = .slice A n c ∧ n ≤ c ∧ (A = none ∨ ∃ b o, A = some ⟨b, o, none⟩) := by
  rcases h.2 with ⟨rfl, h0⟩ | ⟨g, cap, cur, rfl, h1, h2, h3, _⟩
  · exact ⟨none, 0, by rw [h0], by omega, .inl rfl⟩
  · exact ⟨_, _, rfl, h3, .inr ⟨g, 0, rfl⟩⟩
theorem tags_ne {w : World} {E : Bxs} {X : Nat} {cs : Array Value} (hE : Bxs.fit E w) (hg : ∀ y ∈ E, y.2.2 = 85) (hx : w.heap[X]? = some (.cells cs 30 (0, 0))) : ∀ y ∈ E, y.1 ≠ X := fun y hy => tag_ne (hE y hy).1 hx (by rw [hg y hy]; decide)
theorem need6 {b : Nat} (hb : b ≤ 400) {zs : List Int} (h : ptsOk b zs = true) (hs : smB zs = true) (hl : zs.length ≤ 65536) : need zs ≤ 6 := need_le (of_right hb h hs hl)
theorem crow_mem {w : World} {F : Bxs} {cb : Nat} {x : Cd} {A : Option Addr} {n k : Nat} {A' : Option Addr} {n' k' : Nat} (h : Bxs.fit F w) (h2 : (cb, cells9 x A n k A' n' k', (30 : TypeId)) ∈ F) : CdRow w cb x A n k A' n' k' := (h _ h2).1
theorem whole_ints {w : World} {g : Nat} {ms : List Int} (h : MRow w g (whole ms)) : IntsAt w w.heap.size (some ⟨g, 0, none⟩) 120 (whole ms) := by
  have := h.ints
  rwa [whole_len] at this
theorem row_ints {w : World} {g : Nat} {l : List Int} (h : Lg.IntRow w g l) (hf : ∀ z ∈ l, Fit z) (hn : l.length = 120) : IntsAt w w.heap.size (some ⟨g, 0, none⟩) 120 l := by
  have := h.ints hf h.lt
  rwa [hn] at this
theorem whole_fit {b : Nat} (hb : b ≤ 400) {ms : List Int} (h : ptsOk b ms = true) : ∀ z ∈ whole ms, Fit z := fun z hz => by
  obtain ⟨j, hj, rfl⟩ := List.getElem_of_mem hz
  have hl := whole_len ms
  rw [show (whole ms)[j] = (whole ms).getD j 0 by simp [List.getD, List.getElem?_eq_getElem hj], whole_get ms j (by omega)]
  rcases getD_or ms j with e | e
  · rw [e]; unfold Fit; omega
  · exact pts_fit (by omega) h _ e
section
variable {w0 w w' : World} {B d q p pd pm k c : Nat} {E F : Bxs} {N : Nat} {D V : List ByteArray} {b : Nat} {m : ByteArray}
/-- the box of a card is written whole. -/
theorem Dk.put9H {cb : Nat} {x y : Cd} {A A2 : Option Addr} {n kp n2 k2 : Nat} {A' A2' : Option Addr} {n' k' n2' k2' : Nat} (h : Dk w0 w B d q p pd pm k c ((cb, cells9 x A n kp A' n' k', 30) :: F) N D V) (hj : B ≤ cb) (hne : ∀ z ∈ F, z.1 ≠ cb) : Dk w0 (put9 w cb y A2 n2 k2 A2' n2' k2') B d q p pd pm k c ((cb, cells9 y A2 n2 k2 A2' n2' k2', 30) :: F) N D V := by
  have hr : CdRow w cb x A n kp A' n' k' := h.box
  have h1 := h.drop.turns (put9_turns w cb y A2 n2 k2 A2' n2' k2') (fun j' hj' => by
    rw [List.mem_singleton] at hj'
    subst hj'
    exact ⟨hj, ⟨_, 30, hr, by decide, by decide⟩, hne⟩)
  exact h1.add (show _ = _ from put9_row hr) (by decide)
/-- a slice of ints that lies in blocks of E. -/
def KpI (E : Bxs) (v : Value) (l : List Int) : Prop := ∃ A cp, v = .slice A l.length cp ∧ l.length ≤ cp ∧ (A = none ∨ ∃ b o, A = some ⟨b, o, none⟩) ∧ ∀ W, Bxs.fit E W → IntsAt W W.heap.size A l.length l
theorem KpI.nil : KpI [] (.slice none 0 0) [] := ⟨none, 0, rfl, Nat.le_refl _, .inl rfl, fun W _ => Lg.IntsAt.nil _ _ _⟩
theorem KpI.of_own {base : Nat} {v : Value} {l : List Int} (h : w.ownsRow base 3 1 v l.length (Lg.ints l)) (hf : ∀ z ∈ l, Fit z) : ∃ E : Bxs, Bxs.fit E w ∧ (∀ x ∈ E, base ≤ x.1) ∧ KpI E v l := by
  obtain ⟨E, h1, h2, h3⟩ := own_fr h
  obtain ⟨A, cp, rfl, hc, hA⟩ := own_form h
  exact ⟨E, h1, h2, A, cp, rfl, hc, hA, fun W hW => Lg.IntsAt.of_own (h3 W hW) rfl hf⟩
theorem KpI.mono {v : Value} {l : List Int} (h : KpI E v l) (hs : ∀ x ∈ E, x ∈ F) : KpI F v l := by
  obtain ⟨A, cp, h1, h2, hA, h3⟩ := h
  exact ⟨A, cp, h1, h2, hA, fun W hW => h3 W (hW.sub hs)⟩
theorem diff_fit (h : Dk w0 w B d q p pd pm k c F N D V) : ∀ z ∈ diffL V D, Fit z := fun z hz => by
  unfold diffL at hz
  obtain ⟨i, hi, rfl⟩ := List.mem_map.1 hz
  have h1 := List.mem_range.1 (List.mem_filter.1 hi).1
  have h2 := h.lenV
  have h3 := h.most
  unfold Fit
  omega
theorem used_fl (h : Dk w0 w B d q p pd pm k c F N D V) (hc : Crd V b m) {zs L : List Int} {ov : Int} (hf : FlAt V b m zs ov L) (t : Nat) (ht : t < L.length) :
    Calls Tryz.prog 19 #[.pointer (some ⟨d, 0, none⟩), .int .i64 (L.getD t 0)] w fun e w' => e = .returned (.tuple #[.bool true, .int .i64 0]) ∧ Below w.heap.size w w' := by
  have hm : L.getD t 0 ∈ L := by
    rw [show L.getD t 0 = L[t] by simp [List.getD, List.getElem?_eq_getElem ht]]
    exact List.getElem_mem _
  obtain ⟨u1, u2, u3⟩ := hf.fl.us _ hm
  have hb := hf.b2
  have := used_dk (L.getD t 0) h (by unfold I64; omega)
  obtain ⟨i, hi⟩ := Int.eq_ofNat_of_zero_le (show 0 ≤ L.getD t 0 by omega)
  rw [hi] at this u1 u2 u3 ⊢
  obtain ⟨c1, c2⟩ := hc.used (i := i) (by omega) (by omega)
  rw [c1, c2] at this
  rw [Int.toNat_natCast] at u3
  rw [u3] at this
  exact this
end
end Go.Proofs.YtgdlfiejjnjcpaaGreat.Dl
