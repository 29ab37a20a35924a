/-
  WORDS for the laws of chains: a file in a box of a card, a slice that a deal doesn't touch; Used of a file's lists. No condition.
-/
import Derived.Test.YtppbonjhckakiaaGreatHN
import Derived.Test.YtppbonjhckakiaaGreatHM
import Derived.Test.YtppbonjhckakiaaGreatFQ
import Derived.Test.YtppbonjhckakiaaGreatBG
set_option linter.unusedVariables false
set_option linter.unusedSimpArgs false
set_option maxRecDepth 100000
set_option maxHeartbeats 8000000
namespace Go.Proofs.YtppbonjhckakiaaGreat.Dl
open Go.RowKit
open Mk
open Sl (Turns SlabAt)
open Kr (I64)
open La (OwnLst nilS NewLst DblSt)

abbrev cbox (cb g : Nat) (zs : List Int) (sg db : Int) : Nat × Array Value × TypeId := (cb, cells9 (mkC zs sg db) (some ⟨g, 0, none⟩) 4 4 none 0 0, 30)
section
variable {w0 w w' : World} {B d q p pd pm k c : Nat} {E F : Bxs} {N : Nat} {D V : List ByteArray} {b : Nat} {m : ByteArray}
/-- the box of a card is written whole. -/
theorem Dk.put9H {cb : Nat} {x y : Cd} {A A2 : Option Addr} {n kp n2 k2 : Nat} {A' A2' : Option Addr} {n' k' n2' k2' : Nat} (h : Dk w0 w B d q p pd pm k c ((cb, cells9 x A n kp A' n' k', 30) :: F) N D V) (hj : B ≤ cb) (hne : ∀ z ∈ F, z.1 ≠ cb) : Dk w0 (put9 w cb y A2 n2 k2 A2' n2' k2') B d q p pd pm k c ((cb, cells9 y A2 n2 k2 A2' n2' k2', 30) :: F) N D V := by
  have hr : CdRow w cb x A n kp A' n' k' := h.box
  have h1 := h.drop.turns (put9_turns w cb y A2 n2 k2 A2' n2' k2') (fun j' hj' => by
    rw [List.mem_singleton] at hj'
    subst hj'
    exact ⟨hj, ⟨_, 30, hr, by decide, by decide⟩, hne⟩)
  exact h1.add (show _ = _ from put9_row hr) (by decide)
/-- a slice of ints that lies in blocks of E. -/
def KpI (E : Bxs) (v : Value) (l : List Int) : Prop := ∃ A cp, v = .slice A l.length cp ∧ l.length ≤ cp ∧ ∀ W, Bxs.fit E W → IntsAt W W.heap.size A l.length l
theorem KpI.nil : KpI [] (.slice none 0 0) [] := ⟨none, 0, rfl, Nat.le_refl _, fun W _ => La.IntsAt.nil _ _ _⟩
theorem KpI.of_own {base : Nat} {v : Value} {l : List Int} (h : w.ownsRow base 3 1 v l.length (La.ints l)) (hf : ∀ z ∈ l, La.Fit z) : ∃ E : Bxs, Bxs.fit E w ∧ (∀ x ∈ E, base ≤ x.1) ∧ KpI E v l := by
  obtain ⟨E, h1, h2, h3⟩ := own_fr h
  obtain ⟨A, cp, rfl, hc⟩ := La.own_slice h
  exact ⟨E, h1, h2, A, cp, rfl, hc, fun W hW => La.IntsAt.of_own (h3 W hW) rfl hf⟩
theorem KpI.mono {v : Value} {l : List Int} (h : KpI E v l) (hs : ∀ x ∈ E, x ∈ F) : KpI F v l := by
  obtain ⟨A, cp, h1, h2, h3⟩ := h
  exact ⟨A, cp, h1, h2, fun W hW => h3 W (hW.sub hs)⟩
theorem diff_fit (h : Dk w0 w B d q p pd pm k c F N D V) : ∀ z ∈ diffL V D, La.Fit z := fun z hz => by
  unfold diffL at hz
  obtain ⟨i, hi, rfl⟩ := List.mem_map.1 hz
  have h1 := List.mem_range.1 (List.mem_filter.1 hi).1
  have h2 := h.lenV
  have h3 := h.most
  unfold La.Fit
  omega
theorem used_fl (h : Dk w0 w B d q p pd pm k c F N D V) (hc : Crd V b m) {zs L : List Int} {sg db : Int} (hf : FlAt V b m zs sg db L) (t : Nat) (ht : t < L.length) :
    Calls Tryz.prog 19 #[.pointer (some ⟨d, 0, none⟩), .int .i64 (L.getD t 0)] w fun e w' => e = .returned (.tuple #[.bool true, .int .i64 0]) ∧ Below w.heap.size w w' := by
  have hm : L.getD t 0 ∈ L := by
    rw [show L.getD t 0 = L[t] by simp [List.getD, List.getElem?_eq_getElem ht]]
    exact List.getElem_mem _
  obtain ⟨u1, u2, u3⟩ := hf.fl.us _ hm
  have hb := hf.b2
  have := used_dk (L.getD t 0) h (by unfold I64; omega)
  obtain ⟨i, hi⟩ := Int.eq_ofNat_of_zero_le (show 0 ≤ L.getD t 0 by omega)
  rw [hi] at this u1 u2 u3 ⊢
  obtain ⟨c1, c2⟩ := hc.used (i := i) (by omega) (by omega)
  rw [c1, c2] at this
  rw [Int.toNat_natCast] at u3
  rw [u3] at this
  exact this
end
end Go.Proofs.YtppbonjhckakiaaGreat.Dl
