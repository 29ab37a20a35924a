/-
  WORDS OF MEMORY for the proofs over layer 1: a slice of ints that reads as a list (nil let in), and what keeps it so. No condition.
-/
import Derived.Test.YtpljifeebbeakaaPlain
import Derived.Test.YtpljifeebbeakaaRows
import Derived.WalkKit
import Derived.WalkSpells
import Derived.WalkLawsBesides
import Derived.Lib.Hide
namespace Go.Proofs.Ytpljifeebbeakaa
open Go.RowKit

/-- The slice at A with n elements reads as the numbers zs of an int64, and lies below block B. -/
def IntsAt (w : World) (B : Nat) (A : Option Addr) (n : Nat) (zs : List Int) : Prop :=
  zs.length = n ∧ (∀ z ∈ zs, -9223372036854775808 ≤ z ∧ z ≤ 9223372036854775807) ∧
  ∀ k, k < n → ∃ b o, A = some ⟨b, o, none⟩ ∧ b < B ∧ w.cell? ⟨b, o + k, none⟩ = some (.int .i64 (zs.getD k 0))

theorem IntsAt.len {w : World} {B : Nat} {A : Option Addr} {n : Nat} {zs : List Int} (h : IntsAt w B A n zs) : zs.length = n := h.1
theorem IntsAt.at_ {w : World} {B : Nat} {A : Option Addr} {n : Nat} {zs : List Int} (h : IntsAt w B A n zs) {k : Nat} (hk : k < n) :
    ∃ b o, A = some ⟨b, o, none⟩ ∧ b < B ∧ w.cell? ⟨b, o + k, none⟩ = some (.int .i64 (zs.getD k 0)) := h.2.2 k hk
theorem IntsAt.bd {w : World} {B : Nat} {A : Option Addr} {n : Nat} {zs : List Int} (h : IntsAt w B A n zs) (k : Nat) : -9223372036854775808 ≤ zs.getD k 0 ∧ zs.getD k 0 ≤ 9223372036854775807 := by
  rcases Nat.lt_or_ge k zs.length with hl | hl
  · have := h.2.1 zs[k] (List.getElem_mem hl)
    simpa [List.getD, List.getElem?_eq_getElem hl] using this
  · simp [List.getD, List.getElem?_eq_none hl]
theorem IntsAt.keep {w w' : World} {B : Nat} {A : Option Addr} {n : Nat} {zs : List Int} (h : IntsAt w B A n zs) (hk : ∀ p : Addr, p.block < B → w'.cell? p = w.cell? p) : IntsAt w' B A n zs :=
  ⟨h.1, h.2.1, fun k hkn => by
    obtain ⟨b, o, e, hb, hc⟩ := h.2.2 k hkn
    exact ⟨b, o, e, hb, (hk ⟨b, o + k, none⟩ hb).trans hc⟩⟩
theorem IntsAt.more {w : World} {B B' : Nat} {A : Option Addr} {n : Nat} {zs : List Int} (h : IntsAt w B A n zs) (hB : B ≤ B') : IntsAt w B' A n zs :=
  ⟨h.1, h.2.1, fun k hkn => by
    obtain ⟨b, o, e, hb, hc⟩ := h.2.2 k hkn
    exact ⟨b, o, e, by omega, hc⟩⟩
theorem IntsAt.below {w w' : World} {B C : Nat} {A : Option Addr} {n : Nat} {zs : List Int} (h : IntsAt w B A n zs) (hb : Below C w w') (hBC : B ≤ C) : IntsAt w' B A n zs :=
  h.keep fun _ hp => hb.cell (by omega)
theorem IntsAt.alloc {w : World} {B : Nat} {A : Option Addr} {n : Nat} {zs : List Int} (h : IntsAt w B A n zs) (hB : B ≤ w.heap.size) (o : Obj) : IntsAt (w.alloc o) B A n zs :=
  h.keep fun p hp => World.cell?_alloc_lt w o p (by omega)
theorem getD_get? (zs : List Int) (k : Nat) : zs[k]?.getD 0 = zs.getD k 0 := rfl

end Go.Proofs.Ytpljifeebbeakaa
