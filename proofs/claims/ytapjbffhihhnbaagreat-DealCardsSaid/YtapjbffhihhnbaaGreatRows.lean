/-
  No cell of these rows narrows 'for every input' (looked for: loops, veiled, ifaces, maps, wideKeys, modest, calm, conditions, laid).
  DERIVED. THE GIVEN ROWS OF THIS SEAT. 4 by the template 'for every input the law returns true; each argument reads behind the call as it read before'; 0 by the template 'total and deterministic' (their statements: YtapjbffhihhnbaaGreatTotals.lean).
  GIVEN WITH THE SEED: the statements are not yours to turn. If you find one false, say at which input.
  Laid BY PROGRAM, IN A SANDBOX (cutbox-rows.mjs): the forced cells as the released guide's own fill.sh prints them over the translation 7d75a3d4802a0cb8… (all of the seat's roots in one cut). By AI agents, Wed Nov 11 2026. No macro, syntax, notation, axiom, sorry.
-/
import Derived.Test.YtapjbffhihhnbaaGreatChecked
import GoSem.Claim
import GoSem.ClaimJoined
import GoSem.ClaimMapViews
import Derived.JoinedTies
import Derived.KernelRfl
namespace Go.Proofs.YtapjbffhihhnbaaGreat
/- THE CELL 'sum', in the pinned program and in every row, IS THE sha256 OF THE DUMP (.gsa) THAT YtapjbffhihhnbaaGreatProg.lean LOADS. Nothing in Lean hashes anything: it is a label: what it is worth is what the hold of that sum in a sandbox is worth. -/
noncomputable def Tryz.pinned : Pinned := { name := "ytapjbffhihhnbaagreat", sum := "7d75a3d4802a0cb8137aaa2248d261122829c3a0d2709be08a8e24cd113b7e2e", checked := Tryz.checked }
namespace Rows
def none {H : Type} : Left H := { results := [], args := [] }

/-- 'wainwrightlaw12.DealPlays': WHATEVER THE INPUT: true; the input reads as it did. -/
def dealPlaysSpec : ChangeSpec := { name := "dealPlays", fn := fun _ => fun
  | [d1, d2] => { results := [.lit (.bool true)], args := [d1, d2] }
  | _ => none }
def dealPlaysRow : OpenClaim := { program := "ytapjbffhihhnbaagreat", sum := "7d75a3d4802a0cb8137aaa2248d261122829c3a0d2709be08a8e24cd113b7e2e", func := "wainwright/wainwrightlaw12.DealPlays", spec := "dealPlays", inPlace := ["slices.overlaps[wainwright/api.Change]"], unfollowed := true, recurses := true, apart := false }
def DealPlaysSaid : Prop := dealPlaysRow.holds Tryz.pinned (OpenSpec.ofChange dealPlaysSpec)

/-- ITS FALSE NEIGHBOUR: 'it returns false'. Refute it at one input. -/
def dealPlaysWrong : ChangeSpec := { name := "dealPlays", fn := fun _ => fun
  | [d1, d2] => { results := [.lit (.bool false)], args := [d1, d2] }
  | _ => none }
def DealPlaysWrongFalsely : Prop := dealPlaysRow.holds Tryz.pinned (OpenSpec.ofChange dealPlaysWrong)

/-- 'wainwrightlaw12.DealApart': WHATEVER THE INPUT: true; the input reads as it did. -/
def dealApartSpec : ChangeSpec := { name := "dealApart", fn := fun _ => fun
  | [d1, d2] => { results := [.lit (.bool true)], args := [d1, d2] }
  | _ => none }
def dealApartRow : OpenClaim := { program := "ytapjbffhihhnbaagreat", sum := "7d75a3d4802a0cb8137aaa2248d261122829c3a0d2709be08a8e24cd113b7e2e", func := "wainwright/wainwrightlaw12.DealApart", spec := "dealApart", inPlace := ["slices.overlaps[wainwright/api.Change]"], unfollowed := true, recurses := true, apart := false }
def DealApartSaid : Prop := dealApartRow.holds Tryz.pinned (OpenSpec.ofChange dealApartSpec)

/-- ITS FALSE NEIGHBOUR: 'it returns false'. Refute it at one input. -/
def dealApartWrong : ChangeSpec := { name := "dealApart", fn := fun _ => fun
  | [d1, d2] => { results := [.lit (.bool false)], args := [d1, d2] }
  | _ => none }
def DealApartWrongFalsely : Prop := dealApartRow.holds Tryz.pinned (OpenSpec.ofChange dealApartWrong)

/-- 'wainwrightlaw12.DealCards': WHATEVER THE INPUT: true; the input reads as it did. -/
def dealCardsSpec : ChangeSpec := { name := "dealCards", fn := fun _ => fun
  | [d1, d2] => { results := [.lit (.bool true)], args := [d1, d2] }
  | _ => none }
def dealCardsRow : OpenClaim := { program := "ytapjbffhihhnbaagreat", sum := "7d75a3d4802a0cb8137aaa2248d261122829c3a0d2709be08a8e24cd113b7e2e", func := "wainwright/wainwrightlaw12.DealCards", spec := "dealCards", inPlace := ["slices.overlaps[wainwright/api.Change]"], unfollowed := true, recurses := true, apart := false }
def DealCardsSaid : Prop := dealCardsRow.holds Tryz.pinned (OpenSpec.ofChange dealCardsSpec)

/-- ITS FALSE NEIGHBOUR: 'it returns false'. Refute it at one input. -/
def dealCardsWrong : ChangeSpec := { name := "dealCards", fn := fun _ => fun
  | [d1, d2] => { results := [.lit (.bool false)], args := [d1, d2] }
  | _ => none }
def DealCardsWrongFalsely : Prop := dealCardsRow.holds Tryz.pinned (OpenSpec.ofChange dealCardsWrong)

/-- 'wainwrightlaw12.DealNil': WHATEVER THE INPUT: true; the input reads as it did. -/
def dealNilSpec : ChangeSpec := { name := "dealNil", fn := fun _ => fun
  | [d] => { results := [.lit (.bool true)], args := [d] }
  | _ => none }
def dealNilRow : OpenClaim := { program := "ytapjbffhihhnbaagreat", sum := "7d75a3d4802a0cb8137aaa2248d261122829c3a0d2709be08a8e24cd113b7e2e", func := "wainwright/wainwrightlaw12.DealNil", spec := "dealNil", inPlace := ["slices.overlaps[wainwright/api.Change]"], unfollowed := true, recurses := true, apart := false }
def DealNilSaid : Prop := dealNilRow.holds Tryz.pinned (OpenSpec.ofChange dealNilSpec)

/-- ITS FALSE NEIGHBOUR: 'it returns false'. Refute it at one input. -/
def dealNilWrong : ChangeSpec := { name := "dealNil", fn := fun _ => fun
  | [d] => { results := [.lit (.bool false)], args := [d] }
  | _ => none }
def DealNilWrongFalsely : Prop := dealNilRow.holds Tryz.pinned (OpenSpec.ofChange dealNilWrong)

/- THE SECOND FORM. 'bulk': how many values and letters a reading holds, each counted each time it is reached (what is shared counts as often as it is met; a slice's spare places count too). A statement '..UptoSaid' is the law's where the arguments, and the package variables that the reading takes, are together of bulk at most 1048576: NARROWER than '..Said'. Prove '..Said' where nothing that the law and all that it calls make is longer than what came in: it says more and counts as full. Else prove '..UptoSaid'. A law counts once. -/
mutual
def uptoBulk {H : Type} : DataW H → Nat
  | .lit (.string bytes) => bytes.length + 1
  | .lit _ => 1
  | .nil => 1
  | .ptr d => uptoBulk d + 1
  | .slice elems spare => uptoBulkAll elems + uptoBulkAll spare + 1
  | .agg parts => uptoBulkAll parts + 1
  | .iface _ d => uptoBulk d + 1
  | .map entries => uptoBulkEntries entries + 1
  | .held _ => 1
def uptoBulkAll {H : Type} : List (DataW H) → Nat
  | [] => 0
  | d :: r => uptoBulk d + uptoBulkAll r
def uptoBulkEntries {H : Type} : List (Lit × DataW H) → Nat
  | [] => 0
  | x :: r => uptoBulkEntry x + uptoBulkEntries r
def uptoBulkEntry {H : Type} : Lit × DataW H → Nat
  | (.string bytes, d) => bytes.length + uptoBulk d + 1
  | (_, d) => uptoBulk d + 1
 end
def uptoSmall : (H : Type) → List (DataW H) → Bool := fun _ ds => decide (uptoBulkAll ds ≤ 1048576)
def OpenSpec.upto (s : _root_.Go.ChangeSpec) : _root_.Go.OpenSpec := { _root_.Go.OpenSpec.ofChange s with cond := some uptoSmall }

/-- 'wainwrightlaw12.DealPlays', WHERE WHAT IT READS IS OF BULK AT MOST 1048576: true; the input reads as it did. -/
def dealPlaysUptoRow : OpenClaim := { program := "ytapjbffhihhnbaagreat", sum := "7d75a3d4802a0cb8137aaa2248d261122829c3a0d2709be08a8e24cd113b7e2e", func := "wainwright/wainwrightlaw12.DealPlays", spec := "dealPlays", inPlace := ["slices.overlaps[wainwright/api.Change]"], unfollowed := true, recurses := true, apart := false, narrowed := true }
def DealPlaysUptoSaid : Prop := dealPlaysUptoRow.holds Tryz.pinned (OpenSpec.upto dealPlaysSpec)

/-- 'wainwrightlaw12.DealApart', WHERE WHAT IT READS IS OF BULK AT MOST 1048576: true; the input reads as it did. -/
def dealApartUptoRow : OpenClaim := { program := "ytapjbffhihhnbaagreat", sum := "7d75a3d4802a0cb8137aaa2248d261122829c3a0d2709be08a8e24cd113b7e2e", func := "wainwright/wainwrightlaw12.DealApart", spec := "dealApart", inPlace := ["slices.overlaps[wainwright/api.Change]"], unfollowed := true, recurses := true, apart := false, narrowed := true }
def DealApartUptoSaid : Prop := dealApartUptoRow.holds Tryz.pinned (OpenSpec.upto dealApartSpec)

/-- 'wainwrightlaw12.DealCards', WHERE WHAT IT READS IS OF BULK AT MOST 1048576: true; the input reads as it did. -/
def dealCardsUptoRow : OpenClaim := { program := "ytapjbffhihhnbaagreat", sum := "7d75a3d4802a0cb8137aaa2248d261122829c3a0d2709be08a8e24cd113b7e2e", func := "wainwright/wainwrightlaw12.DealCards", spec := "dealCards", inPlace := ["slices.overlaps[wainwright/api.Change]"], unfollowed := true, recurses := true, apart := false, narrowed := true }
def DealCardsUptoSaid : Prop := dealCardsUptoRow.holds Tryz.pinned (OpenSpec.upto dealCardsSpec)

/-- 'wainwrightlaw12.DealNil', WHERE WHAT IT READS IS OF BULK AT MOST 1048576: true; the input reads as it did. -/
def dealNilUptoRow : OpenClaim := { program := "ytapjbffhihhnbaagreat", sum := "7d75a3d4802a0cb8137aaa2248d261122829c3a0d2709be08a8e24cd113b7e2e", func := "wainwright/wainwrightlaw12.DealNil", spec := "dealNil", inPlace := ["slices.overlaps[wainwright/api.Change]"], unfollowed := true, recurses := true, apart := false, narrowed := true }
def DealNilUptoSaid : Prop := dealNilUptoRow.holds Tryz.pinned (OpenSpec.upto dealNilSpec)

end Rows
end Go.Proofs.YtapjbffhihhnbaaGreat
