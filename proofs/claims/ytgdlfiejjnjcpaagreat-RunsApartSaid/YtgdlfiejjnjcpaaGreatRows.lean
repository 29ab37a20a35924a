/-
  No cell of these rows narrows 'for every input' (looked for: loops, veiled, ifaces, maps, wideKeys, modest, calm, conditions, laid).
  DERIVED. THE GIVEN ROWS OF THIS SEAT. 4 by the template 'for every input the law returns true; each argument reads behind the call as it read before'; 0 by the template 'total and deterministic' (their statements: YtgdlfiejjnjcpaaGreatTotals.lean).
  GIVEN WITH THE SEED: the statements are not yours to turn. If you find one false, say at which input.
  Laid BY PROGRAM, IN A SANDBOX (cutbox-rows.mjs): the forced cells as the released guide's own fill.sh prints them over the translation 933d9b5b628aa1ea… (all of the seat's roots in one cut). By AI agents, Wed Nov 11 2026. No macro, syntax, notation, axiom, sorry.
-/
import Derived.Test.YtgdlfiejjnjcpaaGreatChecked
import GoSem.Claim
import GoSem.ClaimJoined
import GoSem.ClaimMapViews
import Derived.JoinedTies
import Derived.KernelRfl
namespace Go.Proofs.YtgdlfiejjnjcpaaGreat
/- THE CELL 'sum', in the pinned program and in every row, IS THE sha256 OF THE DUMP (.gsa) THAT YtgdlfiejjnjcpaaGreatProg.lean LOADS. Nothing in Lean hashes anything: it is a label: what it is worth is what the hold of that sum in a sandbox is worth. -/
noncomputable def Tryz.pinned : Pinned := { name := "ytgdlfiejjnjcpaagreat", sum := "933d9b5b628aa1ea3fd45c9a089dfd93250d95d88e3dcbc124fe8915281dac0b", checked := Tryz.checked }
namespace Rows
def none {H : Type} : Left H := { results := [], args := [] }

/-- 'wainwrightlaw15.RunsBack': WHATEVER THE INPUT: true; the input reads as it did. -/
def runsBackSpec : ChangeSpec := { name := "runsBack", fn := fun _ => fun
  | [d1, d2] => { results := [.lit (.bool true)], args := [d1, d2] }
  | _ => none }
def runsBackRow : OpenClaim := { program := "ytgdlfiejjnjcpaagreat", sum := "933d9b5b628aa1ea3fd45c9a089dfd93250d95d88e3dcbc124fe8915281dac0b", func := "wainwright/wainwrightlaw15.RunsBack", spec := "runsBack", inPlace := ["slices.overlaps[wainwright/api.Change]"], unfollowed := true, recurses := true, apart := false }
def RunsBackSaid : Prop := runsBackRow.holds Tryz.pinned (OpenSpec.ofChange runsBackSpec)

/-- ITS FALSE NEIGHBOUR: 'it returns false'. Refute it at one input. -/
def runsBackWrong : ChangeSpec := { name := "runsBack", fn := fun _ => fun
  | [d1, d2] => { results := [.lit (.bool false)], args := [d1, d2] }
  | _ => none }
def RunsBackWrongFalsely : Prop := runsBackRow.holds Tryz.pinned (OpenSpec.ofChange runsBackWrong)

/-- 'wainwrightlaw15.RunsDrop': WHATEVER THE INPUT: true; the input reads as it did. -/
def runsDropSpec : ChangeSpec := { name := "runsDrop", fn := fun _ => fun
  | [d1, d2] => { results := [.lit (.bool true)], args := [d1, d2] }
  | _ => none }
def runsDropRow : OpenClaim := { program := "ytgdlfiejjnjcpaagreat", sum := "933d9b5b628aa1ea3fd45c9a089dfd93250d95d88e3dcbc124fe8915281dac0b", func := "wainwright/wainwrightlaw15.RunsDrop", spec := "runsDrop", inPlace := ["slices.overlaps[wainwright/api.Change]"], unfollowed := true, recurses := true, apart := false }
def RunsDropSaid : Prop := runsDropRow.holds Tryz.pinned (OpenSpec.ofChange runsDropSpec)

/-- ITS FALSE NEIGHBOUR: 'it returns false'. Refute it at one input. -/
def runsDropWrong : ChangeSpec := { name := "runsDrop", fn := fun _ => fun
  | [d1, d2] => { results := [.lit (.bool false)], args := [d1, d2] }
  | _ => none }
def RunsDropWrongFalsely : Prop := runsDropRow.holds Tryz.pinned (OpenSpec.ofChange runsDropWrong)

/-- 'wainwrightlaw15.RunsApart': WHATEVER THE INPUT: true; the input reads as it did. -/
def runsApartSpec : ChangeSpec := { name := "runsApart", fn := fun _ => fun
  | [d1, d2] => { results := [.lit (.bool true)], args := [d1, d2] }
  | _ => none }
def runsApartRow : OpenClaim := { program := "ytgdlfiejjnjcpaagreat", sum := "933d9b5b628aa1ea3fd45c9a089dfd93250d95d88e3dcbc124fe8915281dac0b", func := "wainwright/wainwrightlaw15.RunsApart", spec := "runsApart", inPlace := ["slices.overlaps[wainwright/api.Change]"], unfollowed := true, recurses := true, apart := false }
def RunsApartSaid : Prop := runsApartRow.holds Tryz.pinned (OpenSpec.ofChange runsApartSpec)

/-- ITS FALSE NEIGHBOUR: 'it returns false'. Refute it at one input. -/
def runsApartWrong : ChangeSpec := { name := "runsApart", fn := fun _ => fun
  | [d1, d2] => { results := [.lit (.bool false)], args := [d1, d2] }
  | _ => none }
def RunsApartWrongFalsely : Prop := runsApartRow.holds Tryz.pinned (OpenSpec.ofChange runsApartWrong)

/-- 'wainwrightlaw15.RunsOdd': WHATEVER THE INPUT: true; the input reads as it did. -/
def runsOddSpec : ChangeSpec := { name := "runsOdd", fn := fun _ => fun
  | [d1, d2] => { results := [.lit (.bool true)], args := [d1, d2] }
  | _ => none }
def runsOddRow : OpenClaim := { program := "ytgdlfiejjnjcpaagreat", sum := "933d9b5b628aa1ea3fd45c9a089dfd93250d95d88e3dcbc124fe8915281dac0b", func := "wainwright/wainwrightlaw15.RunsOdd", spec := "runsOdd", inPlace := ["slices.overlaps[wainwright/api.Change]"], unfollowed := true, recurses := true, apart := false }
def RunsOddSaid : Prop := runsOddRow.holds Tryz.pinned (OpenSpec.ofChange runsOddSpec)

/-- ITS FALSE NEIGHBOUR: 'it returns false'. Refute it at one input. -/
def runsOddWrong : ChangeSpec := { name := "runsOdd", fn := fun _ => fun
  | [d1, d2] => { results := [.lit (.bool false)], args := [d1, d2] }
  | _ => none }
def RunsOddWrongFalsely : Prop := runsOddRow.holds Tryz.pinned (OpenSpec.ofChange runsOddWrong)

/- THE SECOND FORM. 'bulk': how many values and letters a reading holds, each counted each time it is reached (what is shared counts as often as it is met; a slice's spare places count too). A statement '..UptoSaid' is the law's where the arguments, and the package variables that the reading takes, are together of bulk at most 1048576: NARROWER than '..Said'. Prove '..Said' where nothing that the law and all that it calls make is longer than what came in: it says more and counts as full. Else prove '..UptoSaid'. A law counts once. -/
mutual
def uptoBulk {H : Type} : DataW H → Nat
  | .lit (.string bytes) => bytes.length + 1
  | .lit _ => 1
  | .nil => 1
  | .ptr d => uptoBulk d + 1
  | .slice elems spare => uptoBulkAll elems + uptoBulkAll spare + 1
  | .agg parts => uptoBulkAll parts + 1
  | .iface _ d => uptoBulk d + 1
  | .map entries => uptoBulkEntries entries + 1
  | .held _ => 1
def uptoBulkAll {H : Type} : List (DataW H) → Nat
  | [] => 0
  | d :: r => uptoBulk d + uptoBulkAll r
def uptoBulkEntries {H : Type} : List (Lit × DataW H) → Nat
  | [] => 0
  | x :: r => uptoBulkEntry x + uptoBulkEntries r
def uptoBulkEntry {H : Type} : Lit × DataW H → Nat
  | (.string bytes, d) => bytes.length + uptoBulk d + 1
  | (_, d) => uptoBulk d + 1
 end
def uptoSmall : (H : Type) → List (DataW H) → Bool := fun _ ds => decide (uptoBulkAll ds ≤ 1048576)
def OpenSpec.upto (s : _root_.Go.ChangeSpec) : _root_.Go.OpenSpec := { _root_.Go.OpenSpec.ofChange s with cond := some uptoSmall }

/-- 'wainwrightlaw15.RunsBack', WHERE WHAT IT READS IS OF BULK AT MOST 1048576: true; the input reads as it did. -/
def runsBackUptoRow : OpenClaim := { program := "ytgdlfiejjnjcpaagreat", sum := "933d9b5b628aa1ea3fd45c9a089dfd93250d95d88e3dcbc124fe8915281dac0b", func := "wainwright/wainwrightlaw15.RunsBack", spec := "runsBack", inPlace := ["slices.overlaps[wainwright/api.Change]"], unfollowed := true, recurses := true, apart := false, narrowed := true }
def RunsBackUptoSaid : Prop := runsBackUptoRow.holds Tryz.pinned (OpenSpec.upto runsBackSpec)

/-- 'wainwrightlaw15.RunsDrop', WHERE WHAT IT READS IS OF BULK AT MOST 1048576: true; the input reads as it did. -/
def runsDropUptoRow : OpenClaim := { program := "ytgdlfiejjnjcpaagreat", sum := "933d9b5b628aa1ea3fd45c9a089dfd93250d95d88e3dcbc124fe8915281dac0b", func := "wainwright/wainwrightlaw15.RunsDrop", spec := "runsDrop", inPlace := ["slices.overlaps[wainwright/api.Change]"], unfollowed := true, recurses := true, apart := false, narrowed := true }
def RunsDropUptoSaid : Prop := runsDropUptoRow.holds Tryz.pinned (OpenSpec.upto runsDropSpec)

/-- 'wainwrightlaw15.RunsApart', WHERE WHAT IT READS IS OF BULK AT MOST 1048576: true; the input reads as it did. -/
def runsApartUptoRow : OpenClaim := { program := "ytgdlfiejjnjcpaagreat", sum := "933d9b5b628aa1ea3fd45c9a089dfd93250d95d88e3dcbc124fe8915281dac0b", func := "wainwright/wainwrightlaw15.RunsApart", spec := "runsApart", inPlace := ["slices.overlaps[wainwright/api.Change]"], unfollowed := true, recurses := true, apart := false, narrowed := true }
def RunsApartUptoSaid : Prop := runsApartUptoRow.holds Tryz.pinned (OpenSpec.upto runsApartSpec)

/-- 'wainwrightlaw15.RunsOdd', WHERE WHAT IT READS IS OF BULK AT MOST 1048576: true; the input reads as it did. -/
def runsOddUptoRow : OpenClaim := { program := "ytgdlfiejjnjcpaagreat", sum := "933d9b5b628aa1ea3fd45c9a089dfd93250d95d88e3dcbc124fe8915281dac0b", func := "wainwright/wainwrightlaw15.RunsOdd", spec := "runsOdd", inPlace := ["slices.overlaps[wainwright/api.Change]"], unfollowed := true, recurses := true, apart := false, narrowed := true }
def RunsOddUptoSaid : Prop := runsOddUptoRow.holds Tryz.pinned (OpenSpec.upto runsOddSpec)

end Rows
end Go.Proofs.YtgdlfiejjnjcpaaGreat
