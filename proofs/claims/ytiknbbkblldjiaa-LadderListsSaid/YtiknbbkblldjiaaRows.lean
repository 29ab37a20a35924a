/-
  No cell of these rows narrows 'for every input' (looked for: loops, veiled, ifaces, maps, wideKeys, modest, calm, conditions, laid).
  DERIVED. THE GIVEN ROWS OF THIS SEAT. 5 by the template 'for every input the law returns true; each argument reads behind the call as it read before'; 0 by the template 'total and deterministic' (their statements: YtiknbbkblldjiaaTotals.lean).
  GIVEN WITH THE SEED: the statements are not yours to turn. If you find one false, say at which input.
  Laid BY PROGRAM, IN A SANDBOX (cutbox-rows.mjs): the forced cells as the released guide's own fill.sh prints them over the translation b92ac6e4c8b70b87… (all of the seat's roots in one cut). By AI agents, Wed Nov 11 2026. No macro, syntax, notation, axiom, sorry.
-/
import Derived.Test.YtiknbbkblldjiaaChecked
import GoSem.Claim
import GoSem.ClaimJoined
import GoSem.ClaimMapViews
import Derived.JoinedTies
import Derived.KernelRfl
namespace Go.Proofs.Ytiknbbkblldjiaa
/- THE CELL 'sum', in the pinned program and in every row, IS THE sha256 OF THE DUMP (.gsa) THAT YtiknbbkblldjiaaProg.lean LOADS. Nothing in Lean hashes anything: it is a label: what it is worth is what the hold of that sum in a sandbox is worth. -/
noncomputable def Try.pinned : Pinned := { name := "ytiknbbkblldjiaa", sum := "b92ac6e4c8b70b872b3878df9515292f94e3c288aa81eab1b77b6ab1e2ea5b94", checked := Try.checked }
namespace Rows
def none {H : Type} : Left H := { results := [], args := [] }

/-- 'wainwrightlaw05.LadderOf': WHATEVER THE INPUT: true; the input reads as it did. -/
def ladderOfSpec : ChangeSpec := { name := "ladderOf", fn := fun _ => fun
  | [d] => { results := [.lit (.bool true)], args := [d] }
  | _ => none }
def ladderOfRow : OpenClaim := { program := "ytiknbbkblldjiaa", sum := "b92ac6e4c8b70b872b3878df9515292f94e3c288aa81eab1b77b6ab1e2ea5b94", func := "wainwright/wainwrightlaw05.LadderOf", spec := "ladderOf", unfollowed := true, recurses := true, apart := false }
def LadderOfSaid : Prop := ladderOfRow.holds Try.pinned (OpenSpec.ofChange ladderOfSpec)

/-- ITS FALSE NEIGHBOUR: 'it returns false'. Refute it at one input. -/
def ladderOfWrong : ChangeSpec := { name := "ladderOf", fn := fun _ => fun
  | [d] => { results := [.lit (.bool false)], args := [d] }
  | _ => none }
def LadderOfWrongFalsely : Prop := ladderOfRow.holds Try.pinned (OpenSpec.ofChange ladderOfWrong)

/-- 'wainwrightlaw05.LadderMap': WHATEVER THE INPUT: true; the input reads as it did. -/
def ladderMapSpec : ChangeSpec := { name := "ladderMap", fn := fun _ => fun
  | [d1, d2, d3] => { results := [.lit (.bool true)], args := [d1, d2, d3] }
  | _ => none }
def ladderMapRow : OpenClaim := { program := "ytiknbbkblldjiaa", sum := "b92ac6e4c8b70b872b3878df9515292f94e3c288aa81eab1b77b6ab1e2ea5b94", func := "wainwright/wainwrightlaw05.LadderMap", spec := "ladderMap", unfollowed := true, recurses := true, apart := false }
def LadderMapSaid : Prop := ladderMapRow.holds Try.pinned (OpenSpec.ofChange ladderMapSpec)

/-- ITS FALSE NEIGHBOUR: 'it returns false'. Refute it at one input. -/
def ladderMapWrong : ChangeSpec := { name := "ladderMap", fn := fun _ => fun
  | [d1, d2, d3] => { results := [.lit (.bool false)], args := [d1, d2, d3] }
  | _ => none }
def LadderMapWrongFalsely : Prop := ladderMapRow.holds Try.pinned (OpenSpec.ofChange ladderMapWrong)

/-- 'wainwrightlaw05.LadderBack': WHATEVER THE INPUT: true; the input reads as it did. -/
def ladderBackSpec : ChangeSpec := { name := "ladderBack", fn := fun _ => fun
  | [d] => { results := [.lit (.bool true)], args := [d] }
  | _ => none }
def ladderBackRow : OpenClaim := { program := "ytiknbbkblldjiaa", sum := "b92ac6e4c8b70b872b3878df9515292f94e3c288aa81eab1b77b6ab1e2ea5b94", func := "wainwright/wainwrightlaw05.LadderBack", spec := "ladderBack", unfollowed := true, recurses := true, apart := false }
def LadderBackSaid : Prop := ladderBackRow.holds Try.pinned (OpenSpec.ofChange ladderBackSpec)

/-- ITS FALSE NEIGHBOUR: 'it returns false'. Refute it at one input. -/
def ladderBackWrong : ChangeSpec := { name := "ladderBack", fn := fun _ => fun
  | [d] => { results := [.lit (.bool false)], args := [d] }
  | _ => none }
def LadderBackWrongFalsely : Prop := ladderBackRow.holds Try.pinned (OpenSpec.ofChange ladderBackWrong)

/-- 'wainwrightlaw05.LadderPlace': WHATEVER THE INPUT: true; the input reads as it did. -/
def ladderPlaceSpec : ChangeSpec := { name := "ladderPlace", fn := fun _ => fun
  | [d1, d2] => { results := [.lit (.bool true)], args := [d1, d2] }
  | _ => none }
def ladderPlaceRow : OpenClaim := { program := "ytiknbbkblldjiaa", sum := "b92ac6e4c8b70b872b3878df9515292f94e3c288aa81eab1b77b6ab1e2ea5b94", func := "wainwright/wainwrightlaw05.LadderPlace", spec := "ladderPlace", unfollowed := true, recurses := true, apart := false }
def LadderPlaceSaid : Prop := ladderPlaceRow.holds Try.pinned (OpenSpec.ofChange ladderPlaceSpec)

/-- ITS FALSE NEIGHBOUR: 'it returns false'. Refute it at one input. -/
def ladderPlaceWrong : ChangeSpec := { name := "ladderPlace", fn := fun _ => fun
  | [d1, d2] => { results := [.lit (.bool false)], args := [d1, d2] }
  | _ => none }
def LadderPlaceWrongFalsely : Prop := ladderPlaceRow.holds Try.pinned (OpenSpec.ofChange ladderPlaceWrong)

/-- 'wainwrightlaw05.LadderLists': WHATEVER THE INPUT: true; the input reads as it did. -/
def ladderListsSpec : ChangeSpec := { name := "ladderLists", fn := fun _ => fun
  | [d1, d2] => { results := [.lit (.bool true)], args := [d1, d2] }
  | _ => none }
def ladderListsRow : OpenClaim := { program := "ytiknbbkblldjiaa", sum := "b92ac6e4c8b70b872b3878df9515292f94e3c288aa81eab1b77b6ab1e2ea5b94", func := "wainwright/wainwrightlaw05.LadderLists", spec := "ladderLists", unfollowed := true, recurses := true, apart := false }
def LadderListsSaid : Prop := ladderListsRow.holds Try.pinned (OpenSpec.ofChange ladderListsSpec)

/-- ITS FALSE NEIGHBOUR: 'it returns false'. Refute it at one input. -/
def ladderListsWrong : ChangeSpec := { name := "ladderLists", fn := fun _ => fun
  | [d1, d2] => { results := [.lit (.bool false)], args := [d1, d2] }
  | _ => none }
def LadderListsWrongFalsely : Prop := ladderListsRow.holds Try.pinned (OpenSpec.ofChange ladderListsWrong)

/- THE SECOND FORM. 'bulk': how many values and letters a reading holds, each counted each time it is reached (what is shared counts as often as it is met; a slice's spare places count too). A statement '..UptoSaid' is the law's where the arguments, and the package variables that the reading takes, are together of bulk at most 1048576: NARROWER than '..Said'. Prove '..Said' where nothing that the law and all that it calls make is longer than what came in: it says more and counts as full. Else prove '..UptoSaid'. A law counts once. -/
mutual
def uptoBulk {H : Type} : DataW H → Nat
  | .lit (.string bytes) => bytes.length + 1
  | .lit _ => 1
  | .nil => 1
  | .ptr d => uptoBulk d + 1
  | .slice elems spare => uptoBulkAll elems + uptoBulkAll spare + 1
  | .agg parts => uptoBulkAll parts + 1
  | .iface _ d => uptoBulk d + 1
  | .map entries => uptoBulkEntries entries + 1
  | .held _ => 1
def uptoBulkAll {H : Type} : List (DataW H) → Nat
  | [] => 0
  | d :: r => uptoBulk d + uptoBulkAll r
def uptoBulkEntries {H : Type} : List (Lit × DataW H) → Nat
  | [] => 0
  | x :: r => uptoBulkEntry x + uptoBulkEntries r
def uptoBulkEntry {H : Type} : Lit × DataW H → Nat
  | (.string bytes, d) => bytes.length + uptoBulk d + 1
  | (_, d) => uptoBulk d + 1
 end
def uptoSmall : (H : Type) → List (DataW H) → Bool := fun _ ds => decide (uptoBulkAll ds ≤ 1048576)
def OpenSpec.upto (s : _root_.Go.ChangeSpec) : _root_.Go.OpenSpec := { _root_.Go.OpenSpec.ofChange s with cond := some uptoSmall }

/-- 'wainwrightlaw05.LadderOf', WHERE WHAT IT READS IS OF BULK AT MOST 1048576: true; the input reads as it did. -/
def ladderOfUptoRow : OpenClaim := { program := "ytiknbbkblldjiaa", sum := "b92ac6e4c8b70b872b3878df9515292f94e3c288aa81eab1b77b6ab1e2ea5b94", func := "wainwright/wainwrightlaw05.LadderOf", spec := "ladderOf", unfollowed := true, recurses := true, apart := false, narrowed := true }
def LadderOfUptoSaid : Prop := ladderOfUptoRow.holds Try.pinned (OpenSpec.upto ladderOfSpec)

/-- 'wainwrightlaw05.LadderMap', WHERE WHAT IT READS IS OF BULK AT MOST 1048576: true; the input reads as it did. -/
def ladderMapUptoRow : OpenClaim := { program := "ytiknbbkblldjiaa", sum := "b92ac6e4c8b70b872b3878df9515292f94e3c288aa81eab1b77b6ab1e2ea5b94", func := "wainwright/wainwrightlaw05.LadderMap", spec := "ladderMap", unfollowed := true, recurses := true, apart := false, narrowed := true }
def LadderMapUptoSaid : Prop := ladderMapUptoRow.holds Try.pinned (OpenSpec.upto ladderMapSpec)

/-- 'wainwrightlaw05.LadderBack', WHERE WHAT IT READS IS OF BULK AT MOST 1048576: true; the input reads as it did. -/
def ladderBackUptoRow : OpenClaim := { program := "ytiknbbkblldjiaa", sum := "b92ac6e4c8b70b872b3878df9515292f94e3c288aa81eab1b77b6ab1e2ea5b94", func := "wainwright/wainwrightlaw05.LadderBack", spec := "ladderBack", unfollowed := true, recurses := true, apart := false, narrowed := true }
def LadderBackUptoSaid : Prop := ladderBackUptoRow.holds Try.pinned (OpenSpec.upto ladderBackSpec)

/-- 'wainwrightlaw05.LadderPlace', WHERE WHAT IT READS IS OF BULK AT MOST 1048576: true; the input reads as it did. -/
def ladderPlaceUptoRow : OpenClaim := { program := "ytiknbbkblldjiaa", sum := "b92ac6e4c8b70b872b3878df9515292f94e3c288aa81eab1b77b6ab1e2ea5b94", func := "wainwright/wainwrightlaw05.LadderPlace", spec := "ladderPlace", unfollowed := true, recurses := true, apart := false, narrowed := true }
def LadderPlaceUptoSaid : Prop := ladderPlaceUptoRow.holds Try.pinned (OpenSpec.upto ladderPlaceSpec)

/-- 'wainwrightlaw05.LadderLists', WHERE WHAT IT READS IS OF BULK AT MOST 1048576: true; the input reads as it did. -/
def ladderListsUptoRow : OpenClaim := { program := "ytiknbbkblldjiaa", sum := "b92ac6e4c8b70b872b3878df9515292f94e3c288aa81eab1b77b6ab1e2ea5b94", func := "wainwright/wainwrightlaw05.LadderLists", spec := "ladderLists", unfollowed := true, recurses := true, apart := false, narrowed := true }
def LadderListsUptoSaid : Prop := ladderListsUptoRow.holds Try.pinned (OpenSpec.upto ladderListsSpec)

end Rows
end Go.Proofs.Ytiknbbkblldjiaa
