/-
  No cell of these rows narrows 'for every input' (looked for: loops, veiled, ifaces, maps, wideKeys, modest, calm, conditions, laid).
  DERIVED. THE GIVEN ROWS OF THIS SEAT. 5 by the template 'for every input the law returns true; each argument reads behind the call as it read before'; 0 by the template 'total and deterministic' (their statements: YtflijnhgonigjaaTotals.lean).
  GIVEN WITH THE SEED: the statements are not yours to turn. If you find one false, say at which input.
  Laid BY PROGRAM, IN A SANDBOX (cutbox-rows.mjs): the forced cells as the released guide's own fill.sh prints them over the translation c3c7737a2ea2cabb… (all of the seat's roots in one cut). By AI agents, Wed Nov 11 2026. No macro, syntax, notation, axiom, sorry.
-/
import Derived.Test.YtflijnhgonigjaaChecked
import GoSem.Claim
import GoSem.ClaimJoined
import GoSem.ClaimMapViews
import Derived.JoinedTies
import Derived.KernelRfl
namespace Go.Proofs.Ytflijnhgonigjaa
/- THE CELL 'sum', in the pinned program and in every row, IS THE sha256 OF THE DUMP (.gsa) THAT YtflijnhgonigjaaProg.lean LOADS. Nothing in Lean hashes anything: it is a label: what it is worth is what the hold of that sum in a sandbox is worth. -/
noncomputable def Try.pinned : Pinned := { name := "ytflijnhgonigjaa", sum := "c3c7737a2ea2cabb3e20906a43977d6d99a590bcdc27a178739baadbe2e13cf4", checked := Try.checked }
namespace Rows
def none {H : Type} : Left H := { results := [], args := [] }

/-- 'wainwrightlaw08.IndexTell': WHATEVER THE INPUT: true; the input reads as it did. -/
def indexTellSpec : ChangeSpec := { name := "indexTell", fn := fun _ => fun
  | [d1, d2] => { results := [.lit (.bool true)], args := [d1, d2] }
  | _ => none }
def indexTellRow : OpenClaim := { program := "ytflijnhgonigjaa", sum := "c3c7737a2ea2cabb3e20906a43977d6d99a590bcdc27a178739baadbe2e13cf4", func := "wainwright/wainwrightlaw08.IndexTell", spec := "indexTell", inPlace := ["internal/bytealg.abigen_runtime_cmpstring", "slices.overlaps[wainwright/api.Entry]", "slices.overlaps[[]wainwright/api.Entry]"], unfollowed := true, recurses := true, apart := false }
def IndexTellSaid : Prop := indexTellRow.holds Try.pinned (OpenSpec.ofChange indexTellSpec)

/-- ITS FALSE NEIGHBOUR: 'it returns false'. Refute it at one input. -/
def indexTellWrong : ChangeSpec := { name := "indexTell", fn := fun _ => fun
  | [d1, d2] => { results := [.lit (.bool false)], args := [d1, d2] }
  | _ => none }
def IndexTellWrongFalsely : Prop := indexTellRow.holds Try.pinned (OpenSpec.ofChange indexTellWrong)

/-- 'wainwrightlaw08.IndexChange': WHATEVER THE INPUT: true; the input reads as it did. -/
def indexChangeSpec : ChangeSpec := { name := "indexChange", fn := fun _ => fun
  | [d1, d2, d3] => { results := [.lit (.bool true)], args := [d1, d2, d3] }
  | _ => none }
def indexChangeRow : OpenClaim := { program := "ytflijnhgonigjaa", sum := "c3c7737a2ea2cabb3e20906a43977d6d99a590bcdc27a178739baadbe2e13cf4", func := "wainwright/wainwrightlaw08.IndexChange", spec := "indexChange", inPlace := ["internal/bytealg.abigen_runtime_cmpstring", "slices.overlaps[wainwright/api.Entry]", "slices.overlaps[[]wainwright/api.Entry]"], unfollowed := true, recurses := true, apart := false }
def IndexChangeSaid : Prop := indexChangeRow.holds Try.pinned (OpenSpec.ofChange indexChangeSpec)

/-- ITS FALSE NEIGHBOUR: 'it returns false'. Refute it at one input. -/
def indexChangeWrong : ChangeSpec := { name := "indexChange", fn := fun _ => fun
  | [d1, d2, d3] => { results := [.lit (.bool false)], args := [d1, d2, d3] }
  | _ => none }
def IndexChangeWrongFalsely : Prop := indexChangeRow.holds Try.pinned (OpenSpec.ofChange indexChangeWrong)

/-- 'wainwrightlaw08.IndexBlocks': WHATEVER THE INPUT: true; the input reads as it did. -/
def indexBlocksSpec : ChangeSpec := { name := "indexBlocks", fn := fun _ => fun
  | [d1, d2] => { results := [.lit (.bool true)], args := [d1, d2] }
  | _ => none }
def indexBlocksRow : OpenClaim := { program := "ytflijnhgonigjaa", sum := "c3c7737a2ea2cabb3e20906a43977d6d99a590bcdc27a178739baadbe2e13cf4", func := "wainwright/wainwrightlaw08.IndexBlocks", spec := "indexBlocks", inPlace := ["internal/bytealg.abigen_runtime_cmpstring", "slices.overlaps[wainwright/api.Entry]", "slices.overlaps[[]wainwright/api.Entry]", "internal/bytealg.IndexByteString"], unfollowed := true, recurses := true, apart := false }
def IndexBlocksSaid : Prop := indexBlocksRow.holds Try.pinned (OpenSpec.ofChange indexBlocksSpec)

/-- ITS FALSE NEIGHBOUR: 'it returns false'. Refute it at one input. -/
def indexBlocksWrong : ChangeSpec := { name := "indexBlocks", fn := fun _ => fun
  | [d1, d2] => { results := [.lit (.bool false)], args := [d1, d2] }
  | _ => none }
def IndexBlocksWrongFalsely : Prop := indexBlocksRow.holds Try.pinned (OpenSpec.ofChange indexBlocksWrong)

/-- 'wainwrightlaw08.IndexPlay': WHATEVER THE INPUT: true; the input reads as it did. -/
def indexPlaySpec : ChangeSpec := { name := "indexPlay", fn := fun _ => fun
  | [d] => { results := [.lit (.bool true)], args := [d] }
  | _ => none }
def indexPlayRow : OpenClaim := { program := "ytflijnhgonigjaa", sum := "c3c7737a2ea2cabb3e20906a43977d6d99a590bcdc27a178739baadbe2e13cf4", func := "wainwright/wainwrightlaw08.IndexPlay", spec := "indexPlay", inPlace := ["internal/bytealg.abigen_runtime_cmpstring", "slices.overlaps[wainwright/api.Entry]", "slices.overlaps[[]wainwright/api.Entry]"], unfollowed := true, recurses := true, apart := false }
def IndexPlaySaid : Prop := indexPlayRow.holds Try.pinned (OpenSpec.ofChange indexPlaySpec)

/-- ITS FALSE NEIGHBOUR: 'it returns false'. Refute it at one input. -/
def indexPlayWrong : ChangeSpec := { name := "indexPlay", fn := fun _ => fun
  | [d] => { results := [.lit (.bool false)], args := [d] }
  | _ => none }
def IndexPlayWrongFalsely : Prop := indexPlayRow.holds Try.pinned (OpenSpec.ofChange indexPlayWrong)

/-- 'wainwrightlaw08.IndexRolls': WHATEVER THE INPUT: true; the input reads as it did. -/
def indexRollsSpec : ChangeSpec := { name := "indexRolls", fn := fun _ => fun
  | [d1, d2] => { results := [.lit (.bool true)], args := [d1, d2] }
  | _ => none }
def indexRollsRow : OpenClaim := { program := "ytflijnhgonigjaa", sum := "c3c7737a2ea2cabb3e20906a43977d6d99a590bcdc27a178739baadbe2e13cf4", func := "wainwright/wainwrightlaw08.IndexRolls", spec := "indexRolls", inPlace := ["internal/bytealg.abigen_runtime_cmpstring", "slices.overlaps[wainwright/api.Entry]", "slices.overlaps[[]wainwright/api.Entry]"], unfollowed := true, recurses := true, apart := false }
def IndexRollsSaid : Prop := indexRollsRow.holds Try.pinned (OpenSpec.ofChange indexRollsSpec)

/-- ITS FALSE NEIGHBOUR: 'it returns false'. Refute it at one input. -/
def indexRollsWrong : ChangeSpec := { name := "indexRolls", fn := fun _ => fun
  | [d1, d2] => { results := [.lit (.bool false)], args := [d1, d2] }
  | _ => none }
def IndexRollsWrongFalsely : Prop := indexRollsRow.holds Try.pinned (OpenSpec.ofChange indexRollsWrong)

/- THE SECOND FORM. 'bulk': how many values and letters a reading holds, each counted each time it is reached (what is shared counts as often as it is met; a slice's spare places count too). A statement '..UptoSaid' is the law's where the arguments, and the package variables that the reading takes, are together of bulk at most 1048576: NARROWER than '..Said'. Prove '..Said' where nothing that the law and all that it calls make is longer than what came in: it says more and counts as full. Else prove '..UptoSaid'. A law counts once. -/
mutual
def uptoBulk {H : Type} : DataW H → Nat
  | .lit (.string bytes) => bytes.length + 1
  | .lit _ => 1
  | .nil => 1
  | .ptr d => uptoBulk d + 1
  | .slice elems spare => uptoBulkAll elems + uptoBulkAll spare + 1
  | .agg parts => uptoBulkAll parts + 1
  | .iface _ d => uptoBulk d + 1
  | .map entries => uptoBulkEntries entries + 1
  | .held _ => 1
def uptoBulkAll {H : Type} : List (DataW H) → Nat
  | [] => 0
  | d :: r => uptoBulk d + uptoBulkAll r
def uptoBulkEntries {H : Type} : List (Lit × DataW H) → Nat
  | [] => 0
  | x :: r => uptoBulkEntry x + uptoBulkEntries r
def uptoBulkEntry {H : Type} : Lit × DataW H → Nat
  | (.string bytes, d) => bytes.length + uptoBulk d + 1
  | (_, d) => uptoBulk d + 1
 end
def uptoSmall : (H : Type) → List (DataW H) → Bool := fun _ ds => decide (uptoBulkAll ds ≤ 1048576)
def OpenSpec.upto (s : _root_.Go.ChangeSpec) : _root_.Go.OpenSpec := { _root_.Go.OpenSpec.ofChange s with cond := some uptoSmall }

/-- 'wainwrightlaw08.IndexTell', WHERE WHAT IT READS IS OF BULK AT MOST 1048576: true; the input reads as it did. -/
def indexTellUptoRow : OpenClaim := { program := "ytflijnhgonigjaa", sum := "c3c7737a2ea2cabb3e20906a43977d6d99a590bcdc27a178739baadbe2e13cf4", func := "wainwright/wainwrightlaw08.IndexTell", spec := "indexTell", inPlace := ["internal/bytealg.abigen_runtime_cmpstring", "slices.overlaps[wainwright/api.Entry]", "slices.overlaps[[]wainwright/api.Entry]"], unfollowed := true, recurses := true, apart := false, narrowed := true }
def IndexTellUptoSaid : Prop := indexTellUptoRow.holds Try.pinned (OpenSpec.upto indexTellSpec)

/-- 'wainwrightlaw08.IndexChange', WHERE WHAT IT READS IS OF BULK AT MOST 1048576: true; the input reads as it did. -/
def indexChangeUptoRow : OpenClaim := { program := "ytflijnhgonigjaa", sum := "c3c7737a2ea2cabb3e20906a43977d6d99a590bcdc27a178739baadbe2e13cf4", func := "wainwright/wainwrightlaw08.IndexChange", spec := "indexChange", inPlace := ["internal/bytealg.abigen_runtime_cmpstring", "slices.overlaps[wainwright/api.Entry]", "slices.overlaps[[]wainwright/api.Entry]"], unfollowed := true, recurses := true, apart := false, narrowed := true }
def IndexChangeUptoSaid : Prop := indexChangeUptoRow.holds Try.pinned (OpenSpec.upto indexChangeSpec)

/-- 'wainwrightlaw08.IndexBlocks', WHERE WHAT IT READS IS OF BULK AT MOST 1048576: true; the input reads as it did. -/
def indexBlocksUptoRow : OpenClaim := { program := "ytflijnhgonigjaa", sum := "c3c7737a2ea2cabb3e20906a43977d6d99a590bcdc27a178739baadbe2e13cf4", func := "wainwright/wainwrightlaw08.IndexBlocks", spec := "indexBlocks", inPlace := ["internal/bytealg.abigen_runtime_cmpstring", "slices.overlaps[wainwright/api.Entry]", "slices.overlaps[[]wainwright/api.Entry]", "internal/bytealg.IndexByteString"], unfollowed := true, recurses := true, apart := false, narrowed := true }
def IndexBlocksUptoSaid : Prop := indexBlocksUptoRow.holds Try.pinned (OpenSpec.upto indexBlocksSpec)

/-- 'wainwrightlaw08.IndexPlay', WHERE WHAT IT READS IS OF BULK AT MOST 1048576: true; the input reads as it did. -/
def indexPlayUptoRow : OpenClaim := { program := "ytflijnhgonigjaa", sum := "c3c7737a2ea2cabb3e20906a43977d6d99a590bcdc27a178739baadbe2e13cf4", func := "wainwright/wainwrightlaw08.IndexPlay", spec := "indexPlay", inPlace := ["internal/bytealg.abigen_runtime_cmpstring", "slices.overlaps[wainwright/api.Entry]", "slices.overlaps[[]wainwright/api.Entry]"], unfollowed := true, recurses := true, apart := false, narrowed := true }
def IndexPlayUptoSaid : Prop := indexPlayUptoRow.holds Try.pinned (OpenSpec.upto indexPlaySpec)

/-- 'wainwrightlaw08.IndexRolls', WHERE WHAT IT READS IS OF BULK AT MOST 1048576: true; the input reads as it did. -/
def indexRollsUptoRow : OpenClaim := { program := "ytflijnhgonigjaa", sum := "c3c7737a2ea2cabb3e20906a43977d6d99a590bcdc27a178739baadbe2e13cf4", func := "wainwright/wainwrightlaw08.IndexRolls", spec := "indexRolls", inPlace := ["internal/bytealg.abigen_runtime_cmpstring", "slices.overlaps[wainwright/api.Entry]", "slices.overlaps[[]wainwright/api.Entry]"], unfollowed := true, recurses := true, apart := false, narrowed := true }
def IndexRollsUptoSaid : Prop := indexRollsUptoRow.holds Try.pinned (OpenSpec.upto indexRollsSpec)

end Rows
end Go.Proofs.Ytflijnhgonigjaa
