/-
  No cell of these rows narrows 'for every input' (looked for: loops, veiled, ifaces, maps, wideKeys, modest, calm, conditions, laid).
  DERIVED. THE GIVEN ROWS OF THIS SEAT. 5 by the template 'for every input the law returns true; each argument reads behind the call as it read before'; 0 by the template 'total and deterministic' (their statements: YtmmjpdggneagdaaTotals.lean).
  GIVEN WITH THE SEED: the statements are not yours to turn. If you find one false, say at which input.
  Laid BY PROGRAM, IN A SANDBOX (cutbox-rows.mjs): the forced cells as the released guide's own fill.sh prints them over the translation 42a2b8395504d74e… (all of the seat's roots in one cut). By AI agents, Wed Nov 11 2026. No macro, syntax, notation, axiom, sorry.
-/
import Derived.Test.YtmmjpdggneagdaaChecked
import GoSem.Claim
import GoSem.ClaimJoined
import GoSem.ClaimMapViews
import Derived.JoinedTies
import Derived.KernelRfl
namespace Go.Proofs.Ytmmjpdggneagdaa
/- THE CELL 'sum', in the pinned program and in every row, IS THE sha256 OF THE DUMP (.gsa) THAT YtmmjpdggneagdaaProg.lean LOADS. Nothing in Lean hashes anything: it is a label: what it is worth is what the hold of that sum in a sandbox is worth. -/
noncomputable def Try.pinned : Pinned := { name := "ytmmjpdggneagdaa", sum := "42a2b8395504d74efac357286ec50d47633164be9e2c777698d4c32d76e06461", checked := Try.checked }
namespace Rows
def none {H : Type} : Left H := { results := [], args := [] }

/-- 'wainwrightlaw07.RollsTell': WHATEVER THE INPUT: true; the input reads as it did. -/
def rollsTellSpec : ChangeSpec := { name := "rollsTell", fn := fun _ => fun
  | [d1, d2] => { results := [.lit (.bool true)], args := [d1, d2] }
  | _ => none }
def rollsTellRow : OpenClaim := { program := "ytmmjpdggneagdaa", sum := "42a2b8395504d74efac357286ec50d47633164be9e2c777698d4c32d76e06461", func := "wainwright/wainwrightlaw07.RollsTell", spec := "rollsTell", unfollowed := true, recurses := true, apart := false }
def RollsTellSaid : Prop := rollsTellRow.holds Try.pinned (OpenSpec.ofChange rollsTellSpec)

/-- ITS FALSE NEIGHBOUR: 'it returns false'. Refute it at one input. -/
def rollsTellWrong : ChangeSpec := { name := "rollsTell", fn := fun _ => fun
  | [d1, d2] => { results := [.lit (.bool false)], args := [d1, d2] }
  | _ => none }
def RollsTellWrongFalsely : Prop := rollsTellRow.holds Try.pinned (OpenSpec.ofChange rollsTellWrong)

/-- 'wainwrightlaw07.RollsChange': WHATEVER THE INPUT: true; the input reads as it did. -/
def rollsChangeSpec : ChangeSpec := { name := "rollsChange", fn := fun _ => fun
  | [d1, d2, d3] => { results := [.lit (.bool true)], args := [d1, d2, d3] }
  | _ => none }
def rollsChangeRow : OpenClaim := { program := "ytmmjpdggneagdaa", sum := "42a2b8395504d74efac357286ec50d47633164be9e2c777698d4c32d76e06461", func := "wainwright/wainwrightlaw07.RollsChange", spec := "rollsChange", unfollowed := true, recurses := true, apart := false }
def RollsChangeSaid : Prop := rollsChangeRow.holds Try.pinned (OpenSpec.ofChange rollsChangeSpec)

/-- ITS FALSE NEIGHBOUR: 'it returns false'. Refute it at one input. -/
def rollsChangeWrong : ChangeSpec := { name := "rollsChange", fn := fun _ => fun
  | [d1, d2, d3] => { results := [.lit (.bool false)], args := [d1, d2, d3] }
  | _ => none }
def RollsChangeWrongFalsely : Prop := rollsChangeRow.holds Try.pinned (OpenSpec.ofChange rollsChangeWrong)

/-- 'wainwrightlaw07.RollsBlocks': WHATEVER THE INPUT: true; the input reads as it did. -/
def rollsBlocksSpec : ChangeSpec := { name := "rollsBlocks", fn := fun _ => fun
  | [d1, d2] => { results := [.lit (.bool true)], args := [d1, d2] }
  | _ => none }
def rollsBlocksRow : OpenClaim := { program := "ytmmjpdggneagdaa", sum := "42a2b8395504d74efac357286ec50d47633164be9e2c777698d4c32d76e06461", func := "wainwright/wainwrightlaw07.RollsBlocks", spec := "rollsBlocks", inPlace := ["internal/bytealg.IndexByteString", "internal/abi.NoEscape"], unfollowed := true, recurses := true, apart := false }
def RollsBlocksSaid : Prop := rollsBlocksRow.holds Try.pinned (OpenSpec.ofChange rollsBlocksSpec)

/-- ITS FALSE NEIGHBOUR: 'it returns false'. Refute it at one input. -/
def rollsBlocksWrong : ChangeSpec := { name := "rollsBlocks", fn := fun _ => fun
  | [d1, d2] => { results := [.lit (.bool false)], args := [d1, d2] }
  | _ => none }
def RollsBlocksWrongFalsely : Prop := rollsBlocksRow.holds Try.pinned (OpenSpec.ofChange rollsBlocksWrong)

/-- 'wainwrightlaw07.RollsPlay': WHATEVER THE INPUT: true; the input reads as it did. -/
def rollsPlaySpec : ChangeSpec := { name := "rollsPlay", fn := fun _ => fun
  | [d] => { results := [.lit (.bool true)], args := [d] }
  | _ => none }
def rollsPlayRow : OpenClaim := { program := "ytmmjpdggneagdaa", sum := "42a2b8395504d74efac357286ec50d47633164be9e2c777698d4c32d76e06461", func := "wainwright/wainwrightlaw07.RollsPlay", spec := "rollsPlay", unfollowed := true, recurses := true, apart := false }
def RollsPlaySaid : Prop := rollsPlayRow.holds Try.pinned (OpenSpec.ofChange rollsPlaySpec)

/-- ITS FALSE NEIGHBOUR: 'it returns false'. Refute it at one input. -/
def rollsPlayWrong : ChangeSpec := { name := "rollsPlay", fn := fun _ => fun
  | [d] => { results := [.lit (.bool false)], args := [d] }
  | _ => none }
def RollsPlayWrongFalsely : Prop := rollsPlayRow.holds Try.pinned (OpenSpec.ofChange rollsPlayWrong)

/-- 'wainwrightlaw07.RollsStay': WHATEVER THE INPUT: true; the input reads as it did. -/
def rollsStaySpec : ChangeSpec := { name := "rollsStay", fn := fun _ => fun
  | [d1, d2, d3] => { results := [.lit (.bool true)], args := [d1, d2, d3] }
  | _ => none }
def rollsStayRow : OpenClaim := { program := "ytmmjpdggneagdaa", sum := "42a2b8395504d74efac357286ec50d47633164be9e2c777698d4c32d76e06461", func := "wainwright/wainwrightlaw07.RollsStay", spec := "rollsStay", unfollowed := true, recurses := true, apart := false }
def RollsStaySaid : Prop := rollsStayRow.holds Try.pinned (OpenSpec.ofChange rollsStaySpec)

/-- ITS FALSE NEIGHBOUR: 'it returns false'. Refute it at one input. -/
def rollsStayWrong : ChangeSpec := { name := "rollsStay", fn := fun _ => fun
  | [d1, d2, d3] => { results := [.lit (.bool false)], args := [d1, d2, d3] }
  | _ => none }
def RollsStayWrongFalsely : Prop := rollsStayRow.holds Try.pinned (OpenSpec.ofChange rollsStayWrong)

/- THE SECOND FORM. 'bulk': how many values and letters a reading holds, each counted each time it is reached (what is shared counts as often as it is met; a slice's spare places count too). A statement '..UptoSaid' is the law's where the arguments, and the package variables that the reading takes, are together of bulk at most 1048576: NARROWER than '..Said'. Prove '..Said' where nothing that the law and all that it calls make is longer than what came in: it says more and counts as full. Else prove '..UptoSaid'. A law counts once. -/
mutual
def uptoBulk {H : Type} : DataW H → Nat
  | .lit (.string bytes) => bytes.length + 1
  | .lit _ => 1
  | .nil => 1
  | .ptr d => uptoBulk d + 1
  | .slice elems spare => uptoBulkAll elems + uptoBulkAll spare + 1
  | .agg parts => uptoBulkAll parts + 1
  | .iface _ d => uptoBulk d + 1
  | .map entries => uptoBulkEntries entries + 1
  | .held _ => 1
def uptoBulkAll {H : Type} : List (DataW H) → Nat
  | [] => 0
  | d :: r => uptoBulk d + uptoBulkAll r
def uptoBulkEntries {H : Type} : List (Lit × DataW H) → Nat
  | [] => 0
  | x :: r => uptoBulkEntry x + uptoBulkEntries r
def uptoBulkEntry {H : Type} : Lit × DataW H → Nat
  | (.string bytes, d) => bytes.length + uptoBulk d + 1
  | (_, d) => uptoBulk d + 1
 end
def uptoSmall : (H : Type) → List (DataW H) → Bool := fun _ ds => decide (uptoBulkAll ds ≤ 1048576)
def OpenSpec.upto (s : _root_.Go.ChangeSpec) : _root_.Go.OpenSpec := { _root_.Go.OpenSpec.ofChange s with cond := some uptoSmall }

/-- 'wainwrightlaw07.RollsTell', WHERE WHAT IT READS IS OF BULK AT MOST 1048576: true; the input reads as it did. -/
def rollsTellUptoRow : OpenClaim := { program := "ytmmjpdggneagdaa", sum := "42a2b8395504d74efac357286ec50d47633164be9e2c777698d4c32d76e06461", func := "wainwright/wainwrightlaw07.RollsTell", spec := "rollsTell", unfollowed := true, recurses := true, apart := false, narrowed := true }
def RollsTellUptoSaid : Prop := rollsTellUptoRow.holds Try.pinned (OpenSpec.upto rollsTellSpec)

/-- 'wainwrightlaw07.RollsChange', WHERE WHAT IT READS IS OF BULK AT MOST 1048576: true; the input reads as it did. -/
def rollsChangeUptoRow : OpenClaim := { program := "ytmmjpdggneagdaa", sum := "42a2b8395504d74efac357286ec50d47633164be9e2c777698d4c32d76e06461", func := "wainwright/wainwrightlaw07.RollsChange", spec := "rollsChange", unfollowed := true, recurses := true, apart := false, narrowed := true }
def RollsChangeUptoSaid : Prop := rollsChangeUptoRow.holds Try.pinned (OpenSpec.upto rollsChangeSpec)

/-- 'wainwrightlaw07.RollsBlocks', WHERE WHAT IT READS IS OF BULK AT MOST 1048576: true; the input reads as it did. -/
def rollsBlocksUptoRow : OpenClaim := { program := "ytmmjpdggneagdaa", sum := "42a2b8395504d74efac357286ec50d47633164be9e2c777698d4c32d76e06461", func := "wainwright/wainwrightlaw07.RollsBlocks", spec := "rollsBlocks", inPlace := ["internal/bytealg.IndexByteString", "internal/abi.NoEscape"], unfollowed := true, recurses := true, apart := false, narrowed := true }
def RollsBlocksUptoSaid : Prop := rollsBlocksUptoRow.holds Try.pinned (OpenSpec.upto rollsBlocksSpec)

/-- 'wainwrightlaw07.RollsPlay', WHERE WHAT IT READS IS OF BULK AT MOST 1048576: true; the input reads as it did. -/
def rollsPlayUptoRow : OpenClaim := { program := "ytmmjpdggneagdaa", sum := "42a2b8395504d74efac357286ec50d47633164be9e2c777698d4c32d76e06461", func := "wainwright/wainwrightlaw07.RollsPlay", spec := "rollsPlay", unfollowed := true, recurses := true, apart := false, narrowed := true }
def RollsPlayUptoSaid : Prop := rollsPlayUptoRow.holds Try.pinned (OpenSpec.upto rollsPlaySpec)

/-- 'wainwrightlaw07.RollsStay', WHERE WHAT IT READS IS OF BULK AT MOST 1048576: true; the input reads as it did. -/
def rollsStayUptoRow : OpenClaim := { program := "ytmmjpdggneagdaa", sum := "42a2b8395504d74efac357286ec50d47633164be9e2c777698d4c32d76e06461", func := "wainwright/wainwrightlaw07.RollsStay", spec := "rollsStay", unfollowed := true, recurses := true, apart := false, narrowed := true }
def RollsStayUptoSaid : Prop := rollsStayUptoRow.holds Try.pinned (OpenSpec.upto rollsStaySpec)

end Rows
end Go.Proofs.Ytmmjpdggneagdaa
