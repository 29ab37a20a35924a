/-
  No cell of these rows narrows 'for every input' (looked for: loops, veiled, ifaces, maps, wideKeys, modest, calm, conditions, laid).
  DERIVED. THE GIVEN ROWS OF THIS SEAT. 5 by the template 'for every input the law returns true; each argument reads behind the call as it read before'; 0 by the template 'total and deterministic' (their statements: YtglmkmjakammhaaTotals.lean).
  GIVEN WITH THE SEED: the statements are not yours to turn. If you find one false, say at which input.
  Laid BY PROGRAM, IN A SANDBOX (cutbox-rows.mjs): the forced cells as the released guide's own fill.sh prints them over the translation 1226c0c3c5794c9d… (all of the seat's roots in one cut). By AI agents, Wed Nov 11 2026. No macro, syntax, notation, axiom, sorry.
-/
import Derived.Test.YtglmkmjakammhaaChecked
import GoSem.Claim
import GoSem.ClaimJoined
import GoSem.ClaimMapViews
import Derived.JoinedTies
import Derived.KernelRfl
namespace Go.Proofs.Ytglmkmjakammhaa
/- THE CELL 'sum', in the pinned program and in every row, IS THE sha256 OF THE DUMP (.gsa) THAT YtglmkmjakammhaaProg.lean LOADS. Nothing in Lean hashes anything: it is a label: what it is worth is what the hold of that sum in a sandbox is worth. -/
noncomputable def Try.pinned : Pinned := { name := "ytglmkmjakammhaa", sum := "1226c0c3c5794c9dd56219d21ffda14c6527e71659534bb4949b7d6090ffff38", checked := Try.checked }
namespace Rows
def none {H : Type} : Left H := { results := [], args := [] }

/-- 'wainwrightlaw01.MouldWrites': WHATEVER THE INPUT: true; the input reads as it did. -/
def mouldWritesSpec : ChangeSpec := { name := "mouldWrites", fn := fun _ => fun
  | [d1, d2] => { results := [.lit (.bool true)], args := [d1, d2] }
  | _ => none }
def mouldWritesRow : OpenClaim := { program := "ytglmkmjakammhaa", sum := "1226c0c3c5794c9dd56219d21ffda14c6527e71659534bb4949b7d6090ffff38", func := "wainwright/wainwrightlaw01.MouldWrites", spec := "mouldWrites", apart := false }
def MouldWritesSaid : Prop := mouldWritesRow.holds Try.pinned (OpenSpec.ofChange mouldWritesSpec)

/-- ITS FALSE NEIGHBOUR: 'it returns false'. Refute it at one input. -/
def mouldWritesWrong : ChangeSpec := { name := "mouldWrites", fn := fun _ => fun
  | [d1, d2] => { results := [.lit (.bool false)], args := [d1, d2] }
  | _ => none }
def MouldWritesWrongFalsely : Prop := mouldWritesRow.holds Try.pinned (OpenSpec.ofChange mouldWritesWrong)

/-- 'wainwrightlaw01.MouldReads': WHATEVER THE INPUT: true; the input reads as it did. -/
def mouldReadsSpec : ChangeSpec := { name := "mouldReads", fn := fun _ => fun
  | [d1, d2] => { results := [.lit (.bool true)], args := [d1, d2] }
  | _ => none }
def mouldReadsRow : OpenClaim := { program := "ytglmkmjakammhaa", sum := "1226c0c3c5794c9dd56219d21ffda14c6527e71659534bb4949b7d6090ffff38", func := "wainwright/wainwrightlaw01.MouldReads", spec := "mouldReads", apart := false }
def MouldReadsSaid : Prop := mouldReadsRow.holds Try.pinned (OpenSpec.ofChange mouldReadsSpec)

/-- ITS FALSE NEIGHBOUR: 'it returns false'. Refute it at one input. -/
def mouldReadsWrong : ChangeSpec := { name := "mouldReads", fn := fun _ => fun
  | [d1, d2] => { results := [.lit (.bool false)], args := [d1, d2] }
  | _ => none }
def MouldReadsWrongFalsely : Prop := mouldReadsRow.holds Try.pinned (OpenSpec.ofChange mouldReadsWrong)

/-- 'wainwrightlaw01.MouldBack': WHATEVER THE INPUT: true; the input reads as it did. -/
def mouldBackSpec : ChangeSpec := { name := "mouldBack", fn := fun _ => fun
  | [d1, d2, d3] => { results := [.lit (.bool true)], args := [d1, d2, d3] }
  | _ => none }
def mouldBackRow : OpenClaim := { program := "ytglmkmjakammhaa", sum := "1226c0c3c5794c9dd56219d21ffda14c6527e71659534bb4949b7d6090ffff38", func := "wainwright/wainwrightlaw01.MouldBack", spec := "mouldBack", apart := false }
def MouldBackSaid : Prop := mouldBackRow.holds Try.pinned (OpenSpec.ofChange mouldBackSpec)

/-- ITS FALSE NEIGHBOUR: 'it returns false'. Refute it at one input. -/
def mouldBackWrong : ChangeSpec := { name := "mouldBack", fn := fun _ => fun
  | [d1, d2, d3] => { results := [.lit (.bool false)], args := [d1, d2, d3] }
  | _ => none }
def MouldBackWrongFalsely : Prop := mouldBackRow.holds Try.pinned (OpenSpec.ofChange mouldBackWrong)

/-- 'wainwrightlaw01.MouldTexts': WHATEVER THE INPUT: true; the input reads as it did. -/
def mouldTextsSpec : ChangeSpec := { name := "mouldTexts", fn := fun _ => fun
  | [d1, d2, d3] => { results := [.lit (.bool true)], args := [d1, d2, d3] }
  | _ => none }
def mouldTextsRow : OpenClaim := { program := "ytglmkmjakammhaa", sum := "1226c0c3c5794c9dd56219d21ffda14c6527e71659534bb4949b7d6090ffff38", func := "wainwright/wainwrightlaw01.MouldTexts", spec := "mouldTexts", inPlace := ["internal/bytealg.IndexByteString"], apart := false }
def MouldTextsSaid : Prop := mouldTextsRow.holds Try.pinned (OpenSpec.ofChange mouldTextsSpec)

/-- ITS FALSE NEIGHBOUR: 'it returns false'. Refute it at one input. -/
def mouldTextsWrong : ChangeSpec := { name := "mouldTexts", fn := fun _ => fun
  | [d1, d2, d3] => { results := [.lit (.bool false)], args := [d1, d2, d3] }
  | _ => none }
def MouldTextsWrongFalsely : Prop := mouldTextsRow.holds Try.pinned (OpenSpec.ofChange mouldTextsWrong)

/-- 'wainwrightlaw01.MouldSplits': WHATEVER THE INPUT: true; the input reads as it did. -/
def mouldSplitsSpec : ChangeSpec := { name := "mouldSplits", fn := fun _ => fun
  | [d1, d2, d3] => { results := [.lit (.bool true)], args := [d1, d2, d3] }
  | _ => none }
def mouldSplitsRow : OpenClaim := { program := "ytglmkmjakammhaa", sum := "1226c0c3c5794c9dd56219d21ffda14c6527e71659534bb4949b7d6090ffff38", func := "wainwright/wainwrightlaw01.MouldSplits", spec := "mouldSplits", apart := false }
def MouldSplitsSaid : Prop := mouldSplitsRow.holds Try.pinned (OpenSpec.ofChange mouldSplitsSpec)

/-- ITS FALSE NEIGHBOUR: 'it returns false'. Refute it at one input. -/
def mouldSplitsWrong : ChangeSpec := { name := "mouldSplits", fn := fun _ => fun
  | [d1, d2, d3] => { results := [.lit (.bool false)], args := [d1, d2, d3] }
  | _ => none }
def MouldSplitsWrongFalsely : Prop := mouldSplitsRow.holds Try.pinned (OpenSpec.ofChange mouldSplitsWrong)

/- THE SECOND FORM. 'bulk': how many values and letters a reading holds, each counted each time it is reached (what is shared counts as often as it is met; a slice's spare places count too). A statement '..UptoSaid' is the law's where the arguments, and the package variables that the reading takes, are together of bulk at most 1048576: NARROWER than '..Said'. Prove '..Said' where nothing that the law and all that it calls make is longer than what came in: it says more and counts as full. Else prove '..UptoSaid'. A law counts once. -/
mutual
def uptoBulk {H : Type} : DataW H → Nat
  | .lit (.string bytes) => bytes.length + 1
  | .lit _ => 1
  | .nil => 1
  | .ptr d => uptoBulk d + 1
  | .slice elems spare => uptoBulkAll elems + uptoBulkAll spare + 1
  | .agg parts => uptoBulkAll parts + 1
  | .iface _ d => uptoBulk d + 1
  | .map entries => uptoBulkEntries entries + 1
  | .held _ => 1
def uptoBulkAll {H : Type} : List (DataW H) → Nat
  | [] => 0
  | d :: r => uptoBulk d + uptoBulkAll r
def uptoBulkEntries {H : Type} : List (Lit × DataW H) → Nat
  | [] => 0
  | x :: r => uptoBulkEntry x + uptoBulkEntries r
def uptoBulkEntry {H : Type} : Lit × DataW H → Nat
  | (.string bytes, d) => bytes.length + uptoBulk d + 1
  | (_, d) => uptoBulk d + 1
 end
def uptoSmall : (H : Type) → List (DataW H) → Bool := fun _ ds => decide (uptoBulkAll ds ≤ 1048576)
def OpenSpec.upto (s : _root_.Go.ChangeSpec) : _root_.Go.OpenSpec := { _root_.Go.OpenSpec.ofChange s with cond := some uptoSmall }

/-- 'wainwrightlaw01.MouldWrites', WHERE WHAT IT READS IS OF BULK AT MOST 1048576: true; the input reads as it did. -/
def mouldWritesUptoRow : OpenClaim := { program := "ytglmkmjakammhaa", sum := "1226c0c3c5794c9dd56219d21ffda14c6527e71659534bb4949b7d6090ffff38", func := "wainwright/wainwrightlaw01.MouldWrites", spec := "mouldWrites", apart := false, narrowed := true }
def MouldWritesUptoSaid : Prop := mouldWritesUptoRow.holds Try.pinned (OpenSpec.upto mouldWritesSpec)

/-- 'wainwrightlaw01.MouldReads', WHERE WHAT IT READS IS OF BULK AT MOST 1048576: true; the input reads as it did. -/
def mouldReadsUptoRow : OpenClaim := { program := "ytglmkmjakammhaa", sum := "1226c0c3c5794c9dd56219d21ffda14c6527e71659534bb4949b7d6090ffff38", func := "wainwright/wainwrightlaw01.MouldReads", spec := "mouldReads", apart := false, narrowed := true }
def MouldReadsUptoSaid : Prop := mouldReadsUptoRow.holds Try.pinned (OpenSpec.upto mouldReadsSpec)

/-- 'wainwrightlaw01.MouldBack', WHERE WHAT IT READS IS OF BULK AT MOST 1048576: true; the input reads as it did. -/
def mouldBackUptoRow : OpenClaim := { program := "ytglmkmjakammhaa", sum := "1226c0c3c5794c9dd56219d21ffda14c6527e71659534bb4949b7d6090ffff38", func := "wainwright/wainwrightlaw01.MouldBack", spec := "mouldBack", apart := false, narrowed := true }
def MouldBackUptoSaid : Prop := mouldBackUptoRow.holds Try.pinned (OpenSpec.upto mouldBackSpec)

/-- 'wainwrightlaw01.MouldTexts', WHERE WHAT IT READS IS OF BULK AT MOST 1048576: true; the input reads as it did. -/
def mouldTextsUptoRow : OpenClaim := { program := "ytglmkmjakammhaa", sum := "1226c0c3c5794c9dd56219d21ffda14c6527e71659534bb4949b7d6090ffff38", func := "wainwright/wainwrightlaw01.MouldTexts", spec := "mouldTexts", inPlace := ["internal/bytealg.IndexByteString"], apart := false, narrowed := true }
def MouldTextsUptoSaid : Prop := mouldTextsUptoRow.holds Try.pinned (OpenSpec.upto mouldTextsSpec)

/-- 'wainwrightlaw01.MouldSplits', WHERE WHAT IT READS IS OF BULK AT MOST 1048576: true; the input reads as it did. -/
def mouldSplitsUptoRow : OpenClaim := { program := "ytglmkmjakammhaa", sum := "1226c0c3c5794c9dd56219d21ffda14c6527e71659534bb4949b7d6090ffff38", func := "wainwright/wainwrightlaw01.MouldSplits", spec := "mouldSplits", apart := false, narrowed := true }
def MouldSplitsUptoSaid : Prop := mouldSplitsUptoRow.holds Try.pinned (OpenSpec.upto mouldSplitsSpec)

end Rows
end Go.Proofs.Ytglmkmjakammhaa
