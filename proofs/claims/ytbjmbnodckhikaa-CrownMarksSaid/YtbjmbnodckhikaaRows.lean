/-
  No cell of these rows narrows 'for every input' (looked for: loops, veiled, ifaces, maps, wideKeys, modest, calm, conditions, laid).
  DERIVED. THE GIVEN ROWS OF THIS SEAT. 5 by the template 'for every input the law returns true; each argument reads behind the call as it read before'; 0 by the template 'total and deterministic' (their statements: YtbjmbnodckhikaaTotals.lean).
  GIVEN WITH THE SEED: the statements are not yours to turn. If you find one false, say at which input.
  Laid BY PROGRAM, IN A SANDBOX (cutbox-rows.mjs): the forced cells as the released guide's own fill.sh prints them over the translation db254e69b4991c73… (all of the seat's roots in one cut). By AI agents, Wed Nov 11 2026. No macro, syntax, notation, axiom, sorry.
-/
import Derived.Test.YtbjmbnodckhikaaChecked
import GoSem.Claim
import GoSem.ClaimJoined
import GoSem.ClaimMapViews
import Derived.JoinedTies
import Derived.KernelRfl
namespace Go.Proofs.Ytbjmbnodckhikaa
/- THE CELL 'sum', in the pinned program and in every row, IS THE sha256 OF THE DUMP (.gsa) THAT YtbjmbnodckhikaaProg.lean LOADS. Nothing in Lean hashes anything: it is a label: what it is worth is what the hold of that sum in a sandbox is worth. -/
noncomputable def Try.pinned : Pinned := { name := "ytbjmbnodckhikaa", sum := "db254e69b4991c733ac59601af473e05476966158dc45a2c829cf76f50bd66d8", checked := Try.checked }
namespace Rows
def none {H : Type} : Left H := { results := [], args := [] }

/-- 'wainwrightlaw10.CrownWrites': WHATEVER THE INPUT: true; the input reads as it did. -/
def crownWritesSpec : ChangeSpec := { name := "crownWrites", fn := fun _ => fun
  | [d1, d2] => { results := [.lit (.bool true)], args := [d1, d2] }
  | _ => none }
def crownWritesRow : OpenClaim := { program := "ytbjmbnodckhikaa", sum := "db254e69b4991c733ac59601af473e05476966158dc45a2c829cf76f50bd66d8", func := "wainwright/wainwrightlaw10.CrownWrites", spec := "crownWrites", apart := false }
def CrownWritesSaid : Prop := crownWritesRow.holds Try.pinned (OpenSpec.ofChange crownWritesSpec)

/-- ITS FALSE NEIGHBOUR: 'it returns false'. Refute it at one input. -/
def crownWritesWrong : ChangeSpec := { name := "crownWrites", fn := fun _ => fun
  | [d1, d2] => { results := [.lit (.bool false)], args := [d1, d2] }
  | _ => none }
def CrownWritesWrongFalsely : Prop := crownWritesRow.holds Try.pinned (OpenSpec.ofChange crownWritesWrong)

/-- 'wainwrightlaw10.CrownReads': WHATEVER THE INPUT: true; the input reads as it did. -/
def crownReadsSpec : ChangeSpec := { name := "crownReads", fn := fun _ => fun
  | [d1, d2] => { results := [.lit (.bool true)], args := [d1, d2] }
  | _ => none }
def crownReadsRow : OpenClaim := { program := "ytbjmbnodckhikaa", sum := "db254e69b4991c733ac59601af473e05476966158dc45a2c829cf76f50bd66d8", func := "wainwright/wainwrightlaw10.CrownReads", spec := "crownReads", apart := false }
def CrownReadsSaid : Prop := crownReadsRow.holds Try.pinned (OpenSpec.ofChange crownReadsSpec)

/-- ITS FALSE NEIGHBOUR: 'it returns false'. Refute it at one input. -/
def crownReadsWrong : ChangeSpec := { name := "crownReads", fn := fun _ => fun
  | [d1, d2] => { results := [.lit (.bool false)], args := [d1, d2] }
  | _ => none }
def CrownReadsWrongFalsely : Prop := crownReadsRow.holds Try.pinned (OpenSpec.ofChange crownReadsWrong)

/-- 'wainwrightlaw10.CrownCards': WHATEVER THE INPUT: true; the input reads as it did. -/
def crownCardsSpec : ChangeSpec := { name := "crownCards", fn := fun _ => fun
  | [d1, d2] => { results := [.lit (.bool true)], args := [d1, d2] }
  | _ => none }
def crownCardsRow : OpenClaim := { program := "ytbjmbnodckhikaa", sum := "db254e69b4991c733ac59601af473e05476966158dc45a2c829cf76f50bd66d8", func := "wainwright/wainwrightlaw10.CrownCards", spec := "crownCards", apart := false }
def CrownCardsSaid : Prop := crownCardsRow.holds Try.pinned (OpenSpec.ofChange crownCardsSpec)

/-- ITS FALSE NEIGHBOUR: 'it returns false'. Refute it at one input. -/
def crownCardsWrong : ChangeSpec := { name := "crownCards", fn := fun _ => fun
  | [d1, d2] => { results := [.lit (.bool false)], args := [d1, d2] }
  | _ => none }
def CrownCardsWrongFalsely : Prop := crownCardsRow.holds Try.pinned (OpenSpec.ofChange crownCardsWrong)

/-- 'wainwrightlaw10.CrownMarks': WHATEVER THE INPUT: true; the input reads as it did. -/
def crownMarksSpec : ChangeSpec := { name := "crownMarks", fn := fun _ => fun
  | [d1, d2, d3] => { results := [.lit (.bool true)], args := [d1, d2, d3] }
  | _ => none }
def crownMarksRow : OpenClaim := { program := "ytbjmbnodckhikaa", sum := "db254e69b4991c733ac59601af473e05476966158dc45a2c829cf76f50bd66d8", func := "wainwright/wainwrightlaw10.CrownMarks", spec := "crownMarks", apart := false }
def CrownMarksSaid : Prop := crownMarksRow.holds Try.pinned (OpenSpec.ofChange crownMarksSpec)

/-- ITS FALSE NEIGHBOUR: 'it returns false'. Refute it at one input. -/
def crownMarksWrong : ChangeSpec := { name := "crownMarks", fn := fun _ => fun
  | [d1, d2, d3] => { results := [.lit (.bool false)], args := [d1, d2, d3] }
  | _ => none }
def CrownMarksWrongFalsely : Prop := crownMarksRow.holds Try.pinned (OpenSpec.ofChange crownMarksWrong)

/-- 'wainwrightlaw10.CrownWay': WHATEVER THE INPUT: true; the input reads as it did. -/
def crownWaySpec : ChangeSpec := { name := "crownWay", fn := fun _ => fun
  | [d1, d2] => { results := [.lit (.bool true)], args := [d1, d2] }
  | _ => none }
def crownWayRow : OpenClaim := { program := "ytbjmbnodckhikaa", sum := "db254e69b4991c733ac59601af473e05476966158dc45a2c829cf76f50bd66d8", func := "wainwright/wainwrightlaw10.CrownWay", spec := "crownWay", apart := false }
def CrownWaySaid : Prop := crownWayRow.holds Try.pinned (OpenSpec.ofChange crownWaySpec)

/-- ITS FALSE NEIGHBOUR: 'it returns false'. Refute it at one input. -/
def crownWayWrong : ChangeSpec := { name := "crownWay", fn := fun _ => fun
  | [d1, d2] => { results := [.lit (.bool false)], args := [d1, d2] }
  | _ => none }
def CrownWayWrongFalsely : Prop := crownWayRow.holds Try.pinned (OpenSpec.ofChange crownWayWrong)

/- THE SECOND FORM. 'bulk': how many values and letters a reading holds, each counted each time it is reached (what is shared counts as often as it is met; a slice's spare places count too). A statement '..UptoSaid' is the law's where the arguments, and the package variables that the reading takes, are together of bulk at most 1048576: NARROWER than '..Said'. Prove '..Said' where nothing that the law and all that it calls make is longer than what came in: it says more and counts as full. Else prove '..UptoSaid'. A law counts once. -/
mutual
def uptoBulk {H : Type} : DataW H → Nat
  | .lit (.string bytes) => bytes.length + 1
  | .lit _ => 1
  | .nil => 1
  | .ptr d => uptoBulk d + 1
  | .slice elems spare => uptoBulkAll elems + uptoBulkAll spare + 1
  | .agg parts => uptoBulkAll parts + 1
  | .iface _ d => uptoBulk d + 1
  | .map entries => uptoBulkEntries entries + 1
  | .held _ => 1
def uptoBulkAll {H : Type} : List (DataW H) → Nat
  | [] => 0
  | d :: r => uptoBulk d + uptoBulkAll r
def uptoBulkEntries {H : Type} : List (Lit × DataW H) → Nat
  | [] => 0
  | x :: r => uptoBulkEntry x + uptoBulkEntries r
def uptoBulkEntry {H : Type} : Lit × DataW H → Nat
  | (.string bytes, d) => bytes.length + uptoBulk d + 1
  | (_, d) => uptoBulk d + 1
 end
def uptoSmall : (H : Type) → List (DataW H) → Bool := fun _ ds => decide (uptoBulkAll ds ≤ 1048576)
def OpenSpec.upto (s : _root_.Go.ChangeSpec) : _root_.Go.OpenSpec := { _root_.Go.OpenSpec.ofChange s with cond := some uptoSmall }

/-- 'wainwrightlaw10.CrownWrites', WHERE WHAT IT READS IS OF BULK AT MOST 1048576: true; the input reads as it did. -/
def crownWritesUptoRow : OpenClaim := { program := "ytbjmbnodckhikaa", sum := "db254e69b4991c733ac59601af473e05476966158dc45a2c829cf76f50bd66d8", func := "wainwright/wainwrightlaw10.CrownWrites", spec := "crownWrites", apart := false, narrowed := true }
def CrownWritesUptoSaid : Prop := crownWritesUptoRow.holds Try.pinned (OpenSpec.upto crownWritesSpec)

/-- 'wainwrightlaw10.CrownReads', WHERE WHAT IT READS IS OF BULK AT MOST 1048576: true; the input reads as it did. -/
def crownReadsUptoRow : OpenClaim := { program := "ytbjmbnodckhikaa", sum := "db254e69b4991c733ac59601af473e05476966158dc45a2c829cf76f50bd66d8", func := "wainwright/wainwrightlaw10.CrownReads", spec := "crownReads", apart := false, narrowed := true }
def CrownReadsUptoSaid : Prop := crownReadsUptoRow.holds Try.pinned (OpenSpec.upto crownReadsSpec)

/-- 'wainwrightlaw10.CrownCards', WHERE WHAT IT READS IS OF BULK AT MOST 1048576: true; the input reads as it did. -/
def crownCardsUptoRow : OpenClaim := { program := "ytbjmbnodckhikaa", sum := "db254e69b4991c733ac59601af473e05476966158dc45a2c829cf76f50bd66d8", func := "wainwright/wainwrightlaw10.CrownCards", spec := "crownCards", apart := false, narrowed := true }
def CrownCardsUptoSaid : Prop := crownCardsUptoRow.holds Try.pinned (OpenSpec.upto crownCardsSpec)

/-- 'wainwrightlaw10.CrownMarks', WHERE WHAT IT READS IS OF BULK AT MOST 1048576: true; the input reads as it did. -/
def crownMarksUptoRow : OpenClaim := { program := "ytbjmbnodckhikaa", sum := "db254e69b4991c733ac59601af473e05476966158dc45a2c829cf76f50bd66d8", func := "wainwright/wainwrightlaw10.CrownMarks", spec := "crownMarks", apart := false, narrowed := true }
def CrownMarksUptoSaid : Prop := crownMarksUptoRow.holds Try.pinned (OpenSpec.upto crownMarksSpec)

/-- 'wainwrightlaw10.CrownWay', WHERE WHAT IT READS IS OF BULK AT MOST 1048576: true; the input reads as it did. -/
def crownWayUptoRow : OpenClaim := { program := "ytbjmbnodckhikaa", sum := "db254e69b4991c733ac59601af473e05476966158dc45a2c829cf76f50bd66d8", func := "wainwright/wainwrightlaw10.CrownWay", spec := "crownWay", apart := false, narrowed := true }
def CrownWayUptoSaid : Prop := crownWayUptoRow.holds Try.pinned (OpenSpec.upto crownWaySpec)

end Rows
end Go.Proofs.Ytbjmbnodckhikaa
