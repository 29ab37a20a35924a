/-
  No cell of these rows narrows 'for every input' (looked for: loops, veiled, ifaces, maps, wideKeys, modest, calm, conditions, laid).
  DERIVED. THE GIVEN ROWS OF THIS SEAT. 4 by the template 'for every input the law returns true; each argument reads behind the call as it read before'; 0 by the template 'total and deterministic' (their statements: YtbkgfkemjhaopaaGreatTotals.lean).
  GIVEN WITH THE SEED: the statements are not yours to turn. If you find one false, say at which input.
  Laid BY PROGRAM, IN A SANDBOX (cutbox-rows.mjs): the forced cells as the released guide's own fill.sh prints them over the translation 2befc8ab69188498… (all of the seat's roots in one cut). By AI agents, Wed Nov 11 2026. No macro, syntax, notation, axiom, sorry.
-/
import Derived.Test.YtbkgfkemjhaopaaGreatChecked
import GoSem.Claim
import GoSem.ClaimJoined
import GoSem.ClaimMapViews
import Derived.JoinedTies
import Derived.KernelRfl
namespace Go.Proofs.YtbkgfkemjhaopaaGreat
/- THE CELL 'sum', in the pinned program and in every row, IS THE sha256 OF THE DUMP (.gsa) THAT YtbkgfkemjhaopaaGreatProg.lean LOADS. Nothing in Lean hashes anything: it is a label: what it is worth is what the hold of that sum in a sandbox is worth. -/
noncomputable def Tryz.pinned : Pinned := { name := "ytbkgfkemjhaopaagreat", sum := "2befc8ab6918849880168614e7de5c75e510eef8306d1c0d05c95eb5a67927cc", checked := Tryz.checked }
namespace Rows
def none {H : Type} : Left H := { results := [], args := [] }

/-- 'wainwrightlaw13.StockPlays': WHATEVER THE INPUT: true; the input reads as it did. -/
def stockPlaysSpec : ChangeSpec := { name := "stockPlays", fn := fun _ => fun
  | [d1, d2, d3] => { results := [.lit (.bool true)], args := [d1, d2, d3] }
  | _ => none }
def stockPlaysRow : OpenClaim := { program := "ytbkgfkemjhaopaagreat", sum := "2befc8ab6918849880168614e7de5c75e510eef8306d1c0d05c95eb5a67927cc", func := "wainwright/wainwrightlaw13.StockPlays", spec := "stockPlays", inPlace := ["slices.overlaps[wainwright/api.Change]"], unfollowed := true, recurses := true, apart := false }
def StockPlaysSaid : Prop := stockPlaysRow.holds Tryz.pinned (OpenSpec.ofChange stockPlaysSpec)

/-- ITS FALSE NEIGHBOUR: 'it returns false'. Refute it at one input. -/
def stockPlaysWrong : ChangeSpec := { name := "stockPlays", fn := fun _ => fun
  | [d1, d2, d3] => { results := [.lit (.bool false)], args := [d1, d2, d3] }
  | _ => none }
def StockPlaysWrongFalsely : Prop := stockPlaysRow.holds Tryz.pinned (OpenSpec.ofChange stockPlaysWrong)

/-- 'wainwrightlaw13.StockOnce': WHATEVER THE INPUT: true; the input reads as it did. -/
def stockOnceSpec : ChangeSpec := { name := "stockOnce", fn := fun _ => fun
  | [d1, d2] => { results := [.lit (.bool true)], args := [d1, d2] }
  | _ => none }
def stockOnceRow : OpenClaim := { program := "ytbkgfkemjhaopaagreat", sum := "2befc8ab6918849880168614e7de5c75e510eef8306d1c0d05c95eb5a67927cc", func := "wainwright/wainwrightlaw13.StockOnce", spec := "stockOnce", inPlace := ["slices.overlaps[wainwright/api.Change]"], unfollowed := true, recurses := true, apart := false }
def StockOnceSaid : Prop := stockOnceRow.holds Tryz.pinned (OpenSpec.ofChange stockOnceSpec)

/-- ITS FALSE NEIGHBOUR: 'it returns false'. Refute it at one input. -/
def stockOnceWrong : ChangeSpec := { name := "stockOnce", fn := fun _ => fun
  | [d1, d2] => { results := [.lit (.bool false)], args := [d1, d2] }
  | _ => none }
def StockOnceWrongFalsely : Prop := stockOnceRow.holds Tryz.pinned (OpenSpec.ofChange stockOnceWrong)

/-- 'wainwrightlaw13.StockRow': WHATEVER THE INPUT: true; the input reads as it did. -/
def stockRowSpec : ChangeSpec := { name := "stockRow", fn := fun _ => fun
  | [d1, d2, d3] => { results := [.lit (.bool true)], args := [d1, d2, d3] }
  | _ => none }
def stockRowRow : OpenClaim := { program := "ytbkgfkemjhaopaagreat", sum := "2befc8ab6918849880168614e7de5c75e510eef8306d1c0d05c95eb5a67927cc", func := "wainwright/wainwrightlaw13.StockRow", spec := "stockRow", inPlace := ["slices.overlaps[wainwright/api.Change]"], unfollowed := true, recurses := true, apart := false }
def StockRowSaid : Prop := stockRowRow.holds Tryz.pinned (OpenSpec.ofChange stockRowSpec)

/-- ITS FALSE NEIGHBOUR: 'it returns false'. Refute it at one input. -/
def stockRowWrong : ChangeSpec := { name := "stockRow", fn := fun _ => fun
  | [d1, d2, d3] => { results := [.lit (.bool false)], args := [d1, d2, d3] }
  | _ => none }
def StockRowWrongFalsely : Prop := stockRowRow.holds Tryz.pinned (OpenSpec.ofChange stockRowWrong)

/-- 'wainwrightlaw13.StockNone': WHATEVER THE INPUT: true; the input reads as it did. -/
def stockNoneSpec : ChangeSpec := { name := "stockNone", fn := fun _ => fun
  | [d] => { results := [.lit (.bool true)], args := [d] }
  | _ => none }
def stockNoneRow : OpenClaim := { program := "ytbkgfkemjhaopaagreat", sum := "2befc8ab6918849880168614e7de5c75e510eef8306d1c0d05c95eb5a67927cc", func := "wainwright/wainwrightlaw13.StockNone", spec := "stockNone", inPlace := ["slices.overlaps[wainwright/api.Change]"], unfollowed := true, recurses := true, apart := false }
def StockNoneSaid : Prop := stockNoneRow.holds Tryz.pinned (OpenSpec.ofChange stockNoneSpec)

/-- ITS FALSE NEIGHBOUR: 'it returns false'. Refute it at one input. -/
def stockNoneWrong : ChangeSpec := { name := "stockNone", fn := fun _ => fun
  | [d] => { results := [.lit (.bool false)], args := [d] }
  | _ => none }
def StockNoneWrongFalsely : Prop := stockNoneRow.holds Tryz.pinned (OpenSpec.ofChange stockNoneWrong)

/- THE SECOND FORM. 'bulk': how many values and letters a reading holds, each counted each time it is reached (what is shared counts as often as it is met; a slice's spare places count too). A statement '..UptoSaid' is the law's where the arguments, and the package variables that the reading takes, are together of bulk at most 1048576: NARROWER than '..Said'. Prove '..Said' where nothing that the law and all that it calls make is longer than what came in: it says more and counts as full. Else prove '..UptoSaid'. A law counts once. -/
mutual
def uptoBulk {H : Type} : DataW H → Nat
  | .lit (.string bytes) => bytes.length + 1
  | .lit _ => 1
  | .nil => 1
  | .ptr d => uptoBulk d + 1
  | .slice elems spare => uptoBulkAll elems + uptoBulkAll spare + 1
  | .agg parts => uptoBulkAll parts + 1
  | .iface _ d => uptoBulk d + 1
  | .map entries => uptoBulkEntries entries + 1
  | .held _ => 1
def uptoBulkAll {H : Type} : List (DataW H) → Nat
  | [] => 0
  | d :: r => uptoBulk d + uptoBulkAll r
def uptoBulkEntries {H : Type} : List (Lit × DataW H) → Nat
  | [] => 0
  | x :: r => uptoBulkEntry x + uptoBulkEntries r
def uptoBulkEntry {H : Type} : Lit × DataW H → Nat
  | (.string bytes, d) => bytes.length + uptoBulk d + 1
  | (_, d) => uptoBulk d + 1
 end
def uptoSmall : (H : Type) → List (DataW H) → Bool := fun _ ds => decide (uptoBulkAll ds ≤ 1048576)
def OpenSpec.upto (s : _root_.Go.ChangeSpec) : _root_.Go.OpenSpec := { _root_.Go.OpenSpec.ofChange s with cond := some uptoSmall }

/-- 'wainwrightlaw13.StockPlays', WHERE WHAT IT READS IS OF BULK AT MOST 1048576: true; the input reads as it did. -/
def stockPlaysUptoRow : OpenClaim := { program := "ytbkgfkemjhaopaagreat", sum := "2befc8ab6918849880168614e7de5c75e510eef8306d1c0d05c95eb5a67927cc", func := "wainwright/wainwrightlaw13.StockPlays", spec := "stockPlays", inPlace := ["slices.overlaps[wainwright/api.Change]"], unfollowed := true, recurses := true, apart := false, narrowed := true }
def StockPlaysUptoSaid : Prop := stockPlaysUptoRow.holds Tryz.pinned (OpenSpec.upto stockPlaysSpec)

/-- 'wainwrightlaw13.StockOnce', WHERE WHAT IT READS IS OF BULK AT MOST 1048576: true; the input reads as it did. -/
def stockOnceUptoRow : OpenClaim := { program := "ytbkgfkemjhaopaagreat", sum := "2befc8ab6918849880168614e7de5c75e510eef8306d1c0d05c95eb5a67927cc", func := "wainwright/wainwrightlaw13.StockOnce", spec := "stockOnce", inPlace := ["slices.overlaps[wainwright/api.Change]"], unfollowed := true, recurses := true, apart := false, narrowed := true }
def StockOnceUptoSaid : Prop := stockOnceUptoRow.holds Tryz.pinned (OpenSpec.upto stockOnceSpec)

/-- 'wainwrightlaw13.StockRow', WHERE WHAT IT READS IS OF BULK AT MOST 1048576: true; the input reads as it did. -/
def stockRowUptoRow : OpenClaim := { program := "ytbkgfkemjhaopaagreat", sum := "2befc8ab6918849880168614e7de5c75e510eef8306d1c0d05c95eb5a67927cc", func := "wainwright/wainwrightlaw13.StockRow", spec := "stockRow", inPlace := ["slices.overlaps[wainwright/api.Change]"], unfollowed := true, recurses := true, apart := false, narrowed := true }
def StockRowUptoSaid : Prop := stockRowUptoRow.holds Tryz.pinned (OpenSpec.upto stockRowSpec)

/-- 'wainwrightlaw13.StockNone', WHERE WHAT IT READS IS OF BULK AT MOST 1048576: true; the input reads as it did. -/
def stockNoneUptoRow : OpenClaim := { program := "ytbkgfkemjhaopaagreat", sum := "2befc8ab6918849880168614e7de5c75e510eef8306d1c0d05c95eb5a67927cc", func := "wainwright/wainwrightlaw13.StockNone", spec := "stockNone", inPlace := ["slices.overlaps[wainwright/api.Change]"], unfollowed := true, recurses := true, apart := false, narrowed := true }
def StockNoneUptoSaid : Prop := stockNoneUptoRow.holds Tryz.pinned (OpenSpec.upto stockNoneSpec)

end Rows
end Go.Proofs.YtbkgfkemjhaopaaGreat
