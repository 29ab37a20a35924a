/-
  No cell of these rows narrows 'for every input' (looked for: loops, veiled, ifaces, maps, wideKeys, modest, calm, conditions, laid).
  DERIVED. THE GIVEN ROWS OF THIS SEAT. 4 by the template 'for every input the law returns true; each argument reads behind the call as it read before'; 0 by the template 'total and deterministic' (their statements: YtppbonjhckakiaaGreatTotals.lean).
  GIVEN WITH THE SEED: the statements are not yours to turn. If you find one false, say at which input.
  Laid BY PROGRAM, IN A SANDBOX (cutbox-rows.mjs): the forced cells as the released guide's own fill.sh prints them over the translation 1274ace9d34a1002… (all of the seat's roots in one cut). By AI agents, Wed Nov 11 2026. No macro, syntax, notation, axiom, sorry.
-/
import Derived.Test.YtppbonjhckakiaaGreatChecked
import GoSem.Claim
import GoSem.ClaimJoined
import GoSem.ClaimMapViews
import Derived.JoinedTies
import Derived.KernelRfl
namespace Go.Proofs.YtppbonjhckakiaaGreat
/- THE CELL 'sum', in the pinned program and in every row, IS THE sha256 OF THE DUMP (.gsa) THAT YtppbonjhckakiaaGreatProg.lean LOADS. Nothing in Lean hashes anything: it is a label: what it is worth is what the hold of that sum in a sandbox is worth. -/
noncomputable def Tryz.pinned : Pinned := { name := "ytppbonjhckakiaagreat", sum := "1274ace9d34a10021d405f4d829a66cf08228f426de4be3dae2f138c5e3eb59f", checked := Tryz.checked }
namespace Rows
def none {H : Type} : Left H := { results := [], args := [] }

/-- 'wainwrightlaw14.ChainsBack': WHATEVER THE INPUT: true; the input reads as it did. -/
def chainsBackSpec : ChangeSpec := { name := "chainsBack", fn := fun _ => fun
  | [d1, d2] => { results := [.lit (.bool true)], args := [d1, d2] }
  | _ => none }
def chainsBackRow : OpenClaim := { program := "ytppbonjhckakiaagreat", sum := "1274ace9d34a10021d405f4d829a66cf08228f426de4be3dae2f138c5e3eb59f", func := "wainwright/wainwrightlaw14.ChainsBack", spec := "chainsBack", inPlace := ["slices.overlaps[wainwright/api.Change]"], unfollowed := true, recurses := true, apart := false }
def ChainsBackSaid : Prop := chainsBackRow.holds Tryz.pinned (OpenSpec.ofChange chainsBackSpec)

/-- ITS FALSE NEIGHBOUR: 'it returns false'. Refute it at one input. -/
def chainsBackWrong : ChangeSpec := { name := "chainsBack", fn := fun _ => fun
  | [d1, d2] => { results := [.lit (.bool false)], args := [d1, d2] }
  | _ => none }
def ChainsBackWrongFalsely : Prop := chainsBackRow.holds Tryz.pinned (OpenSpec.ofChange chainsBackWrong)

/-- 'wainwrightlaw14.ChainsDrop': WHATEVER THE INPUT: true; the input reads as it did. -/
def chainsDropSpec : ChangeSpec := { name := "chainsDrop", fn := fun _ => fun
  | [d1, d2] => { results := [.lit (.bool true)], args := [d1, d2] }
  | _ => none }
def chainsDropRow : OpenClaim := { program := "ytppbonjhckakiaagreat", sum := "1274ace9d34a10021d405f4d829a66cf08228f426de4be3dae2f138c5e3eb59f", func := "wainwright/wainwrightlaw14.ChainsDrop", spec := "chainsDrop", inPlace := ["slices.overlaps[wainwright/api.Change]"], unfollowed := true, recurses := true, apart := false }
def ChainsDropSaid : Prop := chainsDropRow.holds Tryz.pinned (OpenSpec.ofChange chainsDropSpec)

/-- ITS FALSE NEIGHBOUR: 'it returns false'. Refute it at one input. -/
def chainsDropWrong : ChangeSpec := { name := "chainsDrop", fn := fun _ => fun
  | [d1, d2] => { results := [.lit (.bool false)], args := [d1, d2] }
  | _ => none }
def ChainsDropWrongFalsely : Prop := chainsDropRow.holds Tryz.pinned (OpenSpec.ofChange chainsDropWrong)

/-- 'wainwrightlaw14.ChainsApart': WHATEVER THE INPUT: true; the input reads as it did. -/
def chainsApartSpec : ChangeSpec := { name := "chainsApart", fn := fun _ => fun
  | [d1, d2] => { results := [.lit (.bool true)], args := [d1, d2] }
  | _ => none }
def chainsApartRow : OpenClaim := { program := "ytppbonjhckakiaagreat", sum := "1274ace9d34a10021d405f4d829a66cf08228f426de4be3dae2f138c5e3eb59f", func := "wainwright/wainwrightlaw14.ChainsApart", spec := "chainsApart", inPlace := ["slices.overlaps[wainwright/api.Change]"], unfollowed := true, recurses := true, apart := false }
def ChainsApartSaid : Prop := chainsApartRow.holds Tryz.pinned (OpenSpec.ofChange chainsApartSpec)

/-- ITS FALSE NEIGHBOUR: 'it returns false'. Refute it at one input. -/
def chainsApartWrong : ChangeSpec := { name := "chainsApart", fn := fun _ => fun
  | [d1, d2] => { results := [.lit (.bool false)], args := [d1, d2] }
  | _ => none }
def ChainsApartWrongFalsely : Prop := chainsApartRow.holds Tryz.pinned (OpenSpec.ofChange chainsApartWrong)

/-- 'wainwrightlaw14.ChainsOdd': WHATEVER THE INPUT: true; the input reads as it did. -/
def chainsOddSpec : ChangeSpec := { name := "chainsOdd", fn := fun _ => fun
  | [d1, d2] => { results := [.lit (.bool true)], args := [d1, d2] }
  | _ => none }
def chainsOddRow : OpenClaim := { program := "ytppbonjhckakiaagreat", sum := "1274ace9d34a10021d405f4d829a66cf08228f426de4be3dae2f138c5e3eb59f", func := "wainwright/wainwrightlaw14.ChainsOdd", spec := "chainsOdd", inPlace := ["slices.overlaps[wainwright/api.Change]"], unfollowed := true, recurses := true, apart := false }
def ChainsOddSaid : Prop := chainsOddRow.holds Tryz.pinned (OpenSpec.ofChange chainsOddSpec)

/-- ITS FALSE NEIGHBOUR: 'it returns false'. Refute it at one input. -/
def chainsOddWrong : ChangeSpec := { name := "chainsOdd", fn := fun _ => fun
  | [d1, d2] => { results := [.lit (.bool false)], args := [d1, d2] }
  | _ => none }
def ChainsOddWrongFalsely : Prop := chainsOddRow.holds Tryz.pinned (OpenSpec.ofChange chainsOddWrong)

/- THE SECOND FORM. 'bulk': how many values and letters a reading holds, each counted each time it is reached (what is shared counts as often as it is met; a slice's spare places count too). A statement '..UptoSaid' is the law's where the arguments, and the package variables that the reading takes, are together of bulk at most 1048576: NARROWER than '..Said'. Prove '..Said' where nothing that the law and all that it calls make is longer than what came in: it says more and counts as full. Else prove '..UptoSaid'. A law counts once. -/
mutual
def uptoBulk {H : Type} : DataW H → Nat
  | .lit (.string bytes) => bytes.length + 1
  | .lit _ => 1
  | .nil => 1
  | .ptr d => uptoBulk d + 1
  | .slice elems spare => uptoBulkAll elems + uptoBulkAll spare + 1
  | .agg parts => uptoBulkAll parts + 1
  | .iface _ d => uptoBulk d + 1
  | .map entries => uptoBulkEntries entries + 1
  | .held _ => 1
def uptoBulkAll {H : Type} : List (DataW H) → Nat
  | [] => 0
  | d :: r => uptoBulk d + uptoBulkAll r
def uptoBulkEntries {H : Type} : List (Lit × DataW H) → Nat
  | [] => 0
  | x :: r => uptoBulkEntry x + uptoBulkEntries r
def uptoBulkEntry {H : Type} : Lit × DataW H → Nat
  | (.string bytes, d) => bytes.length + uptoBulk d + 1
  | (_, d) => uptoBulk d + 1
 end
def uptoSmall : (H : Type) → List (DataW H) → Bool := fun _ ds => decide (uptoBulkAll ds ≤ 1048576)
def OpenSpec.upto (s : _root_.Go.ChangeSpec) : _root_.Go.OpenSpec := { _root_.Go.OpenSpec.ofChange s with cond := some uptoSmall }

/-- 'wainwrightlaw14.ChainsBack', WHERE WHAT IT READS IS OF BULK AT MOST 1048576: true; the input reads as it did. -/
def chainsBackUptoRow : OpenClaim := { program := "ytppbonjhckakiaagreat", sum := "1274ace9d34a10021d405f4d829a66cf08228f426de4be3dae2f138c5e3eb59f", func := "wainwright/wainwrightlaw14.ChainsBack", spec := "chainsBack", inPlace := ["slices.overlaps[wainwright/api.Change]"], unfollowed := true, recurses := true, apart := false, narrowed := true }
def ChainsBackUptoSaid : Prop := chainsBackUptoRow.holds Tryz.pinned (OpenSpec.upto chainsBackSpec)

/-- 'wainwrightlaw14.ChainsDrop', WHERE WHAT IT READS IS OF BULK AT MOST 1048576: true; the input reads as it did. -/
def chainsDropUptoRow : OpenClaim := { program := "ytppbonjhckakiaagreat", sum := "1274ace9d34a10021d405f4d829a66cf08228f426de4be3dae2f138c5e3eb59f", func := "wainwright/wainwrightlaw14.ChainsDrop", spec := "chainsDrop", inPlace := ["slices.overlaps[wainwright/api.Change]"], unfollowed := true, recurses := true, apart := false, narrowed := true }
def ChainsDropUptoSaid : Prop := chainsDropUptoRow.holds Tryz.pinned (OpenSpec.upto chainsDropSpec)

/-- 'wainwrightlaw14.ChainsApart', WHERE WHAT IT READS IS OF BULK AT MOST 1048576: true; the input reads as it did. -/
def chainsApartUptoRow : OpenClaim := { program := "ytppbonjhckakiaagreat", sum := "1274ace9d34a10021d405f4d829a66cf08228f426de4be3dae2f138c5e3eb59f", func := "wainwright/wainwrightlaw14.ChainsApart", spec := "chainsApart", inPlace := ["slices.overlaps[wainwright/api.Change]"], unfollowed := true, recurses := true, apart := false, narrowed := true }
def ChainsApartUptoSaid : Prop := chainsApartUptoRow.holds Tryz.pinned (OpenSpec.upto chainsApartSpec)

/-- 'wainwrightlaw14.ChainsOdd', WHERE WHAT IT READS IS OF BULK AT MOST 1048576: true; the input reads as it did. -/
def chainsOddUptoRow : OpenClaim := { program := "ytppbonjhckakiaagreat", sum := "1274ace9d34a10021d405f4d829a66cf08228f426de4be3dae2f138c5e3eb59f", func := "wainwright/wainwrightlaw14.ChainsOdd", spec := "chainsOdd", inPlace := ["slices.overlaps[wainwright/api.Change]"], unfollowed := true, recurses := true, apart := false, narrowed := true }
def ChainsOddUptoSaid : Prop := chainsOddUptoRow.holds Tryz.pinned (OpenSpec.upto chainsOddSpec)

end Rows
end Go.Proofs.YtppbonjhckakiaaGreat
