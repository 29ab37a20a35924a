/-
  DERIVED. GIVEN WITH THE SEED: THE CARDS: each row of YtcijpefddicmiaaDoorRows.lean that lists a variable, with what it lists TIED to the program's text (the seventh form; the later family's looks); each row that meets fmt, with fmt's text TOLD by the authors' own Lean function (tested against real Go, not proved from fmt's source: count such statements apart). THE CARD IS WHAT COUNTS. Prove the row's statement (the work); the ties are given (YtcijpefddicmiaaDoorTie.lean); close each card by the builder's one call (the guide's Derived/Test/ToyasCard.lean, 'card_holds'). Laid BY PROGRAM, IN A SANDBOX (cutbox-door.mjs). By AI agents, Wed Nov 11 2026. No macro, syntax, notation, axiom, sorry.
-/
import Derived.Test.YtcijpefddicmiaaDoorRows
import GoSem.ClaimSeven
namespace Go.Proofs.YtcijpefddicmiaaDoor
namespace Rows

/-- THE TIED CARD OF 'wainwrightlaw06.PathsNames'. -/
def pathsNamesCard : Claim7 := { stood := { row := pathsNamesRow, standIns := [], harness := (true, "0704139ed722d04aeb671207528e4375d1497b3764c93c83cee7d66e3859cc24"), looks := false }, kinds := [], alts := [], laidByText := true, laidKinds := [.data, .pinned], laidTests := true, laidLooks := .later }
def PathsNamesCardSaid : Prop := Claim7.holds Tryd.pinned (.plain (OpenSpec.ofChange pathsNamesSpec)) pathsNamesCard

/-- THE TIED CARD OF 'wainwrightlaw06.PathsParents'. -/
def pathsParentsCard : Claim7 := { stood := { row := pathsParentsRow, standIns := [], harness := (true, "0704139ed722d04aeb671207528e4375d1497b3764c93c83cee7d66e3859cc24"), looks := false }, kinds := [], alts := [], laidByText := true, laidKinds := [.data, .pinned], laidTests := true, laidLooks := .later }
def PathsParentsCardSaid : Prop := Claim7.holds Tryd.pinned (.plain (OpenSpec.ofChange pathsParentsSpec)) pathsParentsCard

/-- THE TIED CARD OF 'wainwrightlaw06.PathsJoin'. -/
def pathsJoinCard : Claim7 := { stood := { row := pathsJoinRow, standIns := [], harness := (true, "0704139ed722d04aeb671207528e4375d1497b3764c93c83cee7d66e3859cc24"), looks := false }, kinds := [], alts := [], laidByText := true, laidKinds := [.data, .pinned], laidTests := true, laidLooks := .later }
def PathsJoinCardSaid : Prop := Claim7.holds Tryd.pinned (.plain (OpenSpec.ofChange pathsJoinSpec)) pathsJoinCard

/-- THE TIED CARD OF 'wainwrightlaw06.PathsBack'. -/
def pathsBackCard : Claim7 := { stood := { row := pathsBackRow, standIns := [], harness := (true, "0704139ed722d04aeb671207528e4375d1497b3764c93c83cee7d66e3859cc24"), looks := false }, kinds := [], alts := [], laidByText := true, laidKinds := [.data, .pinned], laidTests := true, laidLooks := .later }
def PathsBackCardSaid : Prop := Claim7.holds Tryd.pinned (.plain (OpenSpec.ofChange pathsBackSpec)) pathsBackCard

/-- THE TIED CARD OF 'wainwrightlaw06.PathsOrder'. -/
def pathsOrderCard : Claim7 := { stood := { row := pathsOrderRow, standIns := [], harness := (true, "0704139ed722d04aeb671207528e4375d1497b3764c93c83cee7d66e3859cc24"), looks := false }, kinds := [], alts := [], laidByText := true, laidKinds := [.data, .pinned], laidTests := true, laidLooks := .later }
def PathsOrderCardSaid : Prop := Claim7.holds Tryd.pinned (.plain (OpenSpec.ofChange pathsOrderSpec)) pathsOrderCard

/-- THE SECOND FORM's CARD OF 'wainwrightlaw06.PathsNames'. -/
def pathsNamesUptoCard : Claim7 := { stood := { row := pathsNamesUptoRow, standIns := [], harness := (true, "0704139ed722d04aeb671207528e4375d1497b3764c93c83cee7d66e3859cc24"), looks := false }, kinds := [], alts := [], laidByText := true, laidKinds := [.data, .pinned], laidTests := true, laidLooks := .later }
def PathsNamesUptoCardSaid : Prop := Claim7.holds Tryd.pinned (.plain (OpenSpec.upto pathsNamesSpec)) pathsNamesUptoCard

/-- THE SECOND FORM's CARD OF 'wainwrightlaw06.PathsParents'. -/
def pathsParentsUptoCard : Claim7 := { stood := { row := pathsParentsUptoRow, standIns := [], harness := (true, "0704139ed722d04aeb671207528e4375d1497b3764c93c83cee7d66e3859cc24"), looks := false }, kinds := [], alts := [], laidByText := true, laidKinds := [.data, .pinned], laidTests := true, laidLooks := .later }
def PathsParentsUptoCardSaid : Prop := Claim7.holds Tryd.pinned (.plain (OpenSpec.upto pathsParentsSpec)) pathsParentsUptoCard

/-- THE SECOND FORM's CARD OF 'wainwrightlaw06.PathsJoin'. -/
def pathsJoinUptoCard : Claim7 := { stood := { row := pathsJoinUptoRow, standIns := [], harness := (true, "0704139ed722d04aeb671207528e4375d1497b3764c93c83cee7d66e3859cc24"), looks := false }, kinds := [], alts := [], laidByText := true, laidKinds := [.data, .pinned], laidTests := true, laidLooks := .later }
def PathsJoinUptoCardSaid : Prop := Claim7.holds Tryd.pinned (.plain (OpenSpec.upto pathsJoinSpec)) pathsJoinUptoCard

/-- THE SECOND FORM's CARD OF 'wainwrightlaw06.PathsBack'. -/
def pathsBackUptoCard : Claim7 := { stood := { row := pathsBackUptoRow, standIns := [], harness := (true, "0704139ed722d04aeb671207528e4375d1497b3764c93c83cee7d66e3859cc24"), looks := false }, kinds := [], alts := [], laidByText := true, laidKinds := [.data, .pinned], laidTests := true, laidLooks := .later }
def PathsBackUptoCardSaid : Prop := Claim7.holds Tryd.pinned (.plain (OpenSpec.upto pathsBackSpec)) pathsBackUptoCard

/-- THE SECOND FORM's CARD OF 'wainwrightlaw06.PathsOrder'. -/
def pathsOrderUptoCard : Claim7 := { stood := { row := pathsOrderUptoRow, standIns := [], harness := (true, "0704139ed722d04aeb671207528e4375d1497b3764c93c83cee7d66e3859cc24"), looks := false }, kinds := [], alts := [], laidByText := true, laidKinds := [.data, .pinned], laidTests := true, laidLooks := .later }
def PathsOrderUptoCardSaid : Prop := Claim7.holds Tryd.pinned (.plain (OpenSpec.upto pathsOrderSpec)) pathsOrderUptoCard
end Rows
end Go.Proofs.YtcijpefddicmiaaDoor
