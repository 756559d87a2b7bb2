/-
  DERIVED. GIVEN WITH THE SEED: THE CARDS: each row of YtdcdlnmgbgeeeaaDoorRows.lean that lists a variable, with what it lists TIED to the program's text (the seventh form; the later family's looks); each row that meets fmt, with fmt's text TOLD by the authors' own Lean function (tested against real Go, not proved from fmt's source: count such statements apart). THE CARD IS WHAT COUNTS. Prove the row's statement (the work); the ties are given (YtdcdlnmgbgeeeaaDoorTie.lean); close each card by the builder's one call (the guide's Derived/Test/ToyasCard.lean, 'card_holds'). Laid BY PROGRAM, IN A SANDBOX (cutbox-door.mjs). By AI agents, Wed Nov 11 2026. No macro, syntax, notation, axiom, sorry.
-/
import Derived.Test.YtdcdlnmgbgeeeaaDoorRows
import GoSem.ClaimSeven
namespace Go.Proofs.YtdcdlnmgbgeeeaaDoor
namespace Rows

/-- THE TIED CARD OF 'locumlaw04.PlanPuts'. -/
def planPutsCard : Claim7 := { stood := { row := planPutsRow, standIns := [], harness := (true, "5c20566bbcdfab8892e91c5281b884a4e83160307de0cdb028b030f1cac460e6"), looks := false }, kinds := [], alts := [], laidByText := true, laidKinds := [.data], laidTests := true, laidLooks := .later }
def PlanPutsCardSaid : Prop := Claim7.holds Tryd.pinned (.plain (OpenSpec.ofChange planPutsSpec)) planPutsCard

/-- THE TIED CARD OF 'locumlaw04.PlanGets'. -/
def planGetsCard : Claim7 := { stood := { row := planGetsRow, standIns := [], harness := (true, "5c20566bbcdfab8892e91c5281b884a4e83160307de0cdb028b030f1cac460e6"), looks := false }, kinds := [], alts := [], laidByText := true, laidKinds := [.data], laidTests := true, laidLooks := .later }
def PlanGetsCardSaid : Prop := Claim7.holds Tryd.pinned (.plain (OpenSpec.ofChange planGetsSpec)) planGetsCard

/-- THE TIED CARD OF 'locumlaw04.PlanNames'. -/
def planNamesCard : Claim7 := { stood := { row := planNamesRow, standIns := [], harness := (true, "5c20566bbcdfab8892e91c5281b884a4e83160307de0cdb028b030f1cac460e6"), looks := false }, kinds := [], alts := [], laidByText := true, laidKinds := [.data], laidTests := true, laidLooks := .later }
def PlanNamesCardSaid : Prop := Claim7.holds Tryd.pinned (.plain (OpenSpec.ofChange planNamesSpec)) planNamesCard

/-- THE TIED CARD OF 'locumlaw04.PlanBack'. -/
def planBackCard : Claim7 := { stood := { row := planBackRow, standIns := [], harness := (true, "5c20566bbcdfab8892e91c5281b884a4e83160307de0cdb028b030f1cac460e6"), looks := false }, kinds := [], alts := [], laidByText := true, laidKinds := [.data], laidTests := true, laidLooks := .later }
def PlanBackCardSaid : Prop := Claim7.holds Tryd.pinned (.plain (OpenSpec.ofChange planBackSpec)) planBackCard

/-- THE TIED CARD OF 'locumlaw04.PlanFew'. -/
def planFewCard : Claim7 := { stood := { row := planFewRow, standIns := [], harness := (true, "5c20566bbcdfab8892e91c5281b884a4e83160307de0cdb028b030f1cac460e6"), looks := false }, kinds := [], alts := [], laidByText := true, laidKinds := [.data], laidTests := true, laidLooks := .later }
def PlanFewCardSaid : Prop := Claim7.holds Tryd.pinned (.plain (OpenSpec.ofChange planFewSpec)) planFewCard

/-- THE TIED CARD OF 'locumlaw04.PlanShort'. -/
def planShortCard : Claim7 := { stood := { row := planShortRow, standIns := [], harness := (true, "5c20566bbcdfab8892e91c5281b884a4e83160307de0cdb028b030f1cac460e6"), looks := false }, kinds := [], alts := [], laidByText := true, laidKinds := [.data], laidTests := true, laidLooks := .later }
def PlanShortCardSaid : Prop := Claim7.holds Tryd.pinned (.plain (OpenSpec.ofChange planShortSpec)) planShortCard

/-- THE TIED CARD OF 'locumlaw04.PlanPercent'. -/
def planPercentCard : Claim7 := { stood := { row := planPercentRow, standIns := [], harness := (true, "5c20566bbcdfab8892e91c5281b884a4e83160307de0cdb028b030f1cac460e6"), looks := false }, kinds := [], alts := [], laidByText := true, laidKinds := [.data], laidTests := true, laidLooks := .later }
def PlanPercentCardSaid : Prop := Claim7.holds Tryd.pinned (.plain (OpenSpec.ofChange planPercentSpec)) planPercentCard

/-- THE SECOND FORM's CARD OF 'locumlaw04.PlanPuts'. -/
def planPutsUptoCard : Claim7 := { stood := { row := planPutsUptoRow, standIns := [], harness := (true, "5c20566bbcdfab8892e91c5281b884a4e83160307de0cdb028b030f1cac460e6"), looks := false }, kinds := [], alts := [], laidByText := true, laidKinds := [.data], laidTests := true, laidLooks := .later }
def PlanPutsUptoCardSaid : Prop := Claim7.holds Tryd.pinned (.plain (OpenSpec.upto planPutsSpec)) planPutsUptoCard

/-- THE SECOND FORM's CARD OF 'locumlaw04.PlanGets'. -/
def planGetsUptoCard : Claim7 := { stood := { row := planGetsUptoRow, standIns := [], harness := (true, "5c20566bbcdfab8892e91c5281b884a4e83160307de0cdb028b030f1cac460e6"), looks := false }, kinds := [], alts := [], laidByText := true, laidKinds := [.data], laidTests := true, laidLooks := .later }
def PlanGetsUptoCardSaid : Prop := Claim7.holds Tryd.pinned (.plain (OpenSpec.upto planGetsSpec)) planGetsUptoCard

/-- THE SECOND FORM's CARD OF 'locumlaw04.PlanNames'. -/
def planNamesUptoCard : Claim7 := { stood := { row := planNamesUptoRow, standIns := [], harness := (true, "5c20566bbcdfab8892e91c5281b884a4e83160307de0cdb028b030f1cac460e6"), looks := false }, kinds := [], alts := [], laidByText := true, laidKinds := [.data], laidTests := true, laidLooks := .later }
def PlanNamesUptoCardSaid : Prop := Claim7.holds Tryd.pinned (.plain (OpenSpec.upto planNamesSpec)) planNamesUptoCard

/-- THE SECOND FORM's CARD OF 'locumlaw04.PlanBack'. -/
def planBackUptoCard : Claim7 := { stood := { row := planBackUptoRow, standIns := [], harness := (true, "5c20566bbcdfab8892e91c5281b884a4e83160307de0cdb028b030f1cac460e6"), looks := false }, kinds := [], alts := [], laidByText := true, laidKinds := [.data], laidTests := true, laidLooks := .later }
def PlanBackUptoCardSaid : Prop := Claim7.holds Tryd.pinned (.plain (OpenSpec.upto planBackSpec)) planBackUptoCard

/-- THE SECOND FORM's CARD OF 'locumlaw04.PlanFew'. -/
def planFewUptoCard : Claim7 := { stood := { row := planFewUptoRow, standIns := [], harness := (true, "5c20566bbcdfab8892e91c5281b884a4e83160307de0cdb028b030f1cac460e6"), looks := false }, kinds := [], alts := [], laidByText := true, laidKinds := [.data], laidTests := true, laidLooks := .later }
def PlanFewUptoCardSaid : Prop := Claim7.holds Tryd.pinned (.plain (OpenSpec.upto planFewSpec)) planFewUptoCard

/-- THE SECOND FORM's CARD OF 'locumlaw04.PlanShort'. -/
def planShortUptoCard : Claim7 := { stood := { row := planShortUptoRow, standIns := [], harness := (true, "5c20566bbcdfab8892e91c5281b884a4e83160307de0cdb028b030f1cac460e6"), looks := false }, kinds := [], alts := [], laidByText := true, laidKinds := [.data], laidTests := true, laidLooks := .later }
def PlanShortUptoCardSaid : Prop := Claim7.holds Tryd.pinned (.plain (OpenSpec.upto planShortSpec)) planShortUptoCard

/-- THE SECOND FORM's CARD OF 'locumlaw04.PlanPercent'. -/
def planPercentUptoCard : Claim7 := { stood := { row := planPercentUptoRow, standIns := [], harness := (true, "5c20566bbcdfab8892e91c5281b884a4e83160307de0cdb028b030f1cac460e6"), looks := false }, kinds := [], alts := [], laidByText := true, laidKinds := [.data], laidTests := true, laidLooks := .later }
def PlanPercentUptoCardSaid : Prop := Claim7.holds Tryd.pinned (.plain (OpenSpec.upto planPercentSpec)) planPercentUptoCard
end Rows
end Go.Proofs.YtdcdlnmgbgeeeaaDoor
