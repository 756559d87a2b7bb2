/-
  DERIVED. GIVEN WITH THE SEED: THE CARDS: each row of YteebjplkkglfjaaGreatDoorRows.lean that lists a variable, with what it lists TIED to the program's text (the seventh form; the later family's looks); each row that meets fmt, with fmt's text TOLD by the authors' own Lean function (tested against real Go, not proved from fmt's source: count such statements apart). THE CARD IS WHAT COUNTS. Prove the row's statement (the work); the ties are given (YteebjplkkglfjaaGreatDoorTie.lean); close each card by the builder's one call (the guide's Derived/Test/ToyasCard.lean, 'card_holds'). Laid BY PROGRAM, IN A SANDBOX (cutbox-door.mjs). By AI agents, Wed Nov 11 2026. No macro, syntax, notation, axiom, sorry.
-/
import Derived.Test.YteebjplkkglfjaaGreatDoorRows
import GoSem.ClaimSeven
namespace Go.Proofs.YteebjplkkglfjaaGreatDoor
namespace Rows

/-- THE TIED CARD OF 'locumlaw15.AcceptorKeeps'. -/
def acceptorKeepsCard : Claim7 := { stood := { row := acceptorKeepsRow, standIns := [], harness := (true, "fe115ea6c1d8d4a2bbd3fba8bc5ac05892605c4e2e459d741b37cc124fb5fbed"), looks := false }, kinds := [], alts := [], laidByText := true, laidKinds := [.data, .data], laidTests := true, laidLooks := .later }
def AcceptorKeepsCardSaid : Prop := Claim7.holds Tryz.pinned (.plain (OpenSpec.ofChange acceptorKeepsSpec)) acceptorKeepsCard

/-- THE TIED CARD OF 'locumlaw15.AcceptorWaits'. -/
def acceptorWaitsCard : Claim7 := { stood := { row := acceptorWaitsRow, standIns := [], harness := (true, "fe115ea6c1d8d4a2bbd3fba8bc5ac05892605c4e2e459d741b37cc124fb5fbed"), looks := false }, kinds := [], alts := [], laidByText := true, laidKinds := [.data, .data], laidTests := true, laidLooks := .later }
def AcceptorWaitsCardSaid : Prop := Claim7.holds Tryz.pinned (.plain (OpenSpec.ofChange acceptorWaitsSpec)) acceptorWaitsCard

/-- THE TIED CARD OF 'locumlaw15.AcceptorLeads'. -/
def acceptorLeadsCard : Claim7 := { stood := { row := acceptorLeadsRow, standIns := [], harness := (true, "fe115ea6c1d8d4a2bbd3fba8bc5ac05892605c4e2e459d741b37cc124fb5fbed"), looks := false }, kinds := [], alts := [], laidByText := true, laidKinds := [.data, .data], laidTests := true, laidLooks := .later }
def AcceptorLeadsCardSaid : Prop := Claim7.holds Tryz.pinned (.plain (OpenSpec.ofChange acceptorLeadsSpec)) acceptorLeadsCard

/-- THE TIED CARD OF 'locumlaw15.AcceptorBack'. -/
def acceptorBackCard : Claim7 := { stood := { row := acceptorBackRow, standIns := [], harness := (true, "fe115ea6c1d8d4a2bbd3fba8bc5ac05892605c4e2e459d741b37cc124fb5fbed"), looks := false }, kinds := [], alts := [], laidByText := true, laidKinds := [.data, .data], laidTests := true, laidLooks := .later }
def AcceptorBackCardSaid : Prop := Claim7.holds Tryz.pinned (.plain (OpenSpec.ofChange acceptorBackSpec)) acceptorBackCard

/-- THE TIED CARD OF 'locumlaw16.ProposerOne'. -/
def proposerOneCard : Claim7 := { stood := { row := proposerOneRow, standIns := [], harness := (true, "fe115ea6c1d8d4a2bbd3fba8bc5ac05892605c4e2e459d741b37cc124fb5fbed"), looks := false }, kinds := [], alts := [], laidByText := true, laidKinds := [.data, .data], laidTests := true, laidLooks := .later }
def ProposerOneCardSaid : Prop := Claim7.holds Tryz.pinned (.plain (OpenSpec.ofChange proposerOneSpec)) proposerOneCard

/-- THE SECOND FORM's CARD OF 'locumlaw15.AcceptorKeeps'. -/
def acceptorKeepsUptoCard : Claim7 := { stood := { row := acceptorKeepsUptoRow, standIns := [], harness := (true, "fe115ea6c1d8d4a2bbd3fba8bc5ac05892605c4e2e459d741b37cc124fb5fbed"), looks := false }, kinds := [], alts := [], laidByText := true, laidKinds := [.data, .data], laidTests := true, laidLooks := .later }
def AcceptorKeepsUptoCardSaid : Prop := Claim7.holds Tryz.pinned (.plain (OpenSpec.upto acceptorKeepsSpec)) acceptorKeepsUptoCard

/-- THE SECOND FORM's CARD OF 'locumlaw15.AcceptorWaits'. -/
def acceptorWaitsUptoCard : Claim7 := { stood := { row := acceptorWaitsUptoRow, standIns := [], harness := (true, "fe115ea6c1d8d4a2bbd3fba8bc5ac05892605c4e2e459d741b37cc124fb5fbed"), looks := false }, kinds := [], alts := [], laidByText := true, laidKinds := [.data, .data], laidTests := true, laidLooks := .later }
def AcceptorWaitsUptoCardSaid : Prop := Claim7.holds Tryz.pinned (.plain (OpenSpec.upto acceptorWaitsSpec)) acceptorWaitsUptoCard

/-- THE SECOND FORM's CARD OF 'locumlaw15.AcceptorLeads'. -/
def acceptorLeadsUptoCard : Claim7 := { stood := { row := acceptorLeadsUptoRow, standIns := [], harness := (true, "fe115ea6c1d8d4a2bbd3fba8bc5ac05892605c4e2e459d741b37cc124fb5fbed"), looks := false }, kinds := [], alts := [], laidByText := true, laidKinds := [.data, .data], laidTests := true, laidLooks := .later }
def AcceptorLeadsUptoCardSaid : Prop := Claim7.holds Tryz.pinned (.plain (OpenSpec.upto acceptorLeadsSpec)) acceptorLeadsUptoCard

/-- THE SECOND FORM's CARD OF 'locumlaw15.AcceptorBack'. -/
def acceptorBackUptoCard : Claim7 := { stood := { row := acceptorBackUptoRow, standIns := [], harness := (true, "fe115ea6c1d8d4a2bbd3fba8bc5ac05892605c4e2e459d741b37cc124fb5fbed"), looks := false }, kinds := [], alts := [], laidByText := true, laidKinds := [.data, .data], laidTests := true, laidLooks := .later }
def AcceptorBackUptoCardSaid : Prop := Claim7.holds Tryz.pinned (.plain (OpenSpec.upto acceptorBackSpec)) acceptorBackUptoCard

/-- THE SECOND FORM's CARD OF 'locumlaw16.ProposerOne'. -/
def proposerOneUptoCard : Claim7 := { stood := { row := proposerOneUptoRow, standIns := [], harness := (true, "fe115ea6c1d8d4a2bbd3fba8bc5ac05892605c4e2e459d741b37cc124fb5fbed"), looks := false }, kinds := [], alts := [], laidByText := true, laidKinds := [.data, .data], laidTests := true, laidLooks := .later }
def ProposerOneUptoCardSaid : Prop := Claim7.holds Tryz.pinned (.plain (OpenSpec.upto proposerOneSpec)) proposerOneUptoCard
end Rows
end Go.Proofs.YteebjplkkglfjaaGreatDoor
