/-
  DERIVED. GIVEN WITH THE SEED: THE CARDS: each row of YtponpgcpmlcdpaaGreatDoorRows.lean that lists a variable, with what it lists TIED to the program's text (the seventh form; the later family's looks); each row that meets fmt, with fmt's text TOLD by the authors' own Lean function (tested against real Go, not proved from fmt's source: count such statements apart). THE CARD IS WHAT COUNTS. Prove the row's statement (the work); the ties are given (YtponpgcpmlcdpaaGreatDoorTie.lean); close each card by the builder's one call (the guide's Derived/Test/ToyasCard.lean, 'card_holds'). Laid BY PROGRAM, IN A SANDBOX (cutbox-door.mjs). By AI agents, Wed Nov 11 2026. No macro, syntax, notation, axiom, sorry.
-/
import Derived.Test.YtponpgcpmlcdpaaGreatDoorRows
import GoSem.ClaimSeven
namespace Go.Proofs.YtponpgcpmlcdpaaGreatDoor
namespace Rows

/-- THE TIED CARD OF 'locumlaw15.AcceptorWaits'. -/
def acceptorWaitsCard : Claim7 := { stood := { row := acceptorWaitsRow, standIns := [], harness := (true, "129711cba0f07b1870bfbbce7cab090535af6016a4c8c8f9bce5fa75c12096b5"), looks := false }, kinds := [], alts := [], laidByText := true, laidKinds := [.data, .data], laidTests := true, laidLooks := .later }
def AcceptorWaitsCardSaid : Prop := Claim7.holds Tryz.pinned (.plain (OpenSpec.ofChange acceptorWaitsSpec)) acceptorWaitsCard

/-- THE TIED CARD OF 'locumlaw16.ProposerOne'. -/
def proposerOneCard : Claim7 := { stood := { row := proposerOneRow, standIns := [], harness := (true, "129711cba0f07b1870bfbbce7cab090535af6016a4c8c8f9bce5fa75c12096b5"), looks := false }, kinds := [], alts := [], laidByText := true, laidKinds := [.data, .data], laidTests := true, laidLooks := .later }
def ProposerOneCardSaid : Prop := Claim7.holds Tryz.pinned (.plain (OpenSpec.ofChange proposerOneSpec)) proposerOneCard

/-- THE TIED CARD OF 'locumlaw17.LeaseOne'. -/
def leaseOneCard : Claim7 := { stood := { row := leaseOneRow, standIns := [], harness := (true, "129711cba0f07b1870bfbbce7cab090535af6016a4c8c8f9bce5fa75c12096b5"), looks := false }, kinds := [], alts := [], laidByText := true, laidKinds := [.data, .data], laidTests := true, laidLooks := .later }
def LeaseOneCardSaid : Prop := Claim7.holds Tryz.pinned (.plain (OpenSpec.ofChange leaseOneSpec)) leaseOneCard

/-- THE SECOND FORM's CARD OF 'locumlaw15.AcceptorWaits'. -/
def acceptorWaitsUptoCard : Claim7 := { stood := { row := acceptorWaitsUptoRow, standIns := [], harness := (true, "129711cba0f07b1870bfbbce7cab090535af6016a4c8c8f9bce5fa75c12096b5"), looks := false }, kinds := [], alts := [], laidByText := true, laidKinds := [.data, .data], laidTests := true, laidLooks := .later }
def AcceptorWaitsUptoCardSaid : Prop := Claim7.holds Tryz.pinned (.plain (OpenSpec.upto acceptorWaitsSpec)) acceptorWaitsUptoCard

/-- THE SECOND FORM's CARD OF 'locumlaw16.ProposerOne'. -/
def proposerOneUptoCard : Claim7 := { stood := { row := proposerOneUptoRow, standIns := [], harness := (true, "129711cba0f07b1870bfbbce7cab090535af6016a4c8c8f9bce5fa75c12096b5"), looks := false }, kinds := [], alts := [], laidByText := true, laidKinds := [.data, .data], laidTests := true, laidLooks := .later }
def ProposerOneUptoCardSaid : Prop := Claim7.holds Tryz.pinned (.plain (OpenSpec.upto proposerOneSpec)) proposerOneUptoCard

/-- THE SECOND FORM's CARD OF 'locumlaw17.LeaseOne'. -/
def leaseOneUptoCard : Claim7 := { stood := { row := leaseOneUptoRow, standIns := [], harness := (true, "129711cba0f07b1870bfbbce7cab090535af6016a4c8c8f9bce5fa75c12096b5"), looks := false }, kinds := [], alts := [], laidByText := true, laidKinds := [.data, .data], laidTests := true, laidLooks := .later }
def LeaseOneUptoCardSaid : Prop := Claim7.holds Tryz.pinned (.plain (OpenSpec.upto leaseOneSpec)) leaseOneUptoCard
end Rows
end Go.Proofs.YtponpgcpmlcdpaaGreatDoor
