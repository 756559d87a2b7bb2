/-
  DERIVED. GIVEN WITH THE SEED: THE CARDS: each row of YtbkdenlhfigjhaaDoorRows.lean that lists a variable, with what it lists TIED to the program's text (the seventh form; the later family's looks); each row that meets fmt, with fmt's text TOLD by the authors' own Lean function (tested against real Go, not proved from fmt's source: count such statements apart). THE CARD IS WHAT COUNTS. Prove the row's statement (the work); the ties are given (YtbkdenlhfigjhaaDoorTie.lean); close each card by the builder's one call (the guide's Derived/Test/ToyasCard.lean, 'card_holds'). Laid BY PROGRAM, IN A SANDBOX (cutbox-door.mjs). By AI agents, Wed Nov 11 2026. No macro, syntax, notation, axiom, sorry.
-/
import Derived.Test.YtbkdenlhfigjhaaDoorRows
import GoSem.ClaimSeven
namespace Go.Proofs.YtbkdenlhfigjhaaDoor
namespace Rows

/-- THE TIED CARD OF 'locumlaw15.AcceptorAnswers'. -/
def acceptorAnswersCard : Claim7 := { stood := { row := acceptorAnswersRow, standIns := [], harness := (true, "33a94f1cd2903354259e05241e9dd858b827f6c10c8d9c29c665998ebb5335f6"), looks := false }, kinds := [], alts := [], laidByText := true, laidKinds := [.data, .data], laidTests := true, laidLooks := .later }
def AcceptorAnswersCardSaid : Prop := Claim7.holds Tryd.pinned (.plain (OpenSpec.ofChange acceptorAnswersSpec)) acceptorAnswersCard

/-- THE TIED CARD OF 'locumlaw15.AcceptorFirst'. -/
def acceptorFirstCard : Claim7 := { stood := { row := acceptorFirstRow, standIns := [], harness := (true, "33a94f1cd2903354259e05241e9dd858b827f6c10c8d9c29c665998ebb5335f6"), looks := false }, kinds := [], alts := [], laidByText := true, laidKinds := [.data, .data], laidTests := true, laidLooks := .later }
def AcceptorFirstCardSaid : Prop := Claim7.holds Tryd.pinned (.plain (OpenSpec.ofChange acceptorFirstSpec)) acceptorFirstCard

/-- THE SECOND FORM's CARD OF 'locumlaw15.AcceptorAnswers'. -/
def acceptorAnswersUptoCard : Claim7 := { stood := { row := acceptorAnswersUptoRow, standIns := [], harness := (true, "33a94f1cd2903354259e05241e9dd858b827f6c10c8d9c29c665998ebb5335f6"), looks := false }, kinds := [], alts := [], laidByText := true, laidKinds := [.data, .data], laidTests := true, laidLooks := .later }
def AcceptorAnswersUptoCardSaid : Prop := Claim7.holds Tryd.pinned (.plain (OpenSpec.upto acceptorAnswersSpec)) acceptorAnswersUptoCard

/-- THE SECOND FORM's CARD OF 'locumlaw15.AcceptorFirst'. -/
def acceptorFirstUptoCard : Claim7 := { stood := { row := acceptorFirstUptoRow, standIns := [], harness := (true, "33a94f1cd2903354259e05241e9dd858b827f6c10c8d9c29c665998ebb5335f6"), looks := false }, kinds := [], alts := [], laidByText := true, laidKinds := [.data, .data], laidTests := true, laidLooks := .later }
def AcceptorFirstUptoCardSaid : Prop := Claim7.holds Tryd.pinned (.plain (OpenSpec.upto acceptorFirstSpec)) acceptorFirstUptoCard
end Rows
end Go.Proofs.YtbkdenlhfigjhaaDoor
