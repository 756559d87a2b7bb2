/-
  DERIVED. GIVEN WITH THE SEED: THE CARDS: each row of YtpbogacodhjlfaaDoorRows.lean that lists a variable, with what it lists TIED to the program's text (the seventh form; the later family's looks); each row that meets fmt, with fmt's text TOLD by the authors' own Lean function (tested against real Go, not proved from fmt's source: count such statements apart). THE CARD IS WHAT COUNTS. Prove the row's statement (the work); the ties are given (YtpbogacodhjlfaaDoorTie.lean); close each card by the builder's one call (the guide's Derived/Test/ToyasCard.lean, 'card_holds'). Laid BY PROGRAM, IN A SANDBOX (cutbox-door.mjs). By AI agents, Wed Nov 11 2026. No macro, syntax, notation, axiom, sorry.
-/
import Derived.Test.YtpbogacodhjlfaaDoorRows
import GoSem.ClaimSeven
namespace Go.Proofs.YtpbogacodhjlfaaDoor
namespace Rows

/-- THE TIED CARD OF 'locumlaw13.PolicyNext'. -/
def policyNextCard : Claim7 := { stood := { row := policyNextRow, standIns := [], harness := (true, "7a05ac6bda2cfc5df8a3e5b99632a3661171d4b8d53de246d03f2fcf46105931"), looks := false }, kinds := [], alts := [], laidByText := true, laidKinds := [.data, .data, .data], laidTests := true, laidLooks := .later }
def PolicyNextCardSaid : Prop := Claim7.holds Tryd.pinned (.plain (OpenSpec.ofChange policyNextSpec)) policyNextCard

/-- THE SECOND FORM's CARD OF 'locumlaw13.PolicyNext'. -/
def policyNextUptoCard : Claim7 := { stood := { row := policyNextUptoRow, standIns := [], harness := (true, "7a05ac6bda2cfc5df8a3e5b99632a3661171d4b8d53de246d03f2fcf46105931"), looks := false }, kinds := [], alts := [], laidByText := true, laidKinds := [.data, .data, .data], laidTests := true, laidLooks := .later }
def PolicyNextUptoCardSaid : Prop := Claim7.holds Tryd.pinned (.plain (OpenSpec.upto policyNextSpec)) policyNextUptoCard
end Rows
end Go.Proofs.YtpbogacodhjlfaaDoor
