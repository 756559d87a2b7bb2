/-
  DERIVED. GIVEN WITH THE SEED: THE CARDS: each row of YtgpagddaopgdgaaDoorRows.lean that lists a variable, with what it lists TIED to the program's text (the seventh form; the later family's looks); each row that meets fmt, with fmt's text TOLD by the authors' own Lean function (tested against real Go, not proved from fmt's source: count such statements apart). THE CARD IS WHAT COUNTS. Prove the row's statement (the work); the ties are given (YtgpagddaopgdgaaDoorTie.lean); close each card by the builder's one call (the guide's Derived/Test/ToyasCard.lean, 'card_holds'). Laid BY PROGRAM, IN A SANDBOX (cutbox-door.mjs). By AI agents, Wed Nov 11 2026. No macro, syntax, notation, axiom, sorry.
-/
import Derived.Test.YtgpagddaopgdgaaDoorRows
import GoSem.ClaimSeven
namespace Go.Proofs.YtgpagddaopgdgaaDoor
namespace Rows

/-- THE TIED CARD OF 'locumlaw06.JournalPlays'. -/
def journalPlaysCard : Claim7 := { stood := { row := journalPlaysRow, standIns := [], harness := (true, "d288dc9783cadb763173eb208f41de4f28df0c9309f9519585735afa7b673ab8"), looks := false }, kinds := [], alts := [], laidByText := true, laidKinds := [.data], laidTests := true, laidLooks := .later }
def JournalPlaysCardSaid : Prop := Claim7.holds Tryd.pinned (.plain (OpenSpec.ofChange journalPlaysSpec)) journalPlaysCard

/-- THE TIED CARD OF 'locumlaw06.JournalRecovers'. -/
def journalRecoversCard : Claim7 := { stood := { row := journalRecoversRow, standIns := [], harness := (true, "d288dc9783cadb763173eb208f41de4f28df0c9309f9519585735afa7b673ab8"), looks := false }, kinds := [], alts := [], laidByText := true, laidKinds := [.data], laidTests := true, laidLooks := .later }
def JournalRecoversCardSaid : Prop := Claim7.holds Tryd.pinned (.plain (OpenSpec.ofChange journalRecoversSpec)) journalRecoversCard

/-- THE TIED CARD OF 'locumlaw06.JournalFuse'. -/
def journalFuseCard : Claim7 := { stood := { row := journalFuseRow, standIns := [], harness := (true, "d288dc9783cadb763173eb208f41de4f28df0c9309f9519585735afa7b673ab8"), looks := false }, kinds := [], alts := [], laidByText := true, laidKinds := [.data], laidTests := true, laidLooks := .later }
def JournalFuseCardSaid : Prop := Claim7.holds Tryd.pinned (.plain (OpenSpec.ofChange journalFuseSpec)) journalFuseCard

/-- THE TIED CARD OF 'locumlaw06.JournalLost'. -/
def journalLostCard : Claim7 := { stood := { row := journalLostRow, standIns := [], harness := (true, "d288dc9783cadb763173eb208f41de4f28df0c9309f9519585735afa7b673ab8"), looks := false }, kinds := [], alts := [], laidByText := true, laidKinds := [.data], laidTests := true, laidLooks := .later }
def JournalLostCardSaid : Prop := Claim7.holds Tryd.pinned (.plain (OpenSpec.ofChange journalLostSpec)) journalLostCard

/-- THE TIED CARD OF 'locumlaw06.JournalDown'. -/
def journalDownCard : Claim7 := { stood := { row := journalDownRow, standIns := [], harness := (true, "d288dc9783cadb763173eb208f41de4f28df0c9309f9519585735afa7b673ab8"), looks := false }, kinds := [], alts := [], laidByText := true, laidKinds := [.data], laidTests := true, laidLooks := .later }
def JournalDownCardSaid : Prop := Claim7.holds Tryd.pinned (.plain (OpenSpec.ofChange journalDownSpec)) journalDownCard

/-- THE SECOND FORM's CARD OF 'locumlaw06.JournalPlays'. -/
def journalPlaysUptoCard : Claim7 := { stood := { row := journalPlaysUptoRow, standIns := [], harness := (true, "d288dc9783cadb763173eb208f41de4f28df0c9309f9519585735afa7b673ab8"), looks := false }, kinds := [], alts := [], laidByText := true, laidKinds := [.data], laidTests := true, laidLooks := .later }
def JournalPlaysUptoCardSaid : Prop := Claim7.holds Tryd.pinned (.plain (OpenSpec.upto journalPlaysSpec)) journalPlaysUptoCard

/-- THE SECOND FORM's CARD OF 'locumlaw06.JournalRecovers'. -/
def journalRecoversUptoCard : Claim7 := { stood := { row := journalRecoversUptoRow, standIns := [], harness := (true, "d288dc9783cadb763173eb208f41de4f28df0c9309f9519585735afa7b673ab8"), looks := false }, kinds := [], alts := [], laidByText := true, laidKinds := [.data], laidTests := true, laidLooks := .later }
def JournalRecoversUptoCardSaid : Prop := Claim7.holds Tryd.pinned (.plain (OpenSpec.upto journalRecoversSpec)) journalRecoversUptoCard

/-- THE SECOND FORM's CARD OF 'locumlaw06.JournalFuse'. -/
def journalFuseUptoCard : Claim7 := { stood := { row := journalFuseUptoRow, standIns := [], harness := (true, "d288dc9783cadb763173eb208f41de4f28df0c9309f9519585735afa7b673ab8"), looks := false }, kinds := [], alts := [], laidByText := true, laidKinds := [.data], laidTests := true, laidLooks := .later }
def JournalFuseUptoCardSaid : Prop := Claim7.holds Tryd.pinned (.plain (OpenSpec.upto journalFuseSpec)) journalFuseUptoCard

/-- THE SECOND FORM's CARD OF 'locumlaw06.JournalLost'. -/
def journalLostUptoCard : Claim7 := { stood := { row := journalLostUptoRow, standIns := [], harness := (true, "d288dc9783cadb763173eb208f41de4f28df0c9309f9519585735afa7b673ab8"), looks := false }, kinds := [], alts := [], laidByText := true, laidKinds := [.data], laidTests := true, laidLooks := .later }
def JournalLostUptoCardSaid : Prop := Claim7.holds Tryd.pinned (.plain (OpenSpec.upto journalLostSpec)) journalLostUptoCard

/-- THE SECOND FORM's CARD OF 'locumlaw06.JournalDown'. -/
def journalDownUptoCard : Claim7 := { stood := { row := journalDownUptoRow, standIns := [], harness := (true, "d288dc9783cadb763173eb208f41de4f28df0c9309f9519585735afa7b673ab8"), looks := false }, kinds := [], alts := [], laidByText := true, laidKinds := [.data], laidTests := true, laidLooks := .later }
def JournalDownUptoCardSaid : Prop := Claim7.holds Tryd.pinned (.plain (OpenSpec.upto journalDownSpec)) journalDownUptoCard
end Rows
end Go.Proofs.YtgpagddaopgdgaaDoor
