/-
  NARROWER THAN 'FOR EVERY INPUT', by the rows' own cells (each row's printed sentence says how): JournalPlays: laid · JournalRecovers: laid · JournalFuse: laid · JournalLost: laid · JournalDown: laid.
  DERIVED. THE GIVEN ROWS OF THIS SEAT. 5 by the template 'for every input the law returns true; each argument reads behind the call as it read before'; 0 by the template 'total and deterministic' (their statements: YtgpagddaopgdgaaDoorTotals.lean).
  GIVEN WITH THE SEED: the statements are not yours to turn. If you find one false, say at which input.
  Laid BY PROGRAM, IN A SANDBOX (cutbox-rows.mjs): the forced cells as the released guide's own fill.sh prints them over the translation ff353ab74790800a… (all of the seat's roots in one cut). By AI agents, Wed Nov 11 2026. No macro, syntax, notation, axiom, sorry.
-/
import Derived.Test.YtgpagddaopgdgaaDoorChecked
import GoSem.Claim
import GoSem.ClaimJoined
import GoSem.ClaimMapViews
import Derived.JoinedTies
import Derived.KernelRfl
namespace Go.Proofs.YtgpagddaopgdgaaDoor
/- THE CELL 'sum', in the pinned program and in every row, IS THE sha256 OF THE DUMP (.gsa) THAT YtgpagddaopgdgaaDoorProg.lean LOADS. Nothing in Lean hashes anything: it is a label: what it is worth is what the hold of that sum in a sandbox is worth. -/
noncomputable def Tryd.pinned : Pinned := { name := "ytgpagddaopgdgaadoor", sum := "ff353ab74790800adbee351b2f9821e5d7f084066c6a8b95d1962508f00d0c47", checked := Tryd.checked }
namespace Rows
def none {H : Type} : Left H := { results := [], args := [] }

/- WHAT THE LISTED PACKAGE-LEVEL VARIABLES READ AS WHEN THE CALL BEGINS. Each datum BY PROGRAM (the guide's laid-datum.mjs) off the statement by which the dump's own 'gosem.cut.vars' lays the variable. In a bare row this is a premise. The card (YtgpagddaopgdgaaDoorCards.lean) ties it to the program's text. -/
def laid_locum_crc_halves {H : Type} : DataW H := .agg [.lit (.int .u32 0), .lit (.int .u32 498536548), .lit (.int .u32 997073096), .lit (.int .u32 651767980), .lit (.int .u32 1994146192), .lit (.int .u32 1802195444), .lit (.int .u32 1303535960), .lit (.int .u32 1342533948), .lit (.int .u32 3988292384), .lit (.int .u32 4027552580), .lit (.int .u32 3604390888), .lit (.int .u32 3412177804), .lit (.int .u32 2607071920), .lit (.int .u32 2262029012), .lit (.int .u32 2685067896), .lit (.int .u32 3183342108)]

/-- 'locumlaw06.JournalPlays': WHATEVER THE INPUT: true; the input reads as it did. -/
def journalPlaysSpec : ChangeSpec := { name := "journalPlays", fn := fun _ => fun
  | [d] => { results := [.lit (.bool true)], args := [d] }
  | _ => none }
def journalPlaysRow : OpenClaim := { program := "ytgpagddaopgdgaadoor", sum := "ff353ab74790800adbee351b2f9821e5d7f084066c6a8b95d1962508f00d0c47", func := "locum/locumlaw06.JournalPlays", spec := "journalPlays", unfollowed := true, recurses := true, named := ["locum/crc.halves"], apart := false, laid := [("locum/crc.halves", laid_locum_crc_halves)] }
def JournalPlaysSaid : Prop := journalPlaysRow.holds Tryd.pinned (OpenSpec.ofChange journalPlaysSpec)

/-- ITS FALSE NEIGHBOUR: 'it returns false'. Refute it at one input. -/
def journalPlaysWrong : ChangeSpec := { name := "journalPlays", fn := fun _ => fun
  | [d] => { results := [.lit (.bool false)], args := [d] }
  | _ => none }
def JournalPlaysWrongFalsely : Prop := journalPlaysRow.holds Tryd.pinned (OpenSpec.ofChange journalPlaysWrong)

/-- 'locumlaw06.JournalRecovers': WHATEVER THE INPUT: true; the input reads as it did. -/
def journalRecoversSpec : ChangeSpec := { name := "journalRecovers", fn := fun _ => fun
  | [d1, d2, d3, d4] => { results := [.lit (.bool true)], args := [d1, d2, d3, d4] }
  | _ => none }
def journalRecoversRow : OpenClaim := { program := "ytgpagddaopgdgaadoor", sum := "ff353ab74790800adbee351b2f9821e5d7f084066c6a8b95d1962508f00d0c47", func := "locum/locumlaw06.JournalRecovers", spec := "journalRecovers", unfollowed := true, recurses := true, named := ["locum/crc.halves"], apart := false, laid := [("locum/crc.halves", laid_locum_crc_halves)] }
def JournalRecoversSaid : Prop := journalRecoversRow.holds Tryd.pinned (OpenSpec.ofChange journalRecoversSpec)

/-- ITS FALSE NEIGHBOUR: 'it returns false'. Refute it at one input. -/
def journalRecoversWrong : ChangeSpec := { name := "journalRecovers", fn := fun _ => fun
  | [d1, d2, d3, d4] => { results := [.lit (.bool false)], args := [d1, d2, d3, d4] }
  | _ => none }
def JournalRecoversWrongFalsely : Prop := journalRecoversRow.holds Tryd.pinned (OpenSpec.ofChange journalRecoversWrong)

/-- 'locumlaw06.JournalFuse': WHATEVER THE INPUT: true; the input reads as it did. -/
def journalFuseSpec : ChangeSpec := { name := "journalFuse", fn := fun _ => fun
  | [d1, d2] => { results := [.lit (.bool true)], args := [d1, d2] }
  | _ => none }
def journalFuseRow : OpenClaim := { program := "ytgpagddaopgdgaadoor", sum := "ff353ab74790800adbee351b2f9821e5d7f084066c6a8b95d1962508f00d0c47", func := "locum/locumlaw06.JournalFuse", spec := "journalFuse", unfollowed := true, recurses := true, named := ["locum/crc.halves"], apart := false, laid := [("locum/crc.halves", laid_locum_crc_halves)] }
def JournalFuseSaid : Prop := journalFuseRow.holds Tryd.pinned (OpenSpec.ofChange journalFuseSpec)

/-- ITS FALSE NEIGHBOUR: 'it returns false'. Refute it at one input. -/
def journalFuseWrong : ChangeSpec := { name := "journalFuse", fn := fun _ => fun
  | [d1, d2] => { results := [.lit (.bool false)], args := [d1, d2] }
  | _ => none }
def JournalFuseWrongFalsely : Prop := journalFuseRow.holds Tryd.pinned (OpenSpec.ofChange journalFuseWrong)

/-- 'locumlaw06.JournalLost': WHATEVER THE INPUT: true; the input reads as it did. -/
def journalLostSpec : ChangeSpec := { name := "journalLost", fn := fun _ => fun
  | [d1, d2, d3, d4, d5] => { results := [.lit (.bool true)], args := [d1, d2, d3, d4, d5] }
  | _ => none }
def journalLostRow : OpenClaim := { program := "ytgpagddaopgdgaadoor", sum := "ff353ab74790800adbee351b2f9821e5d7f084066c6a8b95d1962508f00d0c47", func := "locum/locumlaw06.JournalLost", spec := "journalLost", unfollowed := true, recurses := true, named := ["locum/crc.halves"], apart := false, laid := [("locum/crc.halves", laid_locum_crc_halves)] }
def JournalLostSaid : Prop := journalLostRow.holds Tryd.pinned (OpenSpec.ofChange journalLostSpec)

/-- ITS FALSE NEIGHBOUR: 'it returns false'. Refute it at one input. -/
def journalLostWrong : ChangeSpec := { name := "journalLost", fn := fun _ => fun
  | [d1, d2, d3, d4, d5] => { results := [.lit (.bool false)], args := [d1, d2, d3, d4, d5] }
  | _ => none }
def JournalLostWrongFalsely : Prop := journalLostRow.holds Tryd.pinned (OpenSpec.ofChange journalLostWrong)

/-- 'locumlaw06.JournalDown': WHATEVER THE INPUT: true; the input reads as it did. -/
def journalDownSpec : ChangeSpec := { name := "journalDown", fn := fun _ => fun
  | [d] => { results := [.lit (.bool true)], args := [d] }
  | _ => none }
def journalDownRow : OpenClaim := { program := "ytgpagddaopgdgaadoor", sum := "ff353ab74790800adbee351b2f9821e5d7f084066c6a8b95d1962508f00d0c47", func := "locum/locumlaw06.JournalDown", spec := "journalDown", unfollowed := true, recurses := true, named := ["locum/crc.halves"], apart := false, laid := [("locum/crc.halves", laid_locum_crc_halves)] }
def JournalDownSaid : Prop := journalDownRow.holds Tryd.pinned (OpenSpec.ofChange journalDownSpec)

/-- ITS FALSE NEIGHBOUR: 'it returns false'. Refute it at one input. -/
def journalDownWrong : ChangeSpec := { name := "journalDown", fn := fun _ => fun
  | [d] => { results := [.lit (.bool false)], args := [d] }
  | _ => none }
def JournalDownWrongFalsely : Prop := journalDownRow.holds Tryd.pinned (OpenSpec.ofChange journalDownWrong)

/- THE SECOND FORM. 'bulk': how many values and letters a reading holds, each counted each time it is reached (what is shared counts as often as it is met; a slice's spare places count too). A statement '..UptoSaid' is the law's where the arguments, and the package variables that the reading takes, are together of bulk at most 1048576: NARROWER than '..Said'. Prove '..Said' where nothing that the law and all that it calls make is longer than what came in: it says more and counts as full. Else prove '..UptoSaid'. A law counts once. -/
mutual
def uptoBulk {H : Type} : DataW H → Nat
  | .lit (.string bytes) => bytes.length + 1
  | .lit _ => 1
  | .nil => 1
  | .ptr d => uptoBulk d + 1
  | .slice elems spare => uptoBulkAll elems + uptoBulkAll spare + 1
  | .agg parts => uptoBulkAll parts + 1
  | .iface _ d => uptoBulk d + 1
  | .map entries => uptoBulkEntries entries + 1
  | .held _ => 1
def uptoBulkAll {H : Type} : List (DataW H) → Nat
  | [] => 0
  | d :: r => uptoBulk d + uptoBulkAll r
def uptoBulkEntries {H : Type} : List (Lit × DataW H) → Nat
  | [] => 0
  | x :: r => uptoBulkEntry x + uptoBulkEntries r
def uptoBulkEntry {H : Type} : Lit × DataW H → Nat
  | (.string bytes, d) => bytes.length + uptoBulk d + 1
  | (_, d) => uptoBulk d + 1
 end
def uptoSmall : (H : Type) → List (DataW H) → Bool := fun _ ds => decide (uptoBulkAll ds ≤ 1048576)
def OpenSpec.upto (s : _root_.Go.ChangeSpec) : _root_.Go.OpenSpec := { _root_.Go.OpenSpec.ofChange s with cond := some uptoSmall }

/-- 'locumlaw06.JournalPlays', WHERE WHAT IT READS IS OF BULK AT MOST 1048576: true; the input reads as it did. -/
def journalPlaysUptoRow : OpenClaim := { program := "ytgpagddaopgdgaadoor", sum := "ff353ab74790800adbee351b2f9821e5d7f084066c6a8b95d1962508f00d0c47", func := "locum/locumlaw06.JournalPlays", spec := "journalPlays", unfollowed := true, recurses := true, named := ["locum/crc.halves"], apart := false, laid := [("locum/crc.halves", laid_locum_crc_halves)], narrowed := true }
def JournalPlaysUptoSaid : Prop := journalPlaysUptoRow.holds Tryd.pinned (OpenSpec.upto journalPlaysSpec)

/-- 'locumlaw06.JournalRecovers', WHERE WHAT IT READS IS OF BULK AT MOST 1048576: true; the input reads as it did. -/
def journalRecoversUptoRow : OpenClaim := { program := "ytgpagddaopgdgaadoor", sum := "ff353ab74790800adbee351b2f9821e5d7f084066c6a8b95d1962508f00d0c47", func := "locum/locumlaw06.JournalRecovers", spec := "journalRecovers", unfollowed := true, recurses := true, named := ["locum/crc.halves"], apart := false, laid := [("locum/crc.halves", laid_locum_crc_halves)], narrowed := true }
def JournalRecoversUptoSaid : Prop := journalRecoversUptoRow.holds Tryd.pinned (OpenSpec.upto journalRecoversSpec)

/-- 'locumlaw06.JournalFuse', WHERE WHAT IT READS IS OF BULK AT MOST 1048576: true; the input reads as it did. -/
def journalFuseUptoRow : OpenClaim := { program := "ytgpagddaopgdgaadoor", sum := "ff353ab74790800adbee351b2f9821e5d7f084066c6a8b95d1962508f00d0c47", func := "locum/locumlaw06.JournalFuse", spec := "journalFuse", unfollowed := true, recurses := true, named := ["locum/crc.halves"], apart := false, laid := [("locum/crc.halves", laid_locum_crc_halves)], narrowed := true }
def JournalFuseUptoSaid : Prop := journalFuseUptoRow.holds Tryd.pinned (OpenSpec.upto journalFuseSpec)

/-- 'locumlaw06.JournalLost', WHERE WHAT IT READS IS OF BULK AT MOST 1048576: true; the input reads as it did. -/
def journalLostUptoRow : OpenClaim := { program := "ytgpagddaopgdgaadoor", sum := "ff353ab74790800adbee351b2f9821e5d7f084066c6a8b95d1962508f00d0c47", func := "locum/locumlaw06.JournalLost", spec := "journalLost", unfollowed := true, recurses := true, named := ["locum/crc.halves"], apart := false, laid := [("locum/crc.halves", laid_locum_crc_halves)], narrowed := true }
def JournalLostUptoSaid : Prop := journalLostUptoRow.holds Tryd.pinned (OpenSpec.upto journalLostSpec)

/-- 'locumlaw06.JournalDown', WHERE WHAT IT READS IS OF BULK AT MOST 1048576: true; the input reads as it did. -/
def journalDownUptoRow : OpenClaim := { program := "ytgpagddaopgdgaadoor", sum := "ff353ab74790800adbee351b2f9821e5d7f084066c6a8b95d1962508f00d0c47", func := "locum/locumlaw06.JournalDown", spec := "journalDown", unfollowed := true, recurses := true, named := ["locum/crc.halves"], apart := false, laid := [("locum/crc.halves", laid_locum_crc_halves)], narrowed := true }
def JournalDownUptoSaid : Prop := journalDownUptoRow.holds Tryd.pinned (OpenSpec.upto journalDownSpec)

end Rows
end Go.Proofs.YtgpagddaopgdgaaDoor
