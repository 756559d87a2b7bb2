/-
  NARROWER THAN 'FOR EVERY INPUT', by the rows' own cells (each row's printed sentence says how): AcceptorWaits: laid · ProposerOne: laid · LeaseOne: laid.
  DERIVED. THE GIVEN ROWS OF THIS SEAT. 3 by the template 'for every input the law returns true; each argument reads behind the call as it read before'; 0 by the template 'total and deterministic' (their statements: YtponpgcpmlcdpaaGreatDoorTotals.lean).
  GIVEN WITH THE SEED: the statements are not yours to turn. If you find one false, say at which input.
  Laid BY PROGRAM, IN A SANDBOX (cutbox-rows.mjs): the forced cells as the released guide's own fill.sh prints them over the translation a6106207fff29d7f… (all of the seat's roots in one cut). By AI agents, Wed Nov 11 2026. No macro, syntax, notation, axiom, sorry.
-/
import Derived.Test.YtponpgcpmlcdpaaGreatDoorChecked
import GoSem.Claim
import GoSem.ClaimJoined
import GoSem.ClaimMapViews
import Derived.JoinedTies
import Derived.KernelRfl
namespace Go.Proofs.YtponpgcpmlcdpaaGreatDoor
/- THE CELL 'sum', in the pinned program and in every row, IS THE sha256 OF THE DUMP (.gsa) THAT YtponpgcpmlcdpaaGreatDoorProg.lean LOADS. Nothing in Lean hashes anything: it is a label: what it is worth is what the hold of that sum in a sandbox is worth. -/
noncomputable def Tryz.pinned : Pinned := { name := "ytponpgcpmlcdpaagreatdoor", sum := "a6106207fff29d7f206459237c83ba395bf3dddb9664c6e419c702c9f886b00e", checked := Tryz.checked }
namespace Rows
def none {H : Type} : Left H := { results := [], args := [] }

/- WHAT THE LISTED PACKAGE-LEVEL VARIABLES READ AS WHEN THE CALL BEGINS. Each datum BY PROGRAM (the guide's laid-datum.mjs) off the statement by which the dump's own 'gosem.cut.vars' lays the variable. In a bare row this is a premise. The card (YtponpgcpmlcdpaaGreatDoorCards.lean) ties it to the program's text. -/
def laid_locum_crc_halves {H : Type} : DataW H := .agg [.lit (.int .u32 0), .lit (.int .u32 498536548), .lit (.int .u32 997073096), .lit (.int .u32 651767980), .lit (.int .u32 1994146192), .lit (.int .u32 1802195444), .lit (.int .u32 1303535960), .lit (.int .u32 1342533948), .lit (.int .u32 3988292384), .lit (.int .u32 4027552580), .lit (.int .u32 3604390888), .lit (.int .u32 3412177804), .lit (.int .u32 2607071920), .lit (.int .u32 2262029012), .lit (.int .u32 2685067896), .lit (.int .u32 3183342108)]
def laid_locum_plan_spans {H : Type} : DataW H := .agg [.agg [.lit (.int .i64 0), .lit (.int .i64 9223372036854775807)], .agg [.lit (.int .i64 (-1)), .lit (.int .i64 15)], .agg [.lit (.int .i64 (-1)), .lit (.int .i64 15)], .agg [.lit (.int .i64 (-1)), .lit (.int .i64 15)], .agg [.lit (.int .i64 0), .lit (.int .i64 100)], .agg [.lit (.int .i64 0), .lit (.int .i64 1099511627776)], .agg [.lit (.int .i64 0), .lit (.int .i64 1099511627776)], .agg [.lit (.int .i64 0), .lit (.int .i64 1099511627776)], .agg [.lit (.int .i64 0), .lit (.int .i64 65535)], .agg [.lit (.int .i64 0), .lit (.int .i64 65535)]]

/-- 'locumlaw15.AcceptorWaits': WHATEVER THE INPUT: true; the input reads as it did. -/
def acceptorWaitsSpec : ChangeSpec := { name := "acceptorWaits", fn := fun _ => fun
  | [d1, d2] => { results := [.lit (.bool true)], args := [d1, d2] }
  | _ => none }
def acceptorWaitsRow : OpenClaim := { program := "ytponpgcpmlcdpaagreatdoor", sum := "a6106207fff29d7f206459237c83ba395bf3dddb9664c6e419c702c9f886b00e", func := "locum/locumlaw15.AcceptorWaits", spec := "acceptorWaits", unfollowed := true, recurses := true, named := ["locum/plan.spans", "locum/crc.halves"], apart := false, laid := [("locum/crc.halves", laid_locum_crc_halves), ("locum/plan.spans", laid_locum_plan_spans)] }
def AcceptorWaitsSaid : Prop := acceptorWaitsRow.holds Tryz.pinned (OpenSpec.ofChange acceptorWaitsSpec)

/-- ITS FALSE NEIGHBOUR: 'it returns false'. Refute it at one input. -/
def acceptorWaitsWrong : ChangeSpec := { name := "acceptorWaits", fn := fun _ => fun
  | [d1, d2] => { results := [.lit (.bool false)], args := [d1, d2] }
  | _ => none }
def AcceptorWaitsWrongFalsely : Prop := acceptorWaitsRow.holds Tryz.pinned (OpenSpec.ofChange acceptorWaitsWrong)

/-- 'locumlaw16.ProposerOne': WHATEVER THE INPUT: true; the input reads as it did. -/
def proposerOneSpec : ChangeSpec := { name := "proposerOne", fn := fun _ => fun
  | [d1, d2] => { results := [.lit (.bool true)], args := [d1, d2] }
  | _ => none }
def proposerOneRow : OpenClaim := { program := "ytponpgcpmlcdpaagreatdoor", sum := "a6106207fff29d7f206459237c83ba395bf3dddb9664c6e419c702c9f886b00e", func := "locum/locumlaw16.ProposerOne", spec := "proposerOne", unfollowed := true, recurses := true, named := ["locum/crc.halves", "locum/plan.spans"], apart := false, laid := [("locum/crc.halves", laid_locum_crc_halves), ("locum/plan.spans", laid_locum_plan_spans)] }
def ProposerOneSaid : Prop := proposerOneRow.holds Tryz.pinned (OpenSpec.ofChange proposerOneSpec)

/-- ITS FALSE NEIGHBOUR: 'it returns false'. Refute it at one input. -/
def proposerOneWrong : ChangeSpec := { name := "proposerOne", fn := fun _ => fun
  | [d1, d2] => { results := [.lit (.bool false)], args := [d1, d2] }
  | _ => none }
def ProposerOneWrongFalsely : Prop := proposerOneRow.holds Tryz.pinned (OpenSpec.ofChange proposerOneWrong)

/-- 'locumlaw17.LeaseOne': WHATEVER THE INPUT: true; the input reads as it did. -/
def leaseOneSpec : ChangeSpec := { name := "leaseOne", fn := fun _ => fun
  | [d] => { results := [.lit (.bool true)], args := [d] }
  | _ => none }
def leaseOneRow : OpenClaim := { program := "ytponpgcpmlcdpaagreatdoor", sum := "a6106207fff29d7f206459237c83ba395bf3dddb9664c6e419c702c9f886b00e", func := "locum/locumlaw17.LeaseOne", spec := "leaseOne", unfollowed := true, recurses := true, named := ["locum/crc.halves", "locum/plan.spans"], apart := false, laid := [("locum/crc.halves", laid_locum_crc_halves), ("locum/plan.spans", laid_locum_plan_spans)] }
def LeaseOneSaid : Prop := leaseOneRow.holds Tryz.pinned (OpenSpec.ofChange leaseOneSpec)

/-- ITS FALSE NEIGHBOUR: 'it returns false'. Refute it at one input. -/
def leaseOneWrong : ChangeSpec := { name := "leaseOne", fn := fun _ => fun
  | [d] => { results := [.lit (.bool false)], args := [d] }
  | _ => none }
def LeaseOneWrongFalsely : Prop := leaseOneRow.holds Tryz.pinned (OpenSpec.ofChange leaseOneWrong)

/- THE SECOND FORM. 'bulk': how many values and letters a reading holds, each counted each time it is reached (what is shared counts as often as it is met; a slice's spare places count too). A statement '..UptoSaid' is the law's where the arguments, and the package variables that the reading takes, are together of bulk at most 1048576: NARROWER than '..Said'. Prove '..Said' where nothing that the law and all that it calls make is longer than what came in: it says more and counts as full. Else prove '..UptoSaid'. A law counts once. -/
mutual
def uptoBulk {H : Type} : DataW H → Nat
  | .lit (.string bytes) => bytes.length + 1
  | .lit _ => 1
  | .nil => 1
  | .ptr d => uptoBulk d + 1
  | .slice elems spare => uptoBulkAll elems + uptoBulkAll spare + 1
  | .agg parts => uptoBulkAll parts + 1
  | .iface _ d => uptoBulk d + 1
  | .map entries => uptoBulkEntries entries + 1
  | .held _ => 1
def uptoBulkAll {H : Type} : List (DataW H) → Nat
  | [] => 0
  | d :: r => uptoBulk d + uptoBulkAll r
def uptoBulkEntries {H : Type} : List (Lit × DataW H) → Nat
  | [] => 0
  | x :: r => uptoBulkEntry x + uptoBulkEntries r
def uptoBulkEntry {H : Type} : Lit × DataW H → Nat
  | (.string bytes, d) => bytes.length + uptoBulk d + 1
  | (_, d) => uptoBulk d + 1
 end
def uptoSmall : (H : Type) → List (DataW H) → Bool := fun _ ds => decide (uptoBulkAll ds ≤ 1048576)
def OpenSpec.upto (s : _root_.Go.ChangeSpec) : _root_.Go.OpenSpec := { _root_.Go.OpenSpec.ofChange s with cond := some uptoSmall }

/-- 'locumlaw15.AcceptorWaits', WHERE WHAT IT READS IS OF BULK AT MOST 1048576: true; the input reads as it did. -/
def acceptorWaitsUptoRow : OpenClaim := { program := "ytponpgcpmlcdpaagreatdoor", sum := "a6106207fff29d7f206459237c83ba395bf3dddb9664c6e419c702c9f886b00e", func := "locum/locumlaw15.AcceptorWaits", spec := "acceptorWaits", unfollowed := true, recurses := true, named := ["locum/plan.spans", "locum/crc.halves"], apart := false, laid := [("locum/crc.halves", laid_locum_crc_halves), ("locum/plan.spans", laid_locum_plan_spans)], narrowed := true }
def AcceptorWaitsUptoSaid : Prop := acceptorWaitsUptoRow.holds Tryz.pinned (OpenSpec.upto acceptorWaitsSpec)

/-- 'locumlaw16.ProposerOne', WHERE WHAT IT READS IS OF BULK AT MOST 1048576: true; the input reads as it did. -/
def proposerOneUptoRow : OpenClaim := { program := "ytponpgcpmlcdpaagreatdoor", sum := "a6106207fff29d7f206459237c83ba395bf3dddb9664c6e419c702c9f886b00e", func := "locum/locumlaw16.ProposerOne", spec := "proposerOne", unfollowed := true, recurses := true, named := ["locum/crc.halves", "locum/plan.spans"], apart := false, laid := [("locum/crc.halves", laid_locum_crc_halves), ("locum/plan.spans", laid_locum_plan_spans)], narrowed := true }
def ProposerOneUptoSaid : Prop := proposerOneUptoRow.holds Tryz.pinned (OpenSpec.upto proposerOneSpec)

/-- 'locumlaw17.LeaseOne', WHERE WHAT IT READS IS OF BULK AT MOST 1048576: true; the input reads as it did. -/
def leaseOneUptoRow : OpenClaim := { program := "ytponpgcpmlcdpaagreatdoor", sum := "a6106207fff29d7f206459237c83ba395bf3dddb9664c6e419c702c9f886b00e", func := "locum/locumlaw17.LeaseOne", spec := "leaseOne", unfollowed := true, recurses := true, named := ["locum/crc.halves", "locum/plan.spans"], apart := false, laid := [("locum/crc.halves", laid_locum_crc_halves), ("locum/plan.spans", laid_locum_plan_spans)], narrowed := true }
def LeaseOneUptoSaid : Prop := leaseOneUptoRow.holds Tryz.pinned (OpenSpec.upto leaseOneSpec)

end Rows
end Go.Proofs.YtponpgcpmlcdpaaGreatDoor
