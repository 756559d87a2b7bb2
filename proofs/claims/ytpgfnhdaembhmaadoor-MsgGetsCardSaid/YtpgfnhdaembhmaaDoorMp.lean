/- Whether a reader is at its end: the program's. -/
import Derived.Test.YtpgfnhdaembhmaaDoorMk
namespace Go.Proofs.YtpgfnhdaembhmaaDoor
open Go.RowKit Go.Shelf

set_option maxRecDepth 100000 in
set_option maxHeartbeats 1000000 in
theorem atEnd_any (A : Option Addr) (n cap : Nat) (at_ : Int) (w : World) :
    Calls Tryd.prog 47 #[.agg #[.slice A n cap, .int .i64 at_]] w fun e w' => e = .returned (.bool (at_ == (n : Int))) ∧ Below w.heap.size w w' := by
  go_enter Tryd.func47, Tryd.ntmps47
  go_wp2
  go_ret
  exact ⟨rfl, (Below.refl _ w).alloc (Nat.le_refl _) _⟩
end Go.Proofs.YtpgfnhdaembhmaaDoor
