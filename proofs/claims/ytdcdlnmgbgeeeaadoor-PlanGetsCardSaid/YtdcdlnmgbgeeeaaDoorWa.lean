import Derived.Test.YtdcdlnmgbgeeeaaDoorW2
import Derived.Test.YtdcdlnmgbgeeeaaDoorW4
namespace Go.Proofs.YtdcdlnmgbgeeeaaDoor
open Go.RowKit Go.Shelf

theorem PutInt_any (k : Int) (w : World) (h0 : -9223372036854775808 ≤ k) (h1 : k ≤ 9223372036854775807) :
    Calls Tryd.prog 36 #[.int .i64 k] w fun e W' => ∃ v, e = .returned v ∧ W'.ownsRow w.heap.size 5 1 v (Wm.pint k).length ((Wm.pint k).map (Value.int .u8)) ∧ Below w.heap.size w W' :=
  callsIn_wide.1 (PutInt_in Fence.wide 3 trivial trivial trivial trivial rfl (by omega) k w h0 h1 (callsIn_wide.2 (fold_any k _ h0 h1)))

end Go.Proofs.YtdcdlnmgbgeeeaaDoor
