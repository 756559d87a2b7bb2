/- What the types of Config and Plan are (KitN). -/
import Derived.Test.YtpbogacodhjlfaaDoorKitN
import Derived.Test.YtpbogacodhjlfaaDoorKitY
namespace Go.Proofs.YtpbogacodhjlfaaDoor
open Go.RowKit Go.Shelf
set_option linter.unusedVariables false
instance : Kx.OneC Tryd.prog 4 := ⟨Tryd.isAgg4⟩
instance : Kx.ZOne Tryd.prog 4 (.bool false) := ⟨Tryd.zeroValue4⟩
instance : Kx.OneC Tryd.prog 3 := ⟨Tryd.isAgg3⟩
instance : Kx.ZOne Tryd.prog 3 (.int .i64 0) := ⟨Tryd.zeroValue3⟩
instance : Kx.OneC Tryd.prog 2 := ⟨Tryd.isAgg2⟩
instance : Kx.ZOne Tryd.prog 2 (.int .i64 0) := ⟨Tryd.zeroValue2⟩
instance : Kx.OneC Tryd.prog 25 := ⟨Tryd.isAgg25⟩
instance : Kx.ZOne Tryd.prog 25 (.int .u64 0) := ⟨Tryd.zeroValue25⟩
instance : Kx.OneC Tryd.prog 22 := ⟨Tryd.isAgg22⟩
instance : Kx.OneC Tryd.prog 26 := ⟨Tryd.isAgg26⟩
instance : Kx.AggC Tryd.prog 24 30 := ⟨Tryd.isAgg24, Tryd.sizeOf24⟩
instance : Kx.ZAgg Tryd.prog 24 [.int .i64 0, .int .i64 0, .int .i64 0, .int .i64 0, .int .i64 0, .slice none 0 0, .int .i64 0, .int .i64 0, .int .i64 0, .int .i64 0, .int .i64 0, .int .i64 0, .int .i64 0, .int .i64 0, .int .i64 0, .int .i64 0, .int .i64 0, .int .i64 0, .int .i64 0, .int .i64 0, .int .i64 0, .int .i64 0, .int .i64 0, .int .i64 0, .int .i64 0, .int .i64 0, .int .i64 0, .int .i64 0, .int .i64 0, .int .i64 0] := ⟨Tryd.zeroValue24⟩
instance : Kx.AggC Tryd.prog 28 12 := ⟨Tryd.isAgg28, Tryd.sizeOf28⟩
instance : Kx.ZAgg Tryd.prog 28 [.int .i64 0, .int .i64 0, .int .i64 0, .int .i64 0, .int .i64 0, .int .i64 0, .int .i64 0, .int .i64 0, .int .u64 0, .int .u64 0, .slice none 0 0, .slice none 0 0] := ⟨Tryd.zeroValue28⟩
end Go.Proofs.YtpbogacodhjlfaaDoor
