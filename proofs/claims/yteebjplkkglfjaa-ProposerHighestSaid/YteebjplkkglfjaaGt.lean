/- What the types of Config and Plan are (KitN). -/
import Derived.Test.YteebjplkkglfjaaKitN
import Derived.Test.YteebjplkkglfjaaKitY
namespace Go.Proofs.Yteebjplkkglfjaa
open Go.RowKit Go.Shelf
set_option linter.unusedVariables false
instance : Kx.OneC Try.prog 4 := ⟨Try.isAgg4⟩
instance : Kx.ZOne Try.prog 4 (.bool false) := ⟨Try.zeroValue4⟩
instance : Kx.OneC Try.prog 3 := ⟨Try.isAgg3⟩
instance : Kx.ZOne Try.prog 3 (.int .i64 0) := ⟨Try.zeroValue3⟩
instance : Kx.OneC Try.prog 2 := ⟨Try.isAgg2⟩
instance : Kx.ZOne Try.prog 2 (.int .i64 0) := ⟨Try.zeroValue2⟩
instance : Kx.OneC Try.prog 22 := ⟨Try.isAgg22⟩
instance : Kx.ZOne Try.prog 22 (.int .u64 0) := ⟨Try.zeroValue22⟩
instance : Kx.OneC Try.prog 23 := ⟨Try.isAgg23⟩
instance : Kx.OneC Try.prog 24 := ⟨Try.isAgg24⟩
instance : Kx.AggC Try.prog 30 30 := ⟨Try.isAgg30, Try.sizeOf30⟩
instance : Kx.ZAgg Try.prog 30 [.int .i64 0, .int .i64 0, .int .i64 0, .int .i64 0, .int .i64 0, .slice none 0 0, .int .i64 0, .int .i64 0, .int .i64 0, .int .i64 0, .int .i64 0, .int .i64 0, .int .i64 0, .int .i64 0, .int .i64 0, .int .i64 0, .int .i64 0, .int .i64 0, .int .i64 0, .int .i64 0, .int .i64 0, .int .i64 0, .int .i64 0, .int .i64 0, .int .i64 0, .int .i64 0, .int .i64 0, .int .i64 0, .int .i64 0, .int .i64 0] := ⟨Try.zeroValue30⟩
instance : Kx.AggC Try.prog 26 12 := ⟨Try.isAgg26, Try.sizeOf26⟩
instance : Kx.ZAgg Try.prog 26 [.int .i64 0, .int .i64 0, .int .i64 0, .int .i64 0, .int .i64 0, .int .i64 0, .int .i64 0, .int .i64 0, .int .u64 0, .int .u64 0, .slice none 0 0, .slice none 0 0] := ⟨Try.zeroValue26⟩
end Go.Proofs.Yteebjplkkglfjaa
