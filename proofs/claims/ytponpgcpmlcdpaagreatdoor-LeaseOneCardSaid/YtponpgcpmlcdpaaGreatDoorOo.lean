import Derived.Test.YtponpgcpmlcdpaaGreatDoorKpm
set_option linter.unusedVariables false
namespace Go.Proofs.YtponpgcpmlcdpaaGreatDoor
open Go.ChangeShapes Go.WideShapes Go.ChangeAt Go.RowKit Km Kx Kt
structure Op where
 what : Int
 m : Mg
 now : Int
 n : Int
def Op.cells (x : Op) : List Value := [.int .i64 x.what] ++ (x.m.cells ++ ([.int .i64 x.now, .int .i64 x.n]))
theorem Op.zdz (x : Op) : x.cells.length = 29 := rfl
structure Op.At (w : World) (B : Nat) (x : Op) : Prop where
 what : Ks.zc4 x.what
 m : x.m.At w B
 now : Ks.zc4 x.now
 n : Ks.zc4 x.n
theorem Op.At.below {w w' : World} {B B' : Nat} {x : Op} (h : x.At w B) (hb : Below B' w w') (hB : B ≤ B') : x.At w' B := ⟨h.what, h.m.below hb hB, h.now, h.n⟩
theorem Op.At.more {w : World} {B B' : Nat} {x : Op} (h : x.At w B) (hB : B ≤ B') : x.At w B' := ⟨h.what, h.m.more hB, h.now, h.n⟩
def Op.zero : Op := ⟨0, Mg.zero, 0, 0⟩
instance : Inhabited Op := ⟨Op.zero⟩
theorem Op.zgb (w : World) (B : Nat) : Op.zero.At w B := ⟨⟨by decide, by decide⟩, Mg.zgb _ _, ⟨by decide, by decide⟩, ⟨by decide, by decide⟩⟩
end Go.Proofs.YtponpgcpmlcdpaaGreatDoor
