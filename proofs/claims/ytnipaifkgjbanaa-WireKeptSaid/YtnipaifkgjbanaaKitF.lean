/- A region's frame, written out behind each operation that is taken first. No program in it. -/
import Derived.Test.YtnipaifkgjbanaaKitR
import Derived.Deep.RegionWith
import Derived.BigRegion
namespace Go.Proofs.Ytnipaifkgjbanaa
open Lean Meta Elab Tactic

/-- the frame of a goal 'wpAny ..', written out -/
partial def flatFrame (a : Lean.Expr) : MetaM Lean.Expr := do
  if a.isAppOfArity ``Act.put 3 then
    let b ← flatFrame (a.getArg! 0)
    let d ← whnf (a.getArg! 1)
    return BigFrame.writePuts b (mkApp3 a.getAppFn b d (a.getArg! 2))
  else return a

elab "frame_flat" : tactic => withMainContext do
  let g ← getMainGoal
  let t := (← instantiateMVars (← g.getType)).consumeMData
  unless t.isAppOfArity ``wpAny 8 do throwError "frame_flat: no wpAny"
  let args := t.getAppArgs
  let a ← flatFrame args[6]!
  let g' ← g.replaceTargetDefEq (mkAppN t.getAppFn (args.set! 6 a))
  replaceMainGoal [g']

/-- an operation of a region, taken first because it yields in whatever world -/
macro "take_flat " k:num : tactic => `(tactic| (refine wpAny_take (i := $k) (v := ?vv) rfl (by kernel_rfl) (by kernel_rfl) (by kernel_rfl) (fun _ _ _ h => h) (Or.inl ⟨?hw, ?hy⟩) ?rest; (case hw => kernel_rfl); (case hy => (intro w; go_simp; try with_reducible rfl)); frame_flat))
end Go.Proofs.Ytnipaifkgjbanaa
