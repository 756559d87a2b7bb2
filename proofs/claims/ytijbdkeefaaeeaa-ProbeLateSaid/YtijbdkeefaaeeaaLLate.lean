/- ProbeLate, walked. -/
import Derived.Test.YtijbdkeefaaeeaaLLateD
import Derived.Test.YtijbdkeefaaeeaaLLateR
import Derived.Test.YtijbdkeefaaeeaaLLateF
namespace Go.Proofs.Ytijbdkeefaaeeaa
open Go.RowKit Go.Shelf Km Kx Kc

theorem late_walk (p : Pm.Pr) (e wt n nonce : Int) (w : World) (_w0 : in64 p.next ∧ in64 p.nonce ∧ in64 p.since ∧ in64 p.st.run) (w1 : (Lit.int .u8 e).wf = true) (w2 : (Lit.int .u8 wt).wf = true) (w3 : (Lit.int .u16 n).wf = true) (_w4 : (Lit.int .i64 nonce).wf = true) :
    Calls Try.prog 8 #[.agg (pl p).toArray, .int .u8 e, .int .u8 wt, .int .u16 n, .int .i64 nonce] w fun e w' => e = .returned (.bool true) ∧ Below w.heap.size w w' := by
  obtain ⟨nx, op, nn, sc, ⟨u, r0⟩⟩ := p
  have e0 := wf_u8' w1
  have w0 := wf_u8' w2
  have n0 := wf_u16' w3
  by_cases hz : nonce = 0
  · subst hz
    cases u with
    | false => exact late_down1 nx op nn sc r0 e wt n w e0 w0 n0
    | true =>
      by_cases hr : r0 = 0
      · subst hr; exact late_fresh1 nx op nn sc e wt n w e0 w0 n0
      · exact late_run1 nx op nn sc r0 e wt n w e0 w0 n0 hr
  · cases u with
    | false => exact late_down0 nx op nn sc r0 e wt n nonce w e0 w0 n0 hz
    | true =>
      by_cases hr : r0 = 0
      · subst hr; exact late_fresh0 nx op nn sc e wt n nonce w e0 w0 n0 hz
      · exact late_run0 nx op nn sc r0 e wt n nonce w e0 w0 n0 hr hz
end Go.Proofs.Ytijbdkeefaaeeaa
