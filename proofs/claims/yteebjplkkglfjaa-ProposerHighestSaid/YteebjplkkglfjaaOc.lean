/- What becomes of a proposal with a promise: the document's. -/
import Derived.Test.YteebjplkkglfjaaOb
import Derived.Deep.CutBlock
import Derived.Deep.DeepCutAuto
namespace Go.Proofs.Yteebjplkkglfjaa
open Go.RowKit Go.Shelf Km Kx Kc
set_option linter.unusedVariables false

theorem Ans.from {f : Nat} {p : Pp} {m : Mg} {kd : Int} (h : Ans f p m kd) (hf : f ≤ 3) : ∃ k : Nat, m.f = (k : Int) ∧ k < 7 := ⟨m.f.toNat, by have := h.2.2.2.1; omega, by have := h.2.2.2; omega⟩
theorem bitIn_lt {x k : Nat} (hx : x < 18446744073709551616) (hk : k < 64) : x ||| 2 ^ k < 18446744073709551616 := by
 rw [show (18446744073709551616 : Nat) = 2 ^ 64 from rfl] at hx ⊢
 exact Nat.or_lt_two_pow hx (Nat.pow_lt_pow_right (by decide) hk)
theorem promise_no {f : Nat} {p : Pp} {m : Mg} (h : p.ph ≠ 1 ∨ ¬ Ans f p m 5 ∨ (m.has = true ∧ m.pl.e ≠ p.e)) : promise f p m = p := if_pos h
theorem promise_yes {f : Nat} {p : Pp} {m : Mg} (h : ¬ (p.ph ≠ 1 ∨ ¬ Ans f p m 5 ∨ (m.has = true ∧ m.pl.e ≠ p.e))) : promise f p m = if Om.most f (promised p m).pr.toNat = true then (if (promised p m).best = 0 then { promised p m with ph := 2, val := (promised p m).own } else { promised p m with ph := 2 }) else promised p m := if_neg h

end Go.Proofs.Yteebjplkkglfjaa

