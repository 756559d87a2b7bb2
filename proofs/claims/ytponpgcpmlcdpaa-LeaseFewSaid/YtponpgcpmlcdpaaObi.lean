/- One bit more in a mask. -/
namespace Go.Proofs.Ytponpgcpmlcdpaa
set_option linter.unusedVariables false
/-- one bit more in a mask -/
def bitIn (x i : Int) : Int := ((x.toNat ||| 2 ^ i.toNat : Nat) : Int)
theorem bitIn_nat (x k : Nat) : bitIn (x : Int) (k : Int) = ((x ||| 2 ^ k : Nat) : Int) := rfl
theorem bitIn_lt {x k : Nat} (hx : x < 18446744073709551616) (hk : k < 64) : x ||| 2 ^ k < 18446744073709551616 := by
  rw [show (18446744073709551616 : Nat) = 2 ^ 64 from rfl] at hx ⊢
  exact Nat.or_lt_two_pow hx (Nat.pow_lt_pow_right (by decide) hk)
end Go.Proofs.Ytponpgcpmlcdpaa
