/- Bits of unsigned numbers as plain arithmetic: no program in it. -/
import Derived.WalkKit
namespace Go.Proofs.YtdcdlnmgbgeeeaaDoor.Bt
open Go.RowKit

theorem u64_and127 {v : Int} (h0 : 0 ≤ v) (h1 : v ≤ 18446744073709551615) : bits .and .u64 v 127 = v % 128 := by
  rw [u64_and v 127 h0 (by omega) (by omega) (by omega)]
  have : v.toNat &&& (127 : Int).toNat = v.toNat % 128 := nat_mask7 _
  omega
theorem u64_and1 {v : Int} (h0 : 0 ≤ v) (h1 : v ≤ 18446744073709551615) : bits .and .u64 v 1 = v % 2 := by
  rw [u64_and v 1 h0 (by omega) (by omega) (by omega)]
  have : v.toNat &&& (1 : Int).toNat = v.toNat % 2 := nat_mask1 _
  omega
theorem u8_and127 {v : Int} (h0 : 0 ≤ v) (h1 : v ≤ 255) : bits .and .u8 v 127 = v % 128 := by
  rw [u8_and v 127 h0 (by omega) (by omega) (by omega)]
  have : v.toNat &&& (127 : Int).toNat = v.toNat % 128 := nat_mask7 _
  omega
theorem u8_or128 {v : Int} (h0 : 0 ≤ v) (h1 : v < 128) : bits .or .u8 v 128 = v + 128 := by
  rw [u8_or v 128 h0 (by omega) (by omega) (by omega)]
  have : (128 : Int).toNat ||| v.toNat = 128 + v.toNat := nat_join 7 128 v.toNat rfl (by omega)
  rw [Nat.or_comm] at this
  omega
theorem nat_xorMax {v : Nat} (h1 : v ≤ 18446744073709551615) : 18446744073709551615 ^^^ v = 18446744073709551615 - v := by
  have hn : 18446744073709551615 = 2 ^ 64 - 1 := rfl
  have hb : v < 2 ^ 64 := by omega
  apply Nat.eq_of_testBit_eq
  intro i
  have h2 : (18446744073709551615 - v).testBit i = (decide (i < 64) && !v.testBit i) := by
    rw [← Nat.testBit_two_pow_sub_succ (x := v) (n := 64) hb i]
    congr 1
    omega
  rw [h2, Nat.testBit_xor, hn, Nat.testBit_two_pow_sub_one]
  by_cases hi : i < 64
  · simp [hi]
  · have : v.testBit i = false := Nat.testBit_lt_two_pow (Nat.lt_of_lt_of_le hb (Nat.pow_le_pow_right (by omega) (by omega)))
    simp [hi, this]
theorem u64_xorMax {v : Int} (h0 : 0 ≤ v) (h1 : v ≤ 18446744073709551615) : bits .xor .u64 IntKind.u64.max v = 18446744073709551615 - v := by
  have e : IntKind.u64.max = 18446744073709551615 := by rfl
  rw [e, u64_xor 18446744073709551615 v (by omega) (by omega) h0 (by omega)]
  have : (18446744073709551615 : Int).toNat ^^^ v.toNat = 18446744073709551615 - v.toNat := nat_xorMax (by omega)
  rw [this]
  omega
/-- the complement of a number that is not negative -/
theorem i64_not {v : Int} (h0 : 0 ≤ v) (h1 : v ≤ 9223372036854775807) : bits .xor .i64 (-1) v = -1 - v := by
  obtain ⟨x, rfl⟩ := Int.eq_ofNat_of_zero_le h0
  show IntKind.i64.wrap ((BitVec.ofInt 64 (-1) ^^^ BitVec.ofInt 64 (x : Int)).toNat : Int) = _
  have e : (BitVec.ofInt 64 (-1)).toNat = 18446744073709551615 := by rfl
  rw [BitVec.toNat_xor, ofInt_u64 x (by omega), e, nat_xorMax (by omega), IntKind.wrap_i64]
  omega
/-- two numbers, one in the bits below i, the other in those from i on -/
theorem u64_orPow {a b : Int} {i : Nat} (h0 : 0 ≤ a) (h1 : a < 2 ^ i) (h2 : 0 ≤ b) (h3 : a + b * 2 ^ i ≤ 18446744073709551615) :
    bits .or .u64 a (b * 2 ^ i) = a + b * 2 ^ i := by
  obtain ⟨x, rfl⟩ := Int.eq_ofNat_of_zero_le h0
  obtain ⟨y, rfl⟩ := Int.eq_ofNat_of_zero_le h2
  have hx : x < 2 ^ i := by exact_mod_cast h1
  have e : ((y : Int) * 2 ^ i) = ((y * 2 ^ i : Nat) : Int) := by push_cast; rfl
  rw [e] at h3 ⊢
  rw [u64_or _ _ (by omega) (by omega) (by omega) (by omega)]
  have hj : (y * 2 ^ i) ||| x = y * 2 ^ i + x := nat_join i _ _ (Nat.mul_mod_left _ _) hx
  rw [Nat.or_comm] at hj
  simp only [Int.toNat_natCast]
  rw [hj]
  omega
/-- one more digit of seven bits -/
theorem or_step {v c : Int} {g : Nat} (h0 : 0 ≤ v) (h1 : v < 2 ^ (7 * g)) (c0 : 0 ≤ c) (c1 : c < 128) (hg : g < 9 ∨ (g = 9 ∧ c ≤ 1)) :
    bits .or .u64 v (IntKind.u64.wrap (c * 2 ^ (7 * g))) = v + c * 2 ^ (7 * g) ∧ 0 ≤ v + c * 2 ^ (7 * g) ∧ v + c * 2 ^ (7 * g) ≤ 18446744073709551615 ∧
      v + c * 2 ^ (7 * g) < 2 ^ (7 * (g + 1)) := by
  have hp0 : (0 : Int) < 2 ^ (7 * g) := Int.pow_pos (by omega)
  have hs : (2 : Int) ^ (7 * (g + 1)) = 2 ^ (7 * g) * 128 := by rw [Nat.mul_add, Int.pow_add]; rfl
  have hc0 : 0 ≤ c * 2 ^ (7 * g) := Int.mul_nonneg c0 (by omega)
  have hb : v + c * 2 ^ (7 * g) ≤ 18446744073709551615 := by
    rcases hg with hg | ⟨rfl, hc⟩
    · have hp : (2 : Int) ^ (7 * g) ≤ 2 ^ 56 := by
        have : (2 : Nat) ^ (7 * g) ≤ 2 ^ 56 := Nat.pow_le_pow_right (by omega) (by omega)
        exact_mod_cast this
      have : c * 2 ^ (7 * g) ≤ 127 * 2 ^ (7 * g) := Int.mul_le_mul_of_nonneg_right (by omega) (by omega)
      omega
    · have : c * 2 ^ (7 * 9) ≤ 1 * 2 ^ (7 * 9) := Int.mul_le_mul_of_nonneg_right (by omega) (by omega)
      omega
  have hw : IntKind.u64.wrap (c * 2 ^ (7 * g)) = c * 2 ^ (7 * g) := IntWalk.u64_in _ (by omega)
  refine ⟨by rw [hw]; exact u64_orPow h0 h1 c0 hb, by omega, hb, ?_⟩
  have : c * 2 ^ (7 * g) ≤ 127 * 2 ^ (7 * g) := Int.mul_le_mul_of_nonneg_right (by omega) (by omega)
  rw [hs]
  omega
end Go.Proofs.YtdcdlnmgbgeeeaaDoor.Bt
