/- Plain arithmetic of the encoding of integers: no program in it. -/
import Derived.WalkKit
namespace Go.Proofs.YtnljpopjhjcocaaDoor.Wm
open Go.RowKit

/-- what fold makes of n -/
def fold (n : Int) : Int := if n < 0 then 2 * (-1 - n) + 1 else 2 * n
def unfold (u : Int) : Int := if u % 2 = 1 then -1 - u / 2 else u / 2

theorem fold_neg {n : Int} (h : n < 0) : 2 * (-1 - n) + 1 = fold n := by unfold fold; rw [if_pos h]
theorem fold_pos {n : Int} (h : ¬ n < 0) : 2 * n = fold n := by unfold fold; rw [if_neg h]
theorem unfold_odd {u : Int} (h : u % 2 = 1) : -1 - u / 2 = unfold u := by unfold unfold; rw [if_pos h]
theorem unfold_even {u : Int} (h : ¬ u % 2 = 1) : u / 2 = unfold u := by unfold unfold; rw [if_neg h]

theorem fold_lo {n : Int} (h0 : -9223372036854775808 ≤ n) (h1 : n ≤ 9223372036854775807) : 0 ≤ fold n ∧ fold n ≤ 18446744073709551615 := by
  unfold fold; split <;> omega
theorem unfold_lo {n : Int} (h0 : 0 ≤ n) (h1 : n ≤ 18446744073709551615) : -9223372036854775808 ≤ unfold n ∧ unfold n ≤ 9223372036854775807 := by
  unfold unfold; split <;> omega
theorem unfold_fold (n : Int) : unfold (fold n) = n := by
  unfold unfold fold; split <;> split <;> omega
theorem fold_unfold {u : Int} (h : 0 ≤ u) : fold (unfold u) = u := by
  unfold unfold fold; split <;> split <;> omega

/-- the digits of u, the lowest first, and with each whether it is the last -/
def digs : Nat → Int → List (Int × Bool)
  | 0, u => [(u, true)]
  | k + 1, u => if u < 128 then [(u, true)] else (u % 128, false) :: digs k (u / 128)

/-- the byte that stands for a digit -/
def byteOf (x : Int × Bool) : Int := if x.2 then x.1 else IntKind.u8.wrap (x.1 + 128)

def encF : Nat → Int → List Int
  | 0, u => [u]
  | k + 1, u => if u < 128 then [u] else (u % 128 + 128) :: encF k (u / 128)

theorem encF_last {j : Nat} {u : Int} (h : u < 128) : encF j u = [u] := by
  cases j with
  | zero => rfl
  | succ j => unfold encF; rw [if_pos h]
theorem encF_more {j : Nat} {u : Int} (h : ¬ u < 128) : encF (j + 1) u = (u % 128 + 128) :: encF j (u / 128) := by
  rw [encF, if_neg h]

/-- fold, as shifts and a complement say it -/
theorem fold_shl {k : Int} (h0 : 0 ≤ k) (h1 : k ≤ 9223372036854775807) : IntKind.u64.wrap (IntKind.u64.wrap k * 2) = fold k := by
  rw [← fold_pos (by omega : ¬ k < 0)]; simp only [IntKind.wrap_u64]; omega
theorem fold_xor {k : Int} (h0 : k < 0) (h1 : -9223372036854775808 ≤ k) : 18446744073709551615 - IntKind.u64.wrap (IntKind.u64.wrap k * 2) = fold k := by
  rw [← fold_neg h0]; simp only [IntKind.wrap_u64]; omega
theorem wrap_lo (k : Int) : 0 ≤ IntKind.u64.wrap k ∧ IntKind.u64.wrap k ≤ 18446744073709551615 := by simp only [IntKind.wrap_u64]; omega

theorem encF_digs : ∀ (k : Nat) (u : Int), (digs k u).map byteOf = encF k u := by
  intro k
  induction k with
  | zero => intro u; simp [digs, encF, byteOf]
  | succ k ih =>
    intro u
    unfold digs encF
    split
    · simp [byteOf]
    · rw [List.map_cons, ih]
      congr 1
      simp only [byteOf]
      rw [if_neg (by simp)]
      exact IntWalk.u8_in _ (by omega)

theorem lt_pow {u : Int} {j : Nat} (h : u < 128 ^ (j + 1 + 1)) : u / 128 < 128 ^ (j + 1) := by
  refine Int.ediv_lt_of_lt_mul (by omega) ?_
  rw [Int.pow_succ] at h
  omega
theorem lt_pow9 {u : Int} (h : u ≤ 18446744073709551615) : u < 128 ^ (9 + 1) := by
  have : (128 : Int) ^ (9 + 1) = 1180591620717411303424 := by decide
  omega
theorem digs_last {j : Nat} {u : Int} (h : u < 128) : digs j u = [(u, true)] := by
  cases j with
  | zero => rfl
  | succ j => unfold digs; rw [if_pos h]
theorem digs_more {j : Nat} {u : Int} (h : ¬ u < 128) : digs (j + 1) u = (u % 128, false) :: digs j (u / 128) := by
  rw [digs, if_neg h]

/-- the bytes of n -/
def pint (n : Int) : List Int := encF 9 (fold n)

theorem pint_digs (n : Int) : (digs 9 (fold n)).map byteOf = pint n := encF_digs 9 (fold n)

theorem encF_len : ∀ (k : Nat) (u : Int), 1 ≤ (encF k u).length ∧ (encF k u).length ≤ k + 1 := by
  intro k
  induction k with
  | zero => intro u; simp [encF]
  | succ k ih =>
    intro u
    unfold encF
    split
    · simp
    · have := ih (u / 128); simp; omega
theorem pint_len (n : Int) : 1 ≤ (pint n).length ∧ (pint n).length ≤ 10 := encF_len 9 _

theorem encF_byte : ∀ (k : Nat) (u : Int), 0 ≤ u → u < 128 ^ (k + 1) → ∀ c ∈ encF k u, 0 ≤ c ∧ c ≤ 255 := by
  intro k
  induction k with
  | zero => intro u h0 h1 c hc; simp [encF] at hc h1; omega
  | succ k ih =>
    intro u h0 h1 c hc
    unfold encF at hc
    split at hc
    · simp at hc; omega
    · rcases List.mem_cons.1 hc with rfl | hc
      · omega
      · exact ih (u / 128) (by omega) (lt_pow h1) c hc
theorem pint_byte {n : Int} (h0 : -9223372036854775808 ≤ n) (h1 : n ≤ 9223372036854775807) : ∀ c ∈ pint n, 0 ≤ c ∧ c ≤ 255 :=
  encF_byte 9 _ (fold_lo h0 h1).1 (lt_pow9 (fold_lo h0 h1).2)

/-- the bytes of a text -/
def ptext (xs : List Int) : List Int := pint (xs.length : Int) ++ xs
/-- the bytes of a list -/
def pints (l : List Int) : List Int := pint (l.length : Int) ++ l.flatMap pint

/-! ### reading -/

/-- what stands from a digit on: the number, how many bytes it has, the error -/
def scan : List Int → Nat → Int → Int × Int × Int
  | [], _, _ => (0, 0, 11)
  | c :: l, i, u =>
    if (i = 9 ∧ 1 < c) ∨ (0 < i ∧ c = 0) then (0, 0, 12)
    else if c < 128 then (u + c * 2 ^ (7 * i), (i : Int) + 1, 0)
    else scan l (i + 1) (u + (c - 128) * 2 ^ (7 * i))

/-- the integer at an offset, the offset behind it, the error -/
def rd (b : List Int) (t : Int) : Int × Int × Int :=
  if t < 0 ∨ b.length < t then (0, 0, 1)
  else if (scan (b.drop t.toNat) 0 0).2.2 = 0 then (unfold (scan (b.drop t.toNat) 0 0).1, t + (scan (b.drop t.toNat) 0 0).2.1, 0)
  else (0, 0, (scan (b.drop t.toNat) 0 0).2.2)

theorem rd_arg {b : List Int} {t : Int} (h : t < 0 ∨ b.length < t) : rd b t = (0, 0, 1) := by unfold rd; rw [if_pos h]
theorem rd_err {b : List Int} {t e : Int} (h : ¬ (t < 0 ∨ b.length < t)) (hs : scan (b.drop t.toNat) 0 0 = (0, 0, e)) (he : e ≠ 0) : rd b t = (0, 0, e) := by
  unfold rd; rw [if_neg h, hs, if_neg (by simpa using he)]
theorem rd_ok {b : List Int} {t u k : Int} (h : ¬ (t < 0 ∨ b.length < t)) (hs : scan (b.drop t.toNat) 0 0 = (u, k, 0)) : rd b t = (unfold u, t + k, 0) := by
  unfold rd; rw [if_neg h, hs, if_pos rfl]

theorem scan_end (i : Nat) (u : Int) : scan [] i u = (0, 0, 11) := rfl
theorem scan_long {c : Int} {l : List Int} {i : Nat} {u : Int} (h : (i = 9 ∧ 1 < c) ∨ (0 < i ∧ c = 0)) : scan (c :: l) i u = (0, 0, 12) := by
  rw [scan, if_pos h]
theorem scan_last {c : Int} {l : List Int} {i : Nat} {u : Int} (h : ¬ ((i = 9 ∧ 1 < c) ∨ (0 < i ∧ c = 0))) (hc : c < 128) : scan (c :: l) i u = (u + c * 2 ^ (7 * i), (i : Int) + 1, 0) := by
  rw [scan, if_neg h, if_pos hc]
theorem scan_more {c : Int} {l : List Int} {i : Nat} {u : Int} (h : ¬ ((i = 9 ∧ 1 < c) ∨ (0 < i ∧ c = 0))) (hc : ¬ c < 128) : scan (c :: l) i u = scan l (i + 1) (u + (c - 128) * 2 ^ (7 * i)) := by
  rw [scan, if_neg h, if_neg hc]

end Go.Proofs.YtnljpopjhjcocaaDoor.Wm
