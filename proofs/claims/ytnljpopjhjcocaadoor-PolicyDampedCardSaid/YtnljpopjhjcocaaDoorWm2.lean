/- Plain arithmetic: what is written is read back, and what is read is what is written. No program in it. -/
import Derived.Test.YtnljpopjhjcocaaDoorWm
namespace Go.Proofs.YtnljpopjhjcocaaDoor.Wm
open Go.RowKit

theorem pow7 (i : Nat) : (2 : Int) ^ (7 * (i + 1)) = 2 ^ (7 * i) * 128 := by rw [Nat.mul_add, Int.pow_add]; rfl
theorem pow7_pos (i : Nat) : (0 : Int) < 2 ^ (7 * i) := Int.pow_pos (by omega)
theorem pow63 : (2 : Int) ^ (7 * 9) = 9223372036854775808 := by decide

theorem split_mul (u p : Int) : u % 128 * p + u / 128 * (p * 128) = u * p := by
  have h : u * p = (u / 128 * 128 + u % 128) * p := by rw [Int.ediv_mul_add_emod]
  rw [h, Int.add_mul, Int.mul_assoc (u / 128), Int.mul_comm 128 p, Int.add_comm]

theorem not_long {u : Int} {i : Nat} (h0 : 0 ≤ u) (hi : 0 < i → 0 < u) (hb : u * 2 ^ (7 * i) ≤ 18446744073709551615) : ¬ ((i = 9 ∧ 1 < u) ∨ (0 < i ∧ u = 0)) := by
  rintro (⟨rfl, h⟩ | ⟨h, rfl⟩)
  · rw [pow63] at hb; omega
  · exact absurd (hi h) (by omega)

theorem step_bound {u p : Int} (hp : 0 < p) (hb : u * p ≤ 18446744073709551615) : u / 128 * (p * 128) ≤ 18446744073709551615 := by
  have h1 := split_mul u p
  have h2 : 0 ≤ u % 128 * p := Int.mul_nonneg (by omega) (by omega)
  omega

theorem lt9 {u : Int} {i : Nat} (h : ¬ u < 128) (hi : i ≤ 9) (hb : u * 2 ^ (7 * i) ≤ 18446744073709551615) : i ≤ 8 := by
  rcases Nat.lt_or_ge i 9 with h9 | h9
  · omega
  · obtain rfl : i = 9 := by omega
    rw [pow63] at hb
    omega

/-- what is written is read back -/
theorem scan_enc : ∀ (k : Nat) (u : Int) (i : Nat) (acc : Int) (rest : List Int), 0 ≤ u → u < 128 ^ (k + 1) → (0 < i → 0 < u) → u * 2 ^ (7 * i) ≤ 18446744073709551615 → i ≤ 9 →
    scan (encF k u ++ rest) i acc = (acc + u * 2 ^ (7 * i), (i : Int) + (encF k u).length, 0) := by
  intro k
  induction k with
  | zero =>
    intro u i acc rest h0 h1 hi hb _
    have hlt : u < 128 := by simpa using h1
    rw [encF_last hlt, List.singleton_append, scan_last (not_long h0 hi hb) hlt]
    rfl
  | succ k ih =>
    intro u i acc rest h0 h1 hi hb h9
    by_cases hlt : u < 128
    · rw [encF_last hlt, List.singleton_append, scan_last (not_long h0 hi hb) hlt]
      rfl
    · have h8 := lt9 hlt h9 hb
      rw [encF_more hlt, List.cons_append, scan_more (by omega) (by omega), ih (u / 128) (i + 1) _ rest (by omega) (lt_pow h1) (by intro _; omega) (by rw [pow7]; exact step_bound (pow7_pos i) hb) (by omega)]
      have e := split_mul u (2 ^ (7 * i))
      rw [pow7]
      simp only [Prod.mk.injEq, List.length_cons, and_true]
      refine ⟨?_, by omega⟩
      rw [show u % 128 + 128 - 128 = u % 128 from by omega]
      omega

/-- a part of what is written is not read -/
theorem scan_cut : ∀ (k : Nat) (u : Int) (i : Nat) (acc : Int) (j : Nat), j < (encF k u).length → i + j ≤ 9 → scan ((encF k u).take j) i acc = (0, 0, 11) := by
  intro k
  induction k with
  | zero =>
    intro u i acc j hj _
    simp [encF] at hj
    subst hj
    rfl
  | succ k ih =>
    intro u i acc j hj h9
    cases j with
    | zero => rfl
    | succ j =>
      by_cases hlt : u < 128
      · rw [encF_last hlt] at hj; simp at hj
      · rw [encF_more hlt] at hj ⊢
        rw [List.take_succ_cons, scan_more (by omega) (by omega)]
        exact ih (u / 128) (i + 1) _ j (by simpa using hj) (by omega)

theorem pint_scan {n : Int} (h0 : -9223372036854775808 ≤ n) (h1 : n ≤ 9223372036854775807) (rest : List Int) :
    scan (pint n ++ rest) 0 0 = (fold n, ((pint n).length : Int), 0) := by
  have hlo := fold_lo h0 h1
  have := scan_enc 9 (fold n) 0 0 rest hlo.1 (lt_pow9 hlo.2) (by omega) (by simpa using hlo.2) (by omega)
  rw [show pint n = encF 9 (fold n) from rfl, this]
  simp

theorem rd_pint {n : Int} (h0 : -9223372036854775808 ≤ n) (h1 : n ≤ 9223372036854775807) (ahead rest : List Int) :
    rd (ahead ++ (pint n ++ rest)) (ahead.length : Int) = (n, (ahead.length : Int) + (pint n).length, 0) := by
  rw [rd_ok (u := fold n) (k := ((pint n).length : Int)) (by simp; omega) (by rw [Int.toNat_natCast, List.drop_left]; exact pint_scan h0 h1 rest), unfold_fold]

theorem rd_cut {n : Int} {j : Nat} (hj : j < (pint n).length) : rd ((pint n).take j) 0 = (0, 0, 11) := by
  refine rd_err (by simp) ?_ (by omega)
  have := pint_len n
  exact scan_cut 9 (fold n) 0 0 j hj (by omega)

/-! ### how long it is -/

def cntF : Nat → Int → Nat
  | 0, _ => 0
  | k + 1, v => if v ≤ 0 then 0 else 1 + cntF k (v / 128)

theorem cntF_end {k : Nat} {v : Int} (h : v ≤ 0) : cntF k v = 0 := by
  cases k with
  | zero => rfl
  | succ k => unfold cntF; rw [if_pos h]
theorem cntF_more {k : Nat} {v : Int} (h : ¬ v ≤ 0) : cntF (k + 1) v = 1 + cntF k (v / 128) := by rw [cntF, if_neg h]

theorem encF_cnt : ∀ (k : Nat) (u : Int), 0 ≤ u → (encF k u).length = 1 + cntF k (u / 128) := by
  intro k
  induction k with
  | zero => intro u _; rfl
  | succ k ih =>
    intro u h0
    by_cases h : u < 128
    · rw [encF_last h, cntF_end (by omega)]; rfl
    · rw [encF_more h, List.length_cons, ih (u / 128) (by omega), cntF_more (by omega)]
      omega

/-- n as it is where it is not negative, and -1 - n where it is -/
def mag (n : Int) : Int := if n < 0 then -1 - n else n
theorem mag_lo {n : Int} (h0 : -9223372036854775808 ≤ n) (h1 : n ≤ 9223372036854775807) : 0 ≤ mag n ∧ mag n ≤ 9223372036854775807 := by
  unfold mag; split <;> omega
theorem fold_mag (n : Int) : fold n / 128 = mag n / 64 := by unfold fold mag; split <;> omega
theorem mag_xor {n : Int} (h : n < 0) (h0 : -9223372036854775808 ≤ n) : 18446744073709551615 - IntKind.u64.wrap n = mag n := by
  unfold mag; rw [if_pos h, IntKind.wrap_u64]; omega
theorem mag_pos {n : Int} (h : ¬ n < 0) : mag n = n := by unfold mag; rw [if_neg h]

theorem pint_cnt {n : Int} (h0 : -9223372036854775808 ≤ n) (h1 : n ≤ 9223372036854775807) : (pint n).length = 1 + cntF 9 (mag n / 64) := by
  rw [← fold_mag]; exact encF_cnt 9 _ (fold_lo h0 h1).1

theorem lt_pow_cnt {v : Int} {j : Nat} (h : v < 128 ^ (j + 1)) : v / 128 < 128 ^ j := by
  refine Int.ediv_lt_of_lt_mul (by omega) ?_
  rw [Int.pow_succ] at h
  omega
theorem mag_pow {n : Int} (h0 : -9223372036854775808 ≤ n) (h1 : n ≤ 9223372036854775807) : mag n / 64 < 128 ^ 9 := by
  have := mag_lo h0 h1
  have e : (128 : Int) ^ 9 = 9223372036854775808 := by decide
  omega

theorem encF_init : ∀ (k : Nat) (u : Int) (i : Nat) (c : Int), 0 ≤ u → i + 1 < (encF k u).length → (encF k u)[i]? = some c → 128 ≤ c := by
  intro k
  induction k with
  | zero => intro u i c _ h; simp [encF] at h
  | succ k ih =>
    intro u i c h0 h hc
    by_cases hlt : u < 128
    · rw [encF_last hlt] at h; simp at h
    · rw [encF_more hlt] at h hc
      cases i with
      | zero => simp at hc; omega
      | succ i =>
        rw [List.getElem?_cons_succ] at hc
        exact ih (u / 128) i c (by omega) (by simpa using h) hc

theorem encF_final : ∀ (k : Nat) (u : Int), 0 ≤ u → u < 128 ^ (k + 1) → ∃ c, (encF k u)[(encF k u).length - 1]? = some c ∧ 0 ≤ c ∧ c < 128 ∧ (0 < u → 0 < c) := by
  intro k
  induction k with
  | zero =>
    intro u h0 h1
    exact ⟨u, rfl, h0, by simpa using h1, fun h => h⟩
  | succ k ih =>
    intro u h0 h1
    by_cases hlt : u < 128
    · rw [encF_last hlt]; exact ⟨u, rfl, h0, hlt, fun h => h⟩
    · obtain ⟨c, hc, c0, c1, c2⟩ := ih (u / 128) (by omega) (lt_pow h1)
      have hl := encF_len k (u / 128)
      refine ⟨c, ?_, c0, c1, fun _ => c2 (by omega)⟩
      rw [encF_more hlt, List.length_cons, show (encF k (u / 128)).length + 1 - 1 = ((encF k (u / 128)).length - 1) + 1 from by omega, List.getElem?_cons_succ]
      exact hc

theorem encF_one {k : Nat} {u : Int} (h : u ≤ 0) : (encF k u).length = 1 := by rw [encF_last (by omega)]; rfl

theorem pint_init {n : Int} (h0 : -9223372036854775808 ≤ n) (h1 : n ≤ 9223372036854775807) {i : Nat} {c : Int} (h : i + 1 < (pint n).length) (hc : (pint n)[i]? = some c) : 128 ≤ c :=
  encF_init 9 _ i c (fold_lo h0 h1).1 h hc
theorem pint_final {n : Int} (h0 : -9223372036854775808 ≤ n) (h1 : n ≤ 9223372036854775807) :
    ∃ c, (pint n)[(pint n).length - 1]? = some c ∧ 0 ≤ c ∧ c < 128 ∧ ((pint n).length ≤ 1 ∨ 0 < c) := by
  obtain ⟨c, hc, c0, c1, c2⟩ := encF_final 9 _ (fold_lo h0 h1).1 (lt_pow9 (fold_lo h0 h1).2)
  refine ⟨c, hc, c0, c1, ?_⟩
  rcases Int.lt_or_le 0 (fold n) with h | h
  · exact .inr (c2 h)
  · exact .inl (by rw [show pint n = encF 9 (fold n) from rfl, encF_one h]; exact Nat.le_refl _)

end Go.Proofs.YtnljpopjhjcocaaDoor.Wm
