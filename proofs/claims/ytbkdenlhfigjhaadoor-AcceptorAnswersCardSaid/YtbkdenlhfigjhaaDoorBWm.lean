/- Plain arithmetic of the encoding of integers: no program in it. -/
import Derived.WalkKit
namespace Go.Proofs.YtbkdenlhfigjhaaDoor.Wm
open Go.RowKit

/-- what fold makes of n -/
def fold (n : Int) : Int := if n < 0 then 2 * (-1 - n) + 1 else 2 * n
def unfold (u : Int) : Int := if u % 2 = 1 then -1 - u / 2 else u / 2

theorem fold_neg {n : Int} (h : n < 0) : 2 * (-1 - n) + 1 = fold n := by unfold fold; rw [if_pos h]
theorem fold_pos {n : Int} (h : ¬ n < 0) : 2 * n = fold n := by unfold fold; rw [if_neg h]
theorem unfold_odd {u : Int} (h : u % 2 = 1) : -1 - u / 2 = unfold u := by unfold unfold; rw [if_pos h]
theorem unfold_even {u : Int} (h : ¬ u % 2 = 1) : u / 2 = unfold u := by unfold unfold; rw [if_neg h]

theorem fold_lo {n : Int} (h0 : -9223372036854775808 ≤ n) (h1 : n ≤ 9223372036854775807) : 0 ≤ fold n ∧ fold n ≤ 18446744073709551615 := by
  unfold fold; split <;> omega
theorem unfold_lo {n : Int} (h0 : 0 ≤ n) (h1 : n ≤ 18446744073709551615) : -9223372036854775808 ≤ unfold n ∧ unfold n ≤ 9223372036854775807 := by
  unfold unfold; split <;> omega
theorem unfold_fold (n : Int) : unfold (fold n) = n := by
  unfold unfold fold; split <;> split <;> omega
theorem fold_unfold {u : Int} (h : 0 ≤ u) : fold (unfold u) = u := by
  unfold unfold fold; split <;> split <;> omega

/-- the digits of u, the lowest first, and with each whether it is the last -/
def digs : Nat → Int → List (Int × Bool)
  | 0, u => [(u, true)]
  | k + 1, u => if u < 128 then [(u, true)] else (u % 128, false) :: digs k (u / 128)

/-- the byte that stands for a digit -/
def byteOf (x : Int × Bool) : Int := if x.2 then x.1 else IntKind.u8.wrap (x.1 + 128)

def encF : Nat → Int → List Int
  | 0, u => [u]
  | k + 1, u => if u < 128 then [u] else (u % 128 + 128) :: encF k (u / 128)

theorem encF_last {j : Nat} {u : Int} (h : u < 128) : encF j u = [u] := by
  cases j with
  | zero => rfl
  | succ j => unfold encF; rw [if_pos h]
theorem encF_more {j : Nat} {u : Int} (h : ¬ u < 128) : encF (j + 1) u = (u % 128 + 128) :: encF j (u / 128) := by
  rw [encF, if_neg h]

/-- fold, as shifts and a complement say it -/
theorem fold_shl {k : Int} (h0 : 0 ≤ k) (h1 : k ≤ 9223372036854775807) : IntKind.u64.wrap (IntKind.u64.wrap k * 2) = fold k := by
  rw [← fold_pos (by omega : ¬ k < 0)]; simp only [IntKind.wrap_u64]; omega
theorem fold_xor {k : Int} (h0 : k < 0) (h1 : -9223372036854775808 ≤ k) : 18446744073709551615 - IntKind.u64.wrap (IntKind.u64.wrap k * 2) = fold k := by
  rw [← fold_neg h0]; simp only [IntKind.wrap_u64]; omega
theorem wrap_lo (k : Int) : 0 ≤ IntKind.u64.wrap k ∧ IntKind.u64.wrap k ≤ 18446744073709551615 := by simp only [IntKind.wrap_u64]; omega

theorem encF_digs : ∀ (k : Nat) (u : Int), (digs k u).map byteOf = encF k u := by
  intro k
  induction k with
  | zero => intro u; simp [digs, encF, byteOf]
  | succ k ih =>
    intro u
    unfold digs encF
    split
    · simp [byteOf]
    · rw [List.map_cons, ih]
      congr 1
      simp only [byteOf]
      rw [if_neg (by simp)]
      exact IntWalk.u8_in _ (by omega)

theorem lt_pow {u : Int} {j : Nat} (h : u < 128 ^ (j + 1 + 1)) : u / 128 < 128 ^ (j + 1) := by
  refine Int.ediv_lt_of_lt_mul (by omega) ?_
  rw [Int.pow_succ] at h
  omega
theorem lt_pow9 {u : Int} (h : u ≤ 18446744073709551615) : u < 128 ^ (9 + 1) := by
  have : (128 : Int) ^ (9 + 1) = 1180591620717411303424 := by decide
  omega
theorem digs_last {j : Nat} {u : Int} (h : u < 128) : digs j u = [(u, true)] := by
  cases j with
  | zero => rfl
  | succ j => unfold digs; rw [if_pos h]
theorem digs_more {j : Nat} {u : Int} (h : ¬ u < 128) : digs (j + 1) u = (u % 128, false) :: digs j (u / 128) := by
  rw [digs, if_neg h]

/-- the bytes of n -/
def pint (n : Int) : List Int := encF 9 (fold n)

theorem pint_digs (n : Int) : (digs 9 (fold n)).map byteOf = pint n := encF_digs 9 (fold n)

theorem encF_len : ∀ (k : Nat) (u : Int), 1 ≤ (encF k u).length ∧ (encF k u).length ≤ k + 1 := by
  intro k
  induction k with
  | zero => intro u; simp [encF]
  | succ k ih =>
    intro u
    unfold encF
    split
    · simp
    · have := ih (u / 128); simp; omega
theorem pint_len (n : Int) : 1 ≤ (pint n).length ∧ (pint n).length ≤ 10 := encF_len 9 _

theorem encF_byte : ∀ (k : Nat) (u : Int), 0 ≤ u → u < 128 ^ (k + 1) → ∀ c ∈ encF k u, 0 ≤ c ∧ c ≤ 255 := by
  intro k
  induction k with
  | zero => intro u h0 h1 c hc; simp [encF] at hc h1; omega
  | succ k ih =>
    intro u h0 h1 c hc
    unfold encF at hc
    split at hc
    · simp at hc; omega
    · rcases List.mem_cons.1 hc with rfl | hc
      · omega
      · exact ih (u / 128) (by omega) (lt_pow h1) c hc
theorem pint_byte {n : Int} (h0 : -9223372036854775808 ≤ n) (h1 : n ≤ 9223372036854775807) : ∀ c ∈ pint n, 0 ≤ c ∧ c ≤ 255 :=
  encF_byte 9 _ (fold_lo h0 h1).1 (lt_pow9 (fold_lo h0 h1).2)

/-- the bytes of a text -/
def ptext (xs : List Int) : List Int := pint (xs.length : Int) ++ xs
/-- the bytes of a list -/
def pints (l : List Int) : List Int := pint (l.length : Int) ++ l.flatMap pint

/-! ### reading -/

/-- what stands from a digit on: the number, how many bytes it has, the error -/
def scan : List Int → Nat → Int → Int × Int × Int
  | [], _, _ => (0, 0, 11)
  | c :: l, i, u =>
    if (i = 9 ∧ 1 < c) ∨ (0 < i ∧ c = 0) then (0, 0, 12)
    else if c < 128 then (u + c * 2 ^ (7 * i), (i : Int) + 1, 0)
    else scan l (i + 1) (u + (c - 128) * 2 ^ (7 * i))

/-- the integer at an offset, the offset behind it, the error -/
def rd (b : List Int) (t : Int) : Int × Int × Int :=
  if t < 0 ∨ b.length < t then (0, 0, 1)
  else if (scan (b.drop t.toNat) 0 0).2.2 = 0 then (unfold (scan (b.drop t.toNat) 0 0).1, t + (scan (b.drop t.toNat) 0 0).2.1, 0)
  else (0, 0, (scan (b.drop t.toNat) 0 0).2.2)

theorem rd_arg {b : List Int} {t : Int} (h : t < 0 ∨ b.length < t) : rd b t = (0, 0, 1) := by unfold rd; rw [if_pos h]
theorem rd_err {b : List Int} {t e : Int} (h : ¬ (t < 0 ∨ b.length < t)) (hs : scan (b.drop t.toNat) 0 0 = (0, 0, e)) (he : e ≠ 0) : rd b t = (0, 0, e) := by
  unfold rd; rw [if_neg h, hs, if_neg (by simpa using he)]
theorem rd_ok {b : List Int} {t u k : Int} (h : ¬ (t < 0 ∨ b.length < t)) (hs : scan (b.drop t.toNat) 0 0 = (u, k, 0)) : rd b t = (unfold u, t + k, 0) := by
  unfold rd; rw [if_neg h, hs, if_pos rfl]

theorem scan_end (i : Nat) (u : Int) : scan [] i u = (0, 0, 11) := rfl
theorem scan_long {c : Int} {l : List Int} {i : Nat} {u : Int} (h : (i = 9 ∧ 1 < c) ∨ (0 < i ∧ c = 0)) : scan (c :: l) i u = (0, 0, 12) := by
  rw [scan, if_pos h]
theorem scan_last {c : Int} {l : List Int} {i : Nat} {u : Int} (h : ¬ ((i = 9 ∧ 1 < c) ∨ (0 < i ∧ c = 0))) (hc : c < 128) : scan (c :: l) i u = (u + c * 2 ^ (7 * i), (i : Int) + 1, 0) := by
  rw [scan, if_neg h, if_pos hc]
theorem scan_more {c : Int} {l : List Int} {i : Nat} {u : Int} (h : ¬ ((i = 9 ∧ 1 < c) ∨ (0 < i ∧ c = 0))) (hc : ¬ c < 128) : scan (c :: l) i u = scan l (i + 1) (u + (c - 128) * 2 ^ (7 * i)) := by
  rw [scan, if_neg h, if_neg hc]

end Go.Proofs.YtbkdenlhfigjhaaDoor.Wm

/- Plain arithmetic: what is written is read back, and what is read is what is written. No program in it. -/
namespace Go.Proofs.YtbkdenlhfigjhaaDoor.Wm
open Go.RowKit

theorem pow7 (i : Nat) : (2 : Int) ^ (7 * (i + 1)) = 2 ^ (7 * i) * 128 := by rw [Nat.mul_add, Int.pow_add]; rfl
theorem pow7_pos (i : Nat) : (0 : Int) < 2 ^ (7 * i) := Int.pow_pos (by omega)
theorem pow63 : (2 : Int) ^ (7 * 9) = 9223372036854775808 := by decide

theorem split_mul (u p : Int) : u % 128 * p + u / 128 * (p * 128) = u * p := by
  have h : u * p = (u / 128 * 128 + u % 128) * p := by rw [Int.ediv_mul_add_emod]
  rw [h, Int.add_mul, Int.mul_assoc (u / 128), Int.mul_comm 128 p, Int.add_comm]

theorem not_long {u : Int} {i : Nat} (h0 : 0 ≤ u) (hi : 0 < i → 0 < u) (hb : u * 2 ^ (7 * i) ≤ 18446744073709551615) : ¬ ((i = 9 ∧ 1 < u) ∨ (0 < i ∧ u = 0)) := by
  rintro (⟨rfl, h⟩ | ⟨h, rfl⟩)
  · rw [pow63] at hb; omega
  · exact absurd (hi h) (by omega)

theorem step_bound {u p : Int} (hp : 0 < p) (hb : u * p ≤ 18446744073709551615) : u / 128 * (p * 128) ≤ 18446744073709551615 := by
  have h1 := split_mul u p
  have h2 : 0 ≤ u % 128 * p := Int.mul_nonneg (by omega) (by omega)
  omega

theorem lt9 {u : Int} {i : Nat} (h : ¬ u < 128) (hi : i ≤ 9) (hb : u * 2 ^ (7 * i) ≤ 18446744073709551615) : i ≤ 8 := by
  rcases Nat.lt_or_ge i 9 with h9 | h9
  · omega
  · obtain rfl : i = 9 := by omega
    rw [pow63] at hb
    omega

/-- what is written is read back -/
theorem scan_enc : ∀ (k : Nat) (u : Int) (i : Nat) (acc : Int) (rest : List Int), 0 ≤ u → u < 128 ^ (k + 1) → (0 < i → 0 < u) → u * 2 ^ (7 * i) ≤ 18446744073709551615 → i ≤ 9 →
    scan (encF k u ++ rest) i acc = (acc + u * 2 ^ (7 * i), (i : Int) + (encF k u).length, 0) := by
  intro k
  induction k with
  | zero =>
    intro u i acc rest h0 h1 hi hb _
    have hlt : u < 128 := by simpa using h1
    rw [encF_last hlt, List.singleton_append, scan_last (not_long h0 hi hb) hlt]
    rfl
  | succ k ih =>
    intro u i acc rest h0 h1 hi hb h9
    by_cases hlt : u < 128
    · rw [encF_last hlt, List.singleton_append, scan_last (not_long h0 hi hb) hlt]
      rfl
    · have h8 := lt9 hlt h9 hb
      rw [encF_more hlt, List.cons_append, scan_more (by omega) (by omega), ih (u / 128) (i + 1) _ rest (by omega) (lt_pow h1) (by intro _; omega) (by rw [pow7]; exact step_bound (pow7_pos i) hb) (by omega)]
      have e := split_mul u (2 ^ (7 * i))
      rw [pow7]
      simp only [Prod.mk.injEq, List.length_cons, and_true]
      refine ⟨?_, by omega⟩
      rw [show u % 128 + 128 - 128 = u % 128 from by omega]
      omega

/-- a part of what is written is not read -/
theorem scan_cut : ∀ (k : Nat) (u : Int) (i : Nat) (acc : Int) (j : Nat), j < (encF k u).length → i + j ≤ 9 → scan ((encF k u).take j) i acc = (0, 0, 11) := by
  intro k
  induction k with
  | zero =>
    intro u i acc j hj _
    simp [encF] at hj
    subst hj
    rfl
  | succ k ih =>
    intro u i acc j hj h9
    cases j with
    | zero => rfl
    | succ j =>
      by_cases hlt : u < 128
      · rw [encF_last hlt] at hj; simp at hj
      · rw [encF_more hlt] at hj ⊢
        rw [List.take_succ_cons, scan_more (by omega) (by omega)]
        exact ih (u / 128) (i + 1) _ j (by simpa using hj) (by omega)

theorem pint_scan {n : Int} (h0 : -9223372036854775808 ≤ n) (h1 : n ≤ 9223372036854775807) (rest : List Int) :
    scan (pint n ++ rest) 0 0 = (fold n, ((pint n).length : Int), 0) := by
  have hlo := fold_lo h0 h1
  have := scan_enc 9 (fold n) 0 0 rest hlo.1 (lt_pow9 hlo.2) (by omega) (by simpa using hlo.2) (by omega)
  rw [show pint n = encF 9 (fold n) from rfl, this]
  simp

theorem rd_pint {n : Int} (h0 : -9223372036854775808 ≤ n) (h1 : n ≤ 9223372036854775807) (ahead rest : List Int) :
    rd (ahead ++ (pint n ++ rest)) (ahead.length : Int) = (n, (ahead.length : Int) + (pint n).length, 0) := by
  rw [rd_ok (u := fold n) (k := ((pint n).length : Int)) (by simp; omega) (by rw [Int.toNat_natCast, List.drop_left]; exact pint_scan h0 h1 rest), unfold_fold]

theorem rd_cut {n : Int} {j : Nat} (hj : j < (pint n).length) : rd ((pint n).take j) 0 = (0, 0, 11) := by
  refine rd_err (by simp) ?_ (by omega)
  have := pint_len n
  exact scan_cut 9 (fold n) 0 0 j hj (by omega)

/-! ### how long it is -/

def cntF : Nat → Int → Nat
  | 0, _ => 0
  | k + 1, v => if v ≤ 0 then 0 else 1 + cntF k (v / 128)

theorem cntF_end {k : Nat} {v : Int} (h : v ≤ 0) : cntF k v = 0 := by
  cases k with
  | zero => rfl
  | succ k => unfold cntF; rw [if_pos h]
theorem cntF_more {k : Nat} {v : Int} (h : ¬ v ≤ 0) : cntF (k + 1) v = 1 + cntF k (v / 128) := by rw [cntF, if_neg h]

theorem encF_cnt : ∀ (k : Nat) (u : Int), 0 ≤ u → (encF k u).length = 1 + cntF k (u / 128) := by
  intro k
  induction k with
  | zero => intro u _; rfl
  | succ k ih =>
    intro u h0
    by_cases h : u < 128
    · rw [encF_last h, cntF_end (by omega)]; rfl
    · rw [encF_more h, List.length_cons, ih (u / 128) (by omega), cntF_more (by omega)]
      omega

/-- n as it is where it is not negative, and -1 - n where it is -/
def mag (n : Int) : Int := if n < 0 then -1 - n else n
theorem mag_lo {n : Int} (h0 : -9223372036854775808 ≤ n) (h1 : n ≤ 9223372036854775807) : 0 ≤ mag n ∧ mag n ≤ 9223372036854775807 := by
  unfold mag; split <;> omega
theorem fold_mag (n : Int) : fold n / 128 = mag n / 64 := by unfold fold mag; split <;> omega
theorem mag_xor {n : Int} (h : n < 0) (h0 : -9223372036854775808 ≤ n) : 18446744073709551615 - IntKind.u64.wrap n = mag n := by
  unfold mag; rw [if_pos h, IntKind.wrap_u64]; omega
theorem mag_pos {n : Int} (h : ¬ n < 0) : mag n = n := by unfold mag; rw [if_neg h]

theorem pint_cnt {n : Int} (h0 : -9223372036854775808 ≤ n) (h1 : n ≤ 9223372036854775807) : (pint n).length = 1 + cntF 9 (mag n / 64) := by
  rw [← fold_mag]; exact encF_cnt 9 _ (fold_lo h0 h1).1

theorem lt_pow_cnt {v : Int} {j : Nat} (h : v < 128 ^ (j + 1)) : v / 128 < 128 ^ j := by
  refine Int.ediv_lt_of_lt_mul (by omega) ?_
  rw [Int.pow_succ] at h
  omega
theorem mag_pow {n : Int} (h0 : -9223372036854775808 ≤ n) (h1 : n ≤ 9223372036854775807) : mag n / 64 < 128 ^ 9 := by
  have := mag_lo h0 h1
  have e : (128 : Int) ^ 9 = 9223372036854775808 := by decide
  omega

theorem encF_init : ∀ (k : Nat) (u : Int) (i : Nat) (c : Int), 0 ≤ u → i + 1 < (encF k u).length → (encF k u)[i]? = some c → 128 ≤ c := by
  intro k
  induction k with
  | zero => intro u i c _ h; simp [encF] at h
  | succ k ih =>
    intro u i c h0 h hc
    by_cases hlt : u < 128
    · rw [encF_last hlt] at h; simp at h
    · rw [encF_more hlt] at h hc
      cases i with
      | zero => simp at hc; omega
      | succ i =>
        rw [List.getElem?_cons_succ] at hc
        exact ih (u / 128) i c (by omega) (by simpa using h) hc

theorem encF_final : ∀ (k : Nat) (u : Int), 0 ≤ u → u < 128 ^ (k + 1) → ∃ c, (encF k u)[(encF k u).length - 1]? = some c ∧ 0 ≤ c ∧ c < 128 ∧ (0 < u → 0 < c) := by
  intro k
  induction k with
  | zero =>
    intro u h0 h1
    exact ⟨u, rfl, h0, by simpa using h1, fun h => h⟩
  | succ k ih =>
    intro u h0 h1
    by_cases hlt : u < 128
    · rw [encF_last hlt]; exact ⟨u, rfl, h0, hlt, fun h => h⟩
    · obtain ⟨c, hc, c0, c1, c2⟩ := ih (u / 128) (by omega) (lt_pow h1)
      have hl := encF_len k (u / 128)
      refine ⟨c, ?_, c0, c1, fun _ => c2 (by omega)⟩
      rw [encF_more hlt, List.length_cons, show (encF k (u / 128)).length + 1 - 1 = ((encF k (u / 128)).length - 1) + 1 from by omega, List.getElem?_cons_succ]
      exact hc

theorem encF_one {k : Nat} {u : Int} (h : u ≤ 0) : (encF k u).length = 1 := by rw [encF_last (by omega)]; rfl

theorem pint_init {n : Int} (h0 : -9223372036854775808 ≤ n) (h1 : n ≤ 9223372036854775807) {i : Nat} {c : Int} (h : i + 1 < (pint n).length) (hc : (pint n)[i]? = some c) : 128 ≤ c :=
  encF_init 9 _ i c (fold_lo h0 h1).1 h hc
theorem pint_final {n : Int} (h0 : -9223372036854775808 ≤ n) (h1 : n ≤ 9223372036854775807) :
    ∃ c, (pint n)[(pint n).length - 1]? = some c ∧ 0 ≤ c ∧ c < 128 ∧ ((pint n).length ≤ 1 ∨ 0 < c) := by
  obtain ⟨c, hc, c0, c1, c2⟩ := encF_final 9 _ (fold_lo h0 h1).1 (lt_pow9 (fold_lo h0 h1).2)
  refine ⟨c, hc, c0, c1, ?_⟩
  rcases Int.lt_or_le 0 (fold n) with h | h
  · exact .inr (c2 h)
  · exact .inl (by rw [show pint n = encF 9 (fold n) from rfl, encF_one h]; exact Nat.le_refl _)

end Go.Proofs.YtbkdenlhfigjhaaDoor.Wm

/- Plain facts on rows of numbers and on bytes as strings: no program in it. -/
namespace Go.Proofs.YtbkdenlhfigjhaaDoor.Wm
open Go.RowKit

theorem ofNat_inj {a b : Int} (ha : 0 ≤ a ∧ a ≤ 255) (hb : 0 ≤ b ∧ b ≤ 255) (h : UInt8.ofNat a.toNat = UInt8.ofNat b.toNat) : a = b := by
  have h1 := congrArg UInt8.toNat h
  simp only [UInt8.toNat_ofNat'] at h1
  omega

theorem map_ofNat_inj : ∀ {a b : List Int}, (∀ x ∈ a, 0 ≤ x ∧ x ≤ 255) → (∀ x ∈ b, 0 ≤ x ∧ x ≤ 255) → (a.map fun n => UInt8.ofNat n.toNat) = (b.map fun n => UInt8.ofNat n.toNat) → a = b := by
  intro a
  induction a with
  | nil => intro b _ _ h; cases b with
    | nil => rfl
    | cons y b => simp at h
  | cons x a ih =>
    intro b ha hb h
    cases b with
    | nil => simp at h
    | cons y b =>
      rw [List.map_cons, List.map_cons] at h
      injection h with h1 h2
      rw [ofNat_inj (ha x (List.mem_cons_self ..)) (hb y (List.mem_cons_self ..)) h1, ih (fun z hz => ha z (List.mem_cons_of_mem _ hz)) (fun z hz => hb z (List.mem_cons_of_mem _ hz)) h2]

/-- two strings of bytes are alike just if the bytes are -/
theorem str_beq {a b : List Int} (ha : ∀ x ∈ a, 0 ≤ x ∧ x ≤ 255) (hb : ∀ x ∈ b, 0 ≤ x ∧ x ≤ 255) : ((strOfNums a).toList == (strOfNums b).toList) = decide (a = b) := by
  have e : ∀ l, (strOfNums l).toList = l.map fun n => UInt8.ofNat n.toNat := fun l => by unfold strOfNums; rw [ByteArray.toList_mk]
  rw [e, e, Bool.eq_iff_iff, beq_iff_eq, decide_eq_true_iff]
  exact ⟨map_ofNat_inj ha hb, fun h => by rw [h]⟩

def Fits (l : List Int) : Prop := ∀ n ∈ l, -9223372036854775808 ≤ n ∧ n ≤ 9223372036854775807

theorem flat_byte {l : List Int} (h : Fits l) : ∀ x ∈ l.flatMap pint, 0 ≤ x ∧ x ≤ 255 := by
  intro x hx
  obtain ⟨n, hn, hx⟩ := List.mem_flatMap.1 hx
  exact pint_byte (h n hn).1 (h n hn).2 x hx

theorem flat_len : ∀ (l : List Int), (l.flatMap pint).length ≤ 10 * l.length := by
  intro l
  induction l with
  | nil => simp
  | cons n l ih => rw [List.flatMap_cons, List.length_append, List.length_cons]; have := pint_len n; omega

theorem pint_head {a b : Int} {r s : List Int} (ha : -9223372036854775808 ≤ a ∧ a ≤ 9223372036854775807) (hb : -9223372036854775808 ≤ b ∧ b ≤ 9223372036854775807) (h : pint a ++ r = pint b ++ s) : a = b ∧ r = s := by
  have h1 := pint_scan ha.1 ha.2 r
  rw [h, pint_scan hb.1 hb.2 s] at h1
  have e : fold b = fold a := congrArg (·.1) h1
  have e2 : a = b := by rw [← unfold_fold a, ← e, unfold_fold]
  subst e2
  exact ⟨rfl, List.append_cancel_left h⟩

theorem flat_inj : ∀ {l m : List Int}, Fits l → Fits m → l.flatMap pint = m.flatMap pint → l = m := by
  intro l
  induction l with
  | nil =>
    intro m _ hm h
    cases m with
    | nil => rfl
    | cons n m =>
      have h1 := congrArg List.length h
      rw [List.flatMap_cons, List.length_append] at h1
      have := pint_len n
      simp only [List.flatMap_nil, List.length_nil] at h1
      omega
  | cons a l ih =>
    intro m hl hm h
    cases m with
    | nil =>
      have h1 := congrArg List.length h
      rw [List.flatMap_cons, List.length_append] at h1
      have := pint_len a
      simp only [List.flatMap_nil, List.length_nil] at h1
      omega
    | cons b m =>
      rw [List.flatMap_cons, List.flatMap_cons] at h
      obtain ⟨e1, e2⟩ := pint_head (hl a (List.mem_cons_self ..)) (hm b (List.mem_cons_self ..)) h
      rw [e1, ih (fun z hz => hl z (List.mem_cons_of_mem _ hz)) (fun z hz => hm z (List.mem_cons_of_mem _ hz)) e2]

theorem flat_beq {l m : List Int} (hl : Fits l) (hm : Fits m) : ((strOfNums (l.flatMap pint)).toList == (strOfNums (m.flatMap pint)).toList) = decide (l = m) := by
  rw [str_beq (flat_byte hl) (flat_byte hm)]
  have : (l.flatMap pint = m.flatMap pint) ↔ (l = m) := ⟨flat_inj hl hm, fun h => by rw [h]⟩
  exact decide_eq_decide.2 this

theorem flat_take_succ {l : List Int} {k : Nat} {x : Int} (h : l[k]? = some x) : (l.take (k + 1)).flatMap pint = (l.take k).flatMap pint ++ pint x := by
  rw [List.take_add_one, h]
  simp

theorem flat_rd {l : List Int} (hl : Fits l) {k : Nat} {x : Int} (h : l[k]? = some x) :
    rd (l.flatMap pint) (((l.take k).flatMap pint).length : Int) = (x, (((l.take k).flatMap pint).length : Int) + (pint x).length, 0) := by
  have hx := hl x (List.mem_of_getElem? h)
  have e : l.flatMap pint = (l.take k).flatMap pint ++ (pint x ++ (l.drop (k + 1)).flatMap pint) := by
    conv => lhs; rw [← List.take_append_drop k l]
    rw [List.flatMap_append]
    congr 1
    have hk : k < l.length := by
      rcases Nat.lt_or_ge k l.length with h1 | h1
      · exact h1
      · rw [List.getElem?_eq_none h1] at h; cases h
    rw [List.drop_eq_getElem_cons hk, List.flatMap_cons]
    rw [List.getElem?_eq_getElem hk] at h
    injection h with h
    rw [h]
  rw [e]
  exact rd_pint hx.1 hx.2 _ _

/-- the bytes of numbers, one behind the other -/
def flat (l : List Int) : List Int := l.flatMap pint
theorem flat_nil : flat [] = [] := rfl
theorem flat_take0 (l : List Int) : flat (l.take 0) = [] := rfl
theorem flatLen (l : List Int) : (flat l).length ≤ 10 * l.length := flat_len l
theorem flatByte {l : List Int} (h : Fits l) : ∀ x ∈ flat l, 0 ≤ x ∧ x ≤ 255 := flat_byte h
theorem flatBeq {l m : List Int} (hl : Fits l) (hm : Fits m) : ((strOfNums (flat l)).toList == (strOfNums (flat m)).toList) = decide (l = m) := flat_beq hl hm
theorem flatSucc {l : List Int} {k : Nat} {x : Int} (h : l[k]? = some x) : flat (l.take (k + 1)) = flat (l.take k) ++ pint x := flat_take_succ h
theorem flatRd {l : List Int} (hl : Fits l) {k : Nat} {x : Int} (h : l[k]? = some x) :
    rd (flat l) ((flat (l.take k)).length : Int) = (x, ((flat (l.take k)).length : Int) + (pint x).length, 0) := flat_rd hl h

end Go.Proofs.YtbkdenlhfigjhaaDoor.Wm

/- Plain facts on reading: what is read stands there, and is what is written of it. No program in it. -/
namespace Go.Proofs.YtbkdenlhfigjhaaDoor.Wm
open Go.RowKit

/-- what reading leaves: how many bytes, the number's range, and that its bytes are just those -/
theorem scan_ok : ∀ (l : List Int) (i : Nat) (acc u k : Int), scan l i acc = (u, k, 0) → (∀ c ∈ l, 0 ≤ c ∧ c ≤ 255) → i ≤ 9 →
    ∃ (v : Int) (m : Nat), k = (i : Int) + m ∧ 1 ≤ m ∧ m ≤ l.length ∧ i + m ≤ 10 ∧ l.take m = encF (9 - i) v ∧ 0 ≤ v ∧ v < 128 ^ (10 - i) ∧ (0 < i → 0 < v) ∧ u = acc + v * 2 ^ (7 * i) ∧
      v * 2 ^ (7 * i) ≤ 18446744073709551615 - (2 ^ (7 * i) - 1) := by
  intro l
  induction l with
  | nil => intro i acc u k h; rw [scan_end] at h; simp at h
  | cons c l ih =>
    intro i acc u k h hb hi
    have hc := hb c (List.mem_cons_self ..)
    by_cases hL : (i = 9 ∧ 1 < c) ∨ (0 < i ∧ c = 0)
    · rw [scan_long hL] at h; simp at h
    · have hp := pow7_pos i
      by_cases hlt : c < 128
      · rw [scan_last hL hlt] at h
        injection h with h1 h2
        injection h2 with h2 h3
        refine ⟨c, 1, by omega, by omega, by simp, by omega, by rw [encF_last hlt]; rfl, hc.1, ?_, by omega, h1.symm, ?_⟩
        · have : (128 : Int) ^ 1 ≤ 128 ^ (10 - i) := by
            have : (128 : Nat) ^ 1 ≤ 128 ^ (10 - i) := Nat.pow_le_pow_right (by omega) (by omega)
            exact_mod_cast this
          omega
        · rcases Nat.lt_or_ge i 9 with h9 | h9
          · have hp2 : (2 : Int) ^ (7 * i) ≤ 2 ^ 56 := by
              have : (2 : Nat) ^ (7 * i) ≤ 2 ^ 56 := Nat.pow_le_pow_right (by omega) (by omega)
              exact_mod_cast this
            have : c * 2 ^ (7 * i) ≤ 127 * 2 ^ (7 * i) := Int.mul_le_mul_of_nonneg_right (by omega) (by omega)
            omega
          · obtain rfl : i = 9 := by omega
            have hc1 : c = 1 := by omega
            subst hc1
            rw [pow63]; omega
      · rw [scan_more hL hlt] at h
        have h8 : i ≤ 8 := by omega
        obtain ⟨v, m, e1, m1, m2, m3, e2, v0, v1, v2, e3, v3⟩ := ih (i + 1) _ u k h (fun z hz => hb z (List.mem_cons_of_mem _ hz)) (by omega)
        have vp := v2 (by omega)
        have hd : (c - 128 + 128 * v) / 128 = v := by omega
        have hm : (c - 128 + 128 * v) % 128 = c - 128 := by omega
        have hmul : (c - 128 + 128 * v) * 2 ^ (7 * i) = (c - 128) * 2 ^ (7 * i) + v * 2 ^ (7 * (i + 1)) := by
          rw [pow7, Int.add_mul, Int.mul_comm 128 v, Int.mul_assoc, Int.mul_comm 128]
        refine ⟨c - 128 + 128 * v, m + 1, by omega, by omega, by simp; omega, by omega, ?_, by omega, ?_, by omega, ?_, ?_⟩
        · rw [List.take_succ_cons, e2, show 9 - i = (9 - (i + 1)) + 1 from by omega, encF_more (u := c - 128 + 128 * v) (by omega), hd, hm]
          rw [show c - 128 + 128 = c from by omega]
        · rw [show 10 - i = (10 - (i + 1)) + 1 from by omega, Int.pow_succ]
          omega
        · rw [e3, hmul]; omega
        · rw [hmul]
          have hp' := pow7_pos (i + 1)
          have : (c - 128) * 2 ^ (7 * i) ≤ 127 * 2 ^ (7 * i) := Int.mul_le_mul_of_nonneg_right (by omega) (by omega)
          have e := pow7 i
          omega

theorem rd_some {b : List Int} {t n k : Int} (h : rd b t = (n, k, 0)) (hb : ∀ c ∈ b, 0 ≤ c ∧ c ≤ 255) :
    ∃ m : Nat, 0 ≤ t ∧ k = t + m ∧ 1 ≤ m ∧ t + m ≤ b.length ∧ m ≤ 10 ∧ (b.drop t.toNat).take m = pint n ∧ -9223372036854775808 ≤ n ∧ n ≤ 9223372036854775807 := by
  by_cases ht : t < 0 ∨ b.length < t
  · rw [rd_arg ht] at h; simp at h
  · rcases hs : scan (b.drop t.toNat) 0 0 with ⟨u, k', e⟩
    by_cases he : e = 0
    · subst he
      rw [rd_ok ht hs] at h
      injection h with h1 h2
      injection h2 with h2 _
      obtain ⟨v, m, e1, m1, m2, m3, e2, v0, v1, _, e3, v3⟩ := scan_ok _ 0 0 u k' hs (fun c hc => hb c (List.mem_of_mem_drop hc)) (by omega)
      have hu : u = v := by simpa using e3
      subst hu
      rw [List.length_drop] at m2
      have v3' : u ≤ 18446744073709551615 := by simpa using v3
      have hr := unfold_lo v0 v3'
      refine ⟨m, by omega, by omega, m1, by omega, by omega, ?_, by omega, by omega⟩
      rw [e2, ← h1]
      show encF (9 - 0) u = encF 9 (fold (unfold u))
      rw [fold_unfold v0]
    · unfold rd at h
      rw [if_neg ht, hs, if_neg (by simpa using he)] at h
      injection h with _ h2
      injection h2 with _ h3
      exact absurd h3 he

/-- every result with an error is nothing else -/
theorem rd_zero {b : List Int} {t : Int} (h : (rd b t).2.2 ≠ 0) : (rd b t).1 = 0 ∧ (rd b t).2.1 = 0 := by
  unfold rd at *
  split
  · exact ⟨rfl, rfl⟩
  · split
    · rename_i h1 h2
      rw [if_neg h1, if_pos h2] at h
      exact absurd rfl h
    · exact ⟨rfl, rfl⟩

/-! ### the length ahead of a text or a list -/
def rlen (b : List Int) (t most : Int) : Int × Int × Int :=
  if (rd b t).2.2 ≠ 0 then (0, 0, (rd b t).2.2)
  else if (rd b t).1 < 0 ∨ most < (rd b t).1 then (0, 0, 2)
  else ((rd b t).1, (rd b t).2.1, 0)

theorem rlen_err {b : List Int} {t most : Int} (h : (rd b t).2.2 ≠ 0) : rlen b t most = (0, 0, (rd b t).2.2) := by unfold rlen; rw [if_pos h]
theorem rlen_many {b : List Int} {t most : Int} (h : (rd b t).2.2 = 0) (h2 : (rd b t).1 < 0 ∨ most < (rd b t).1) : rlen b t most = (0, 0, 2) := by unfold rlen; rw [if_neg (by simpa using h), if_pos h2]
theorem rlen_ok {b : List Int} {t most : Int} (h : (rd b t).2.2 = 0) (h2 : ¬ ((rd b t).1 < 0 ∨ most < (rd b t).1)) : rlen b t most = ((rd b t).1, (rd b t).2.1, 0) := by unfold rlen; rw [if_neg (by simpa using h), if_neg h2]

theorem rlen_some {b : List Int} {t most : Int} (h : (rlen b t most).2.2 = 0) (hb : ∀ c ∈ b, 0 ≤ c ∧ c ≤ 255) :
    ∃ n m : Nat, rlen b t most = ((n : Int), t + m, 0) ∧ rd b t = ((n : Int), t + m, 0) ∧ (n : Int) ≤ most ∧ 0 ≤ t ∧ 1 ≤ m ∧ t + m ≤ b.length ∧ (b.drop t.toNat).take m = pint n := by
  by_cases h1 : (rd b t).2.2 = 0
  · by_cases h2 : (rd b t).1 < 0 ∨ most < (rd b t).1
    · rw [rlen_many h1 h2] at h; simp at h
    · obtain ⟨m, t0, e1, m1, m2, _, e2, _⟩ := rd_some (n := (rd b t).1) (k := (rd b t).2.1) (by rw [← h1]) hb
      obtain ⟨n, hn⟩ := Int.eq_ofNat_of_zero_le (show 0 ≤ (rd b t).1 by omega)
      have hrd : rd b t = ((n : Int), t + m, 0) := by rw [← hn, ← e1, ← h1]
      refine ⟨n, m, ?_, hrd, by omega, t0, m1, m2, by rw [e2, hn]⟩
      rw [rlen_ok h1 h2, hn, e1]
  · rw [rlen_err h1] at h; exact absurd h h1

/-- what is written of a text, and the error -/
def ptextE (xs : List Int) : List Int × Int := if 4096 < xs.length then ([], 2) else (ptext xs, 0)
theorem ptextE_many {xs : List Int} (h : 4096 < xs.length) : ptextE xs = ([], 2) := by unfold ptextE; rw [if_pos h]
theorem ptextE_ok {xs : List Int} (h : ¬ 4096 < xs.length) : ptextE xs = (ptext xs, 0) := by unfold ptextE; rw [if_neg h]

/-- what is written of a list, and the error -/
def pintsU (xs : List Int) (k : Nat) : List Int := pint (xs.length : Int) ++ flat (xs.take k)
theorem pintsU_succ {xs : List Int} {k : Nat} {x : Int} (h : xs[k]? = some x) : pintsU xs (k + 1) = pintsU xs k ++ pint x := by
  unfold pintsU; rw [flatSucc h, List.append_assoc]
theorem pintsU_zero (xs : List Int) : pintsU xs 0 = pint (xs.length : Int) := by unfold pintsU; rw [flat_take0, List.append_nil]
theorem pintsU_len (xs : List Int) (k : Nat) : (pintsU xs k).length ≤ 10 + 10 * k := by
  unfold pintsU
  have h1 := pint_len (xs.length : Int)
  have h2 := flatLen (xs.take k)
  rw [List.length_take] at h2
  rw [List.length_append]
  omega
def pintsE (xs : List Int) : List Int × Int := if 64 < xs.length then ([], 2) else (pintsU xs xs.length, 0)
theorem pintsE_many {xs : List Int} (h : 64 < xs.length) : pintsE xs = ([], 2) := by unfold pintsE; rw [if_pos h]
theorem pintsE_ok {xs : List Int} (h : ¬ 64 < xs.length) : pintsE xs = (pintsU xs xs.length, 0) := by unfold pintsE; rw [if_neg h]

/-- the text at an offset, the offset behind it, the error -/
def rtext (b : List Int) (t : Int) : List Int × Int × Int :=
  if (rlen b t 4096).2.2 ≠ 0 then ([], 0, (rlen b t 4096).2.2)
  else if (b.length : Int) - (rlen b t 4096).2.1 < (rlen b t 4096).1 then ([], 0, 11)
  else ((b.drop (rlen b t 4096).2.1.toNat).take (rlen b t 4096).1.toNat, (rlen b t 4096).2.1 + (rlen b t 4096).1, 0)

theorem rtext_err {b : List Int} {t : Int} (h : (rlen b t 4096).2.2 ≠ 0) : rtext b t = ([], 0, (rlen b t 4096).2.2) := by unfold rtext; rw [if_pos h]
theorem rtext_end {b : List Int} {t : Int} {n f : Nat} (h : rlen b t 4096 = ((n : Int), (f : Int), 0)) (h2 : b.length < f + n) : rtext b t = ([], 0, 11) := by
  unfold rtext; rw [h, if_neg (by simp), if_pos (by dsimp only; omega)]
theorem rtext_ok {b : List Int} {t : Int} {n f : Nat} (h : rlen b t 4096 = ((n : Int), (f : Int), 0)) (h2 : ¬ b.length < f + n) : rtext b t = ((b.drop f).take n, (f : Int) + n, 0) := by
  unfold rtext; rw [h, if_neg (by simp), if_neg (by dsimp only; omega)]; rfl

end Go.Proofs.YtbkdenlhfigjhaaDoor.Wm

/- Plain facts on reading a list of numbers. No program in it. -/
namespace Go.Proofs.YtbkdenlhfigjhaaDoor.Wm
open Go.RowKit

/-- what was read so far, ahead of what the rest gives -/
def consR (acc : List Int) (r : List Int × Int × Int) : List Int × Int × Int := if r.2.2 ≠ 0 then ([], 0, r.2.2) else (acc ++ r.1, r.2.1, 0)

def rseq (b : List Int) : Nat → Int → List Int × Int × Int
  | 0, nx => ([], nx, 0)
  | k + 1, nx => if (rd b nx).2.2 ≠ 0 then ([], 0, (rd b nx).2.2) else consR [(rd b nx).1] (rseq b k (rd b nx).2.1)

theorem consR_err {acc : List Int} {r : List Int × Int × Int} (h : r.2.2 ≠ 0) : consR acc r = ([], 0, r.2.2) := by unfold consR; rw [if_pos h]
theorem consR_ok {acc : List Int} {r : List Int × Int × Int} (h : r.2.2 = 0) : consR acc r = (acc ++ r.1, r.2.1, 0) := by unfold consR; rw [if_neg (by simpa using h)]

theorem consR_consR (acc acc2 : List Int) (r : List Int × Int × Int) : consR acc (consR acc2 r) = consR (acc ++ acc2) r := by
  by_cases h : r.2.2 = 0
  · rw [consR_ok h, consR_ok (r := (acc2 ++ r.1, r.2.1, 0)) rfl, consR_ok h, List.append_assoc]
  · rw [consR_err h, consR_err h, consR_err (r := ([], 0, r.2.2)) h]

theorem consR_nil (b : List Int) (k : Nat) (nx : Int) : consR [] (rseq b k nx) = rseq b k nx := by
  cases k with
  | zero => rfl
  | succ k =>
    unfold rseq
    split
    · rename_i h; exact consR_err (r := ([], 0, (rd b nx).2.2)) h
    · rw [consR_consR]; rfl

theorem rseq_err {b : List Int} {k : Nat} {nx : Int} {acc : List Int} (h : (rd b nx).2.2 ≠ 0) : consR acc (rseq b (k + 1) nx) = ([], 0, (rd b nx).2.2) := by
  rw [rseq, if_pos h]; unfold consR; rw [if_pos h]
theorem rseq_ok {b : List Int} {k : Nat} {nx : Int} {acc : List Int} (h : (rd b nx).2.2 = 0) : consR acc (rseq b (k + 1) nx) = consR (acc ++ [(rd b nx).1]) (rseq b k (rd b nx).2.1) := by
  rw [rseq, if_neg (by simpa using h), consR_consR]
theorem rseq_done {b : List Int} {nx : Int} {acc : List Int} : consR acc (rseq b 0 nx) = (acc, nx, 0) := by
  unfold rseq consR; rw [if_neg (by simp), List.append_nil]

/-- the list at an offset, the offset behind it, the error -/
def rints (b : List Int) (t : Int) : List Int × Int × Int :=
  if (rlen b t 64).2.2 ≠ 0 then ([], 0, (rlen b t 64).2.2) else rseq b (rlen b t 64).1.toNat (rlen b t 64).2.1
theorem rints_err {b : List Int} {t : Int} (h : (rlen b t 64).2.2 ≠ 0) : rints b t = ([], 0, (rlen b t 64).2.2) := by unfold rints; rw [if_pos h]
theorem rints_ok {b : List Int} {t : Int} {n f : Nat} (h : rlen b t 64 = ((n : Int), (f : Int), 0)) : rints b t = rseq b n (f : Int) := by
  unfold rints; rw [h, if_neg (by simp)]; rfl

theorem set_acc (acc : List Int) (k : Nat) (x : Int) : (acc ++ List.replicate (k + 1) 0).set acc.length x = (acc ++ [x]) ++ List.replicate k 0 := by
  rw [List.set_append_right _ _ (Nat.le_refl _), Nat.sub_self, List.replicate_succ, List.set_cons_zero, List.append_assoc]
  rfl
theorem get_acc (acc : List Int) (k : Nat) : (acc ++ List.replicate (k + 1) (0 : Int))[acc.length]? = some 0 := by
  rw [List.getElem?_append_right (Nat.le_refl _), Nat.sub_self]; rfl

end Go.Proofs.YtbkdenlhfigjhaaDoor.Wm

/- Plain facts: numbers, texts and lists, written one behind the other, are read as they were. No program in it. -/
namespace Go.Proofs.YtbkdenlhfigjhaaDoor.Wm
open Go.RowKit

theorem rlen_of_rd {b : List Int} {t n k most : Int} (h : rd b t = (n, k, 0)) (h0 : 0 ≤ n) (h1 : n ≤ most) : rlen b t most = (n, k, 0) := by
  rw [rlen_ok (by rw [h]) (by rw [h]; dsimp only; omega), h]

theorem rtext_back {a s r : List Int} (hs : s.length ≤ 4096) : rtext (a ++ (ptext s ++ r)) (a.length : Int) = (s, ((a ++ ptext s).length : Int), 0) := by
  have hrd : rd (a ++ (ptext s ++ r)) (a.length : Int) = ((s.length : Int), (((a ++ pint (s.length : Int)).length : Nat) : Int), 0) := by
    have h := rd_pint (n := (s.length : Int)) (by omega) (by omega) a (s ++ r)
    unfold ptext
    rw [List.append_assoc, h, List.length_append]
    congr 2
  have hl := rlen_of_rd (most := 4096) hrd (by omega) (by omega)
  have hlen : ¬ (a ++ (ptext s ++ r)).length < (a ++ pint (s.length : Int)).length + s.length := by
    unfold ptext
    simp only [List.length_append]
    omega
  rw [rtext_ok hl hlen]
  have e : a ++ (ptext s ++ r) = (a ++ pint (s.length : Int)) ++ (s ++ r) := by unfold ptext; simp only [List.append_assoc]
  rw [e, List.drop_left, List.take_left]
  have e9 : (((a ++ pint (s.length : Int)).length : Nat) : Int) + (s.length : Int) = ((a ++ ptext s).length : Int) := by
    unfold ptext
    simp only [List.length_append]
    omega
  rw [e9]

theorem rseq_back : ∀ (m a r : List Int), Fits m → rseq (a ++ (flat m ++ r)) m.length (a.length : Int) = (m, ((a ++ flat m).length : Int), 0) := by
  intro m
  induction m with
  | nil => intro a r _; show ([], (a.length : Int), 0) = _; rw [flat_nil, List.append_nil]
  | cons x m ih =>
    intro a r hf
    have hx := hf x (List.mem_cons_self ..)
    have e : flat (x :: m) = pint x ++ flat m := by unfold flat; rw [List.flatMap_cons]
    have e2 : a ++ (flat (x :: m) ++ r) = a ++ (pint x ++ (flat m ++ r)) := by rw [e, List.append_assoc]
    have hrd := rd_pint hx.1 hx.2 a (flat m ++ r)
    have h3 := ih (a ++ pint x) r (fun z hz => hf z (List.mem_cons_of_mem _ hz))
    rw [e2, List.length_cons, rseq, hrd, if_neg (by simp)]
    dsimp only
    rw [show (a.length : Int) + (pint x).length = ((a ++ pint x).length : Int) from by rw [List.length_append]; omega]
    rw [show a ++ (pint x ++ (flat m ++ r)) = (a ++ pint x) ++ (flat m ++ r) from by rw [List.append_assoc], h3]
    rw [consR_ok (r := (m, _, 0)) rfl, e, List.append_assoc]
    rfl

theorem rints_back {a l r : List Int} (hl : l.length ≤ 64) (hf : Fits l) : rints (a ++ (pintsU l l.length ++ r)) (a.length : Int) = (l, ((a ++ pintsU l l.length).length : Int), 0) := by
  have eU : pintsU l l.length = pint (l.length : Int) ++ flat l := by unfold pintsU; rw [List.take_of_length_le (Nat.le_refl _)]
  have hrd : rd (a ++ (pintsU l l.length ++ r)) (a.length : Int) = ((l.length : Int), (((a ++ pint (l.length : Int)).length : Nat) : Int), 0) := by
    have h := rd_pint (n := (l.length : Int)) (by omega) (by omega) a (flat l ++ r)
    rw [eU, List.append_assoc, h, List.length_append]
    congr 2
  have hrl := rlen_of_rd (most := 64) hrd (by omega) (by omega)
  rw [rints_ok hrl]
  have e : a ++ (pintsU l l.length ++ r) = (a ++ pint (l.length : Int)) ++ (flat l ++ r) := by rw [eU]; simp only [List.append_assoc]
  rw [e, rseq_back l _ r hf, eU, List.append_assoc]

theorem pintsU_byte {l : List Int} (hl : l.length ≤ 64) (hf : Fits l) : ∀ c ∈ pintsU l l.length, 0 ≤ c ∧ c ≤ 255 := by
  intro c hc
  unfold pintsU at hc
  rw [List.take_of_length_le (Nat.le_refl _)] at hc
  rcases List.mem_append.1 hc with h | h
  · exact pint_byte (by omega) (by omega) c h
  · exact flatByte hf c h
theorem ptext_byte {s : List Int} (hl : s.length ≤ 4096) (hf : ∀ c ∈ s, 0 ≤ c ∧ c ≤ 255) : ∀ c ∈ ptext s, 0 ≤ c ∧ c ≤ 255 := by
  intro c hc
  unfold ptext at hc
  rcases List.mem_append.1 hc with h | h
  · exact pint_byte (by omega) (by omega) c h
  · exact hf c h
theorem ptext_len (s : List Int) : (ptext s).length ≤ 10 + s.length := by
  unfold ptext
  have := pint_len (s.length : Int)
  rw [List.length_append]; omega

end Go.Proofs.YtbkdenlhfigjhaaDoor.Wm

/- Plain facts: what is read is written as it stood. No program in it. -/
namespace Go.Proofs.YtbkdenlhfigjhaaDoor.Wm
open Go.RowKit

theorem take_piece {α : Type _} (b : List α) (p m : Nat) : b.take p ++ (b.drop p).take m = b.take (p + m) := by
  rw [List.take_add]

theorem int_kept {b : List Int} {n k : Int} (h : rd b 0 = (n, k, 0)) (hb : ∀ c ∈ b, 0 ≤ c ∧ c ≤ 255) :
    ∃ m : Nat, k = m ∧ 1 ≤ m ∧ m ≤ b.length ∧ m ≤ 10 ∧ pint n = b.take m ∧ -9223372036854775808 ≤ n ∧ n ≤ 9223372036854775807 := by
  obtain ⟨m, _, e1, m1, m2, m3, e2, n0, n1⟩ := rd_some h hb
  rw [show (0 : Int).toNat = 0 from rfl, List.drop_zero] at e2
  exact ⟨m, by omega, m1, by omega, m3, e2.symm, n0, n1⟩

theorem text_kept {b : List Int} (h : (rtext b 0).2.2 = 0) (hb : ∀ c ∈ b, 0 ≤ c ∧ c ≤ 255) :
    ∃ (s : List Int) (to : Nat), rtext b 0 = (s, (to : Int), 0) ∧ ¬ 4096 < s.length ∧ to ≤ b.length ∧ ptext s = b.take to ∧ ∀ c ∈ s, 0 ≤ c ∧ c ≤ 255 := by
  by_cases he : (rlen b 0 4096).2.2 = 0
  · obtain ⟨n, m, hl, hrd, hn, _, m1, m2, e2⟩ := rlen_some he hb
    rw [show (0 : Int).toNat = 0 from rfl, List.drop_zero] at e2
    have hl' : rlen b 0 4096 = ((n : Int), ((m : Nat) : Int), 0) := by rw [hl]; congr 2; omega
    by_cases h2 : b.length < m + n
    · rw [rtext_end hl' h2] at h; simp at h
    · refine ⟨(b.drop m).take n, m + n, by rw [rtext_ok hl' h2]; congr 2, ?_, by omega, ?_, ?_⟩
      · rw [List.length_take, List.length_drop]; omega
      · unfold ptext
        rw [List.length_take, List.length_drop, Nat.min_eq_left (by omega), ← e2, take_piece]
      · intro c hc; exact hb c (List.mem_of_mem_drop (List.mem_of_mem_take hc))
  · rw [rtext_err he] at h; exact absurd h he

theorem seq_kept {b : List Int} (hb : ∀ c ∈ b, 0 ≤ c ∧ c ≤ 255) : ∀ (k p : Nat), p ≤ b.length → (rseq b k (p : Int)).2.2 = 0 →
    ∃ (l : List Int) (to : Nat), rseq b k (p : Int) = (l, (to : Int), 0) ∧ l.length = k ∧ Fits l ∧ to ≤ b.length ∧ b.take p ++ flat l = b.take to := by
  intro k
  induction k with
  | zero => intro p hp _; exact ⟨[], p, rfl, rfl, (fun _ h => absurd h List.not_mem_nil), hp, by rw [flat_nil, List.append_nil]⟩
  | succ k ih =>
    intro p hp h
    by_cases h1 : (rd b (p : Int)).2.2 = 0
    · obtain ⟨m, _, e1, m1, m2, _, e2, n0, n1⟩ := rd_some (n := (rd b (p : Int)).1) (k := (rd b (p : Int)).2.1) (by rw [← h1]) hb
      rw [Int.toNat_natCast] at e2
      have e1' : (rd b (p : Int)).2.1 = ((p + m : Nat) : Int) := by rw [e1]; omega
      have hs : rseq b (k + 1) (p : Int) = consR [(rd b (p : Int)).1] (rseq b k ((p + m : Nat) : Int)) := by
        rw [rseq, if_neg (by simpa using h1), e1']
      rw [hs] at h ⊢
      by_cases h3 : (rseq b k ((p + m : Nat) : Int)).2.2 = 0
      · obtain ⟨l, to, e3, hl, hf, hto, e4⟩ := ih (p + m) (by omega) h3
        refine ⟨(rd b (p : Int)).1 :: l, to, ?_, by rw [List.length_cons, hl], ?_, hto, ?_⟩
        · rw [consR_ok h3, e3]; rfl
        · intro z hz
          rcases List.mem_cons.1 hz with rfl | hz
          · exact ⟨n0, n1⟩
          · exact hf z hz
        · have e : flat ((rd b (p : Int)).1 :: l) = pint (rd b (p : Int)).1 ++ flat l := by unfold flat; rw [List.flatMap_cons]
          rw [e, ← e2, ← List.append_assoc, take_piece, e4]
      · rw [consR_err h3] at h; exact absurd h h3
    · rw [rseq, if_pos h1] at h; exact absurd h h1

theorem ints_kept {b : List Int} (h : (rints b 0).2.2 = 0) (hb : ∀ c ∈ b, 0 ≤ c ∧ c ≤ 255) :
    ∃ (l : List Int) (to : Nat), rints b 0 = (l, (to : Int), 0) ∧ ¬ 64 < l.length ∧ Fits l ∧ to ≤ b.length ∧ pintsU l l.length = b.take to := by
  by_cases he : (rlen b 0 64).2.2 = 0
  · obtain ⟨n, m, hl, hrd, hn, _, m1, m2, e2⟩ := rlen_some he hb
    rw [show (0 : Int).toNat = 0 from rfl, List.drop_zero] at e2
    have hl' : rlen b 0 64 = ((n : Int), ((m : Nat) : Int), 0) := by rw [hl]; congr 2; omega
    rw [rints_ok hl'] at h ⊢
    obtain ⟨l, to, e3, h4, hf, hto, e4⟩ := seq_kept hb n m (by omega) h
    refine ⟨l, to, e3, by omega, hf, hto, ?_⟩
    unfold pintsU
    rw [List.take_of_length_le (Nat.le_refl _), h4, ← e2, e4]
  · rw [rints_err he] at h; exact absurd h he

end Go.Proofs.YtbkdenlhfigjhaaDoor.Wm
