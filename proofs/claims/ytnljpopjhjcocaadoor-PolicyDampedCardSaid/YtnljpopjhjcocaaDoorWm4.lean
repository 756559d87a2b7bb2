/- Plain facts on reading: what is read stands there, and is what is written of it. No program in it. -/
import Derived.Test.YtnljpopjhjcocaaDoorWm3
namespace Go.Proofs.YtnljpopjhjcocaaDoor.Wm
open Go.RowKit

/-- what reading leaves: how many bytes, the number's range, and that its bytes are just those -/
theorem scan_ok : ∀ (l : List Int) (i : Nat) (acc u k : Int), scan l i acc = (u, k, 0) → (∀ c ∈ l, 0 ≤ c ∧ c ≤ 255) → i ≤ 9 →
    ∃ (v : Int) (m : Nat), k = (i : Int) + m ∧ 1 ≤ m ∧ m ≤ l.length ∧ i + m ≤ 10 ∧ l.take m = encF (9 - i) v ∧ 0 ≤ v ∧ v < 128 ^ (10 - i) ∧ (0 < i → 0 < v) ∧ u = acc + v * 2 ^ (7 * i) ∧
      v * 2 ^ (7 * i) ≤ 18446744073709551615 - (2 ^ (7 * i) - 1) := by
  intro l
  induction l with
  | nil => intro i acc u k h; rw [scan_end] at h; simp at h
  | cons c l ih =>
    intro i acc u k h hb hi
    have hc := hb c (List.mem_cons_self ..)
    by_cases hL : (i = 9 ∧ 1 < c) ∨ (0 < i ∧ c = 0)
    · rw [scan_long hL] at h; simp at h
    · have hp := pow7_pos i
      by_cases hlt : c < 128
      · rw [scan_last hL hlt] at h
        injection h with h1 h2
        injection h2 with h2 h3
        refine ⟨c, 1, by omega, by omega, by simp, by omega, by rw [encF_last hlt]; rfl, hc.1, ?_, by omega, h1.symm, ?_⟩
        · have : (128 : Int) ^ 1 ≤ 128 ^ (10 - i) := by
            have : (128 : Nat) ^ 1 ≤ 128 ^ (10 - i) := Nat.pow_le_pow_right (by omega) (by omega)
            exact_mod_cast this
          omega
        · rcases Nat.lt_or_ge i 9 with h9 | h9
          · have hp2 : (2 : Int) ^ (7 * i) ≤ 2 ^ 56 := by
              have : (2 : Nat) ^ (7 * i) ≤ 2 ^ 56 := Nat.pow_le_pow_right (by omega) (by omega)
              exact_mod_cast this
            have : c * 2 ^ (7 * i) ≤ 127 * 2 ^ (7 * i) := Int.mul_le_mul_of_nonneg_right (by omega) (by omega)
            omega
          · obtain rfl : i = 9 := by omega
            have hc1 : c = 1 := by omega
            subst hc1
            rw [pow63]; omega
      · rw [scan_more hL hlt] at h
        have h8 : i ≤ 8 := by omega
        obtain ⟨v, m, e1, m1, m2, m3, e2, v0, v1, v2, e3, v3⟩ := ih (i + 1) _ u k h (fun z hz => hb z (List.mem_cons_of_mem _ hz)) (by omega)
        have vp := v2 (by omega)
        have hd : (c - 128 + 128 * v) / 128 = v := by omega
        have hm : (c - 128 + 128 * v) % 128 = c - 128 := by omega
        have hmul : (c - 128 + 128 * v) * 2 ^ (7 * i) = (c - 128) * 2 ^ (7 * i) + v * 2 ^ (7 * (i + 1)) := by
          rw [pow7, Int.add_mul, Int.mul_comm 128 v, Int.mul_assoc, Int.mul_comm 128]
        refine ⟨c - 128 + 128 * v, m + 1, by omega, by omega, by simp; omega, by omega, ?_, by omega, ?_, by omega, ?_, ?_⟩
        · rw [List.take_succ_cons, e2, show 9 - i = (9 - (i + 1)) + 1 from by omega, encF_more (u := c - 128 + 128 * v) (by omega), hd, hm]
          rw [show c - 128 + 128 = c from by omega]
        · rw [show 10 - i = (10 - (i + 1)) + 1 from by omega, Int.pow_succ]
          omega
        · rw [e3, hmul]; omega
        · rw [hmul]
          have hp' := pow7_pos (i + 1)
          have : (c - 128) * 2 ^ (7 * i) ≤ 127 * 2 ^ (7 * i) := Int.mul_le_mul_of_nonneg_right (by omega) (by omega)
          have e := pow7 i
          omega

theorem rd_some {b : List Int} {t n k : Int} (h : rd b t = (n, k, 0)) (hb : ∀ c ∈ b, 0 ≤ c ∧ c ≤ 255) :
    ∃ m : Nat, 0 ≤ t ∧ k = t + m ∧ 1 ≤ m ∧ t + m ≤ b.length ∧ m ≤ 10 ∧ (b.drop t.toNat).take m = pint n ∧ -9223372036854775808 ≤ n ∧ n ≤ 9223372036854775807 := by
  by_cases ht : t < 0 ∨ b.length < t
  · rw [rd_arg ht] at h; simp at h
  · rcases hs : scan (b.drop t.toNat) 0 0 with ⟨u, k', e⟩
    by_cases he : e = 0
    · subst he
      rw [rd_ok ht hs] at h
      injection h with h1 h2
      injection h2 with h2 _
      obtain ⟨v, m, e1, m1, m2, m3, e2, v0, v1, _, e3, v3⟩ := scan_ok _ 0 0 u k' hs (fun c hc => hb c (List.mem_of_mem_drop hc)) (by omega)
      have hu : u = v := by simpa using e3
      subst hu
      rw [List.length_drop] at m2
      have v3' : u ≤ 18446744073709551615 := by simpa using v3
      have hr := unfold_lo v0 v3'
      refine ⟨m, by omega, by omega, m1, by omega, by omega, ?_, by omega, by omega⟩
      rw [e2, ← h1]
      show encF (9 - 0) u = encF 9 (fold (unfold u))
      rw [fold_unfold v0]
    · unfold rd at h
      rw [if_neg ht, hs, if_neg (by simpa using he)] at h
      injection h with _ h2
      injection h2 with _ h3
      exact absurd h3 he

/-- every result with an error is nothing else -/
theorem rd_zero {b : List Int} {t : Int} (h : (rd b t).2.2 ≠ 0) : (rd b t).1 = 0 ∧ (rd b t).2.1 = 0 := by
  unfold rd at *
  split
  · exact ⟨rfl, rfl⟩
  · split
    · rename_i h1 h2
      rw [if_neg h1, if_pos h2] at h
      exact absurd rfl h
    · exact ⟨rfl, rfl⟩

/-! ### the length ahead of a text or a list -/
def rlen (b : List Int) (t most : Int) : Int × Int × Int :=
  if (rd b t).2.2 ≠ 0 then (0, 0, (rd b t).2.2)
  else if (rd b t).1 < 0 ∨ most < (rd b t).1 then (0, 0, 2)
  else ((rd b t).1, (rd b t).2.1, 0)

theorem rlen_err {b : List Int} {t most : Int} (h : (rd b t).2.2 ≠ 0) : rlen b t most = (0, 0, (rd b t).2.2) := by unfold rlen; rw [if_pos h]
theorem rlen_many {b : List Int} {t most : Int} (h : (rd b t).2.2 = 0) (h2 : (rd b t).1 < 0 ∨ most < (rd b t).1) : rlen b t most = (0, 0, 2) := by unfold rlen; rw [if_neg (by simpa using h), if_pos h2]
theorem rlen_ok {b : List Int} {t most : Int} (h : (rd b t).2.2 = 0) (h2 : ¬ ((rd b t).1 < 0 ∨ most < (rd b t).1)) : rlen b t most = ((rd b t).1, (rd b t).2.1, 0) := by unfold rlen; rw [if_neg (by simpa using h), if_neg h2]

theorem rlen_some {b : List Int} {t most : Int} (h : (rlen b t most).2.2 = 0) (hb : ∀ c ∈ b, 0 ≤ c ∧ c ≤ 255) :
    ∃ n m : Nat, rlen b t most = ((n : Int), t + m, 0) ∧ rd b t = ((n : Int), t + m, 0) ∧ (n : Int) ≤ most ∧ 0 ≤ t ∧ 1 ≤ m ∧ t + m ≤ b.length ∧ (b.drop t.toNat).take m = pint n := by
  by_cases h1 : (rd b t).2.2 = 0
  · by_cases h2 : (rd b t).1 < 0 ∨ most < (rd b t).1
    · rw [rlen_many h1 h2] at h; simp at h
    · obtain ⟨m, t0, e1, m1, m2, _, e2, _⟩ := rd_some (n := (rd b t).1) (k := (rd b t).2.1) (by rw [← h1]) hb
      obtain ⟨n, hn⟩ := Int.eq_ofNat_of_zero_le (show 0 ≤ (rd b t).1 by omega)
      have hrd : rd b t = ((n : Int), t + m, 0) := by rw [← hn, ← e1, ← h1]
      refine ⟨n, m, ?_, hrd, by omega, t0, m1, m2, by rw [e2, hn]⟩
      rw [rlen_ok h1 h2, hn, e1]
  · rw [rlen_err h1] at h; exact absurd h h1

/-- what is written of a text, and the error -/
def ptextE (xs : List Int) : List Int × Int := if 4096 < xs.length then ([], 2) else (ptext xs, 0)
theorem ptextE_many {xs : List Int} (h : 4096 < xs.length) : ptextE xs = ([], 2) := by unfold ptextE; rw [if_pos h]
theorem ptextE_ok {xs : List Int} (h : ¬ 4096 < xs.length) : ptextE xs = (ptext xs, 0) := by unfold ptextE; rw [if_neg h]

/-- what is written of a list, and the error -/
def pintsU (xs : List Int) (k : Nat) : List Int := pint (xs.length : Int) ++ flat (xs.take k)
theorem pintsU_succ {xs : List Int} {k : Nat} {x : Int} (h : xs[k]? = some x) : pintsU xs (k + 1) = pintsU xs k ++ pint x := by
  unfold pintsU; rw [flatSucc h, List.append_assoc]
theorem pintsU_zero (xs : List Int) : pintsU xs 0 = pint (xs.length : Int) := by unfold pintsU; rw [flat_take0, List.append_nil]
theorem pintsU_len (xs : List Int) (k : Nat) : (pintsU xs k).length ≤ 10 + 10 * k := by
  unfold pintsU
  have h1 := pint_len (xs.length : Int)
  have h2 := flatLen (xs.take k)
  rw [List.length_take] at h2
  rw [List.length_append]
  omega
def pintsE (xs : List Int) : List Int × Int := if 64 < xs.length then ([], 2) else (pintsU xs xs.length, 0)
theorem pintsE_many {xs : List Int} (h : 64 < xs.length) : pintsE xs = ([], 2) := by unfold pintsE; rw [if_pos h]
theorem pintsE_ok {xs : List Int} (h : ¬ 64 < xs.length) : pintsE xs = (pintsU xs xs.length, 0) := by unfold pintsE; rw [if_neg h]

/-- the text at an offset, the offset behind it, the error -/
def rtext (b : List Int) (t : Int) : List Int × Int × Int :=
  if (rlen b t 4096).2.2 ≠ 0 then ([], 0, (rlen b t 4096).2.2)
  else if (b.length : Int) - (rlen b t 4096).2.1 < (rlen b t 4096).1 then ([], 0, 11)
  else ((b.drop (rlen b t 4096).2.1.toNat).take (rlen b t 4096).1.toNat, (rlen b t 4096).2.1 + (rlen b t 4096).1, 0)

theorem rtext_err {b : List Int} {t : Int} (h : (rlen b t 4096).2.2 ≠ 0) : rtext b t = ([], 0, (rlen b t 4096).2.2) := by unfold rtext; rw [if_pos h]
theorem rtext_end {b : List Int} {t : Int} {n f : Nat} (h : rlen b t 4096 = ((n : Int), (f : Int), 0)) (h2 : b.length < f + n) : rtext b t = ([], 0, 11) := by
  unfold rtext; rw [h, if_neg (by simp), if_pos (by dsimp only; omega)]
theorem rtext_ok {b : List Int} {t : Int} {n f : Nat} (h : rlen b t 4096 = ((n : Int), (f : Int), 0)) (h2 : ¬ b.length < f + n) : rtext b t = ((b.drop f).take n, (f : Int) + n, 0) := by
  unfold rtext; rw [h, if_neg (by simp), if_neg (by dsimp only; omega)]; rfl

end Go.Proofs.YtnljpopjhjcocaaDoor.Wm
