/- Most of some: the plain model. No program in it. -/
import Derived.WalkKit
namespace Go.Proofs.Ytponpgcpmlcdpaa.Om
open Go

/-- how many of a mask's first bits are set -/
def cnt (m : Nat) : Nat → Nat
  | 0 => 0
  | k + 1 => cnt m k + (if m.testBit k = true then 1 else 0)
theorem cnt_le (m : Nat) (k : Nat) : cnt m k ≤ k := by
  induction k with
  | zero => exact Nat.le_refl _
  | succ k ih => unfold cnt; split <;> omega
theorem cnt_mono {m m' : Nat} (k : Nat) (h : ∀ b, b < k → m.testBit b = true → m'.testBit b = true) : cnt m k ≤ cnt m' k := by
  induction k with
  | zero => exact Nat.le_refl _
  | succ k ih =>
    have := ih (fun b hb => h b (by omega))
    unfold cnt
    by_cases q : m.testBit k = true
    · rw [if_pos q, if_pos (h k (by omega) q)]; omega
    · rw [if_neg q]; split <;> omega
theorem cnt_both (a b : Nat) (k : Nat) : cnt a k + cnt b k ≤ k + cnt (a &&& b) k := by
  induction k with
  | zero => exact Nat.le_refl _
  | succ k ih =>
    unfold cnt
    rw [Nat.testBit_and]
    cases a.testBit k <;> cases b.testBit k <;> simp <;> omega
theorem cnt_some {m k : Nat} (h : 0 < cnt m k) : ∃ i, i < k ∧ m.testBit i = true := by
  induction k with
  | zero => cases h
  | succ k ih =>
    by_cases q : m.testBit k = true
    · exact ⟨k, by omega, q⟩
    · unfold cnt at h
      rw [if_neg q] at h
      obtain ⟨i, h1, h2⟩ := ih h
      exact ⟨i, by omega, h2⟩
theorem cnt_zero (k : Nat) : cnt 0 k = 0 := by
  induction k with
  | zero => rfl
  | succ k ih => unfold cnt; rw [ih]; simp
/-- one bit more -/
theorem cnt_or (m i k : Nat) : cnt (m ||| 2 ^ i) k = cnt m k + (if i < k ∧ m.testBit i = false then 1 else 0) := by
  induction k with
  | zero => simp [cnt]
  | succ k ih =>
    unfold cnt
    rw [ih, Nat.testBit_or, Nat.testBit_two_pow]
    by_cases e : i = k
    · subst e
      cases m.testBit i <;> simp
    · have e2 : decide (i = k) = false := decide_eq_false e
      have e3 : (i < k + 1) ↔ (i < k) := by omega
      simp only [e2, Bool.or_false, e3]
      omega
/-- have most of them set? -/
def most (f m : Nat) : Bool := decide (f + 1 ≤ cnt m (2 * f + 1))
theorem most_mono {f m m' : Nat} (h : ∀ b, m.testBit b = true → m'.testBit b = true) (hm : most f m = true) : most f m' = true := by
  unfold most at hm ⊢
  have := cnt_mono (m := m) (m' := m') (2 * f + 1) (fun b _ => h b)
  simp only [decide_eq_true_eq] at hm ⊢
  omega
theorem most_or {f a : Nat} (b : Nat) (h : most f a = true) : most f (a ||| b) = true := most_mono (fun i q => by rw [Nat.testBit_or, q]; rfl) h
theorem most_two {f a b : Nat} (ha : most f a = true) (hb : most f b = true) : ∃ i, i < 2 * f + 1 ∧ (a &&& b).testBit i = true := by
  unfold most at ha hb
  simp only [decide_eq_true_eq] at ha hb
  have := cnt_both a b (2 * f + 1)
  exact cnt_some (by omega)
end Go.Proofs.Ytponpgcpmlcdpaa.Om
