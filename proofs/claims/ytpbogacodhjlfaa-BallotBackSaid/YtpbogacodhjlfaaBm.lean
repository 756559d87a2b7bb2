/- The plain model of stage 14: ballots. No program in it. -/
import Derived.WalkKit
namespace Go.Proofs.Ytpbogacodhjlfaa.Bm
open Go

def V (r s i : Int) : Prop := (0 ≤ r ∧ r ≤ 1073741823) ∧ (0 ≤ s ∧ s ≤ 1048575) ∧ (0 ≤ i ∧ i ≤ 15)
instance (r s i : Int) : Decidable (V r s i) := by unfold V; infer_instance
def mk (r s i : Int) : Int := r * 16777216 + s * 16 + i
/-- a ballot, or the error -/
def make (r s i : Int) : Int × Int := if V r s i then (mk r s i, 0) else (0, 1)
theorem make_ok {r s i : Int} (h : V r s i) : make r s i = (mk r s i, 0) := if_pos h
theorem make_no {r s i : Int} (h : ¬ V r s i) : make r s i = (0, 1) := if_neg h
def isB (b : Int) : Prop := 0 ≤ b ∧ b / 16777216 ≤ 1073741823
instance (b : Int) : Decidable (isB b) := by unfold isB; infer_instance
/-- its parts -/
def parts (b : Int) : Int × Int × Int × Bool := if isB b then (b / 16777216, b / 16 % 1048576, b % 16, true) else (0, 0, 0, false)
theorem parts_ok {b : Int} (h : isB b) : parts b = (b / 16777216, b / 16 % 1048576, b % 16, true) := if_pos h
theorem parts_no {b : Int} (h : ¬ isB b) : parts b = (0, 0, 0, false) := if_neg h
/-- the next one above -/
def next (b s i : Int) : Int × Int :=
  if ¬ V 0 s i then (0, 1) else if b < mk 0 s i then (mk 0 s i, 0) else if ¬ isB b then (0, 2)
  else if b < mk (b / 16777216) s i then (mk (b / 16777216) s i, 0) else if V (b / 16777216 + 1) s i then (mk (b / 16777216 + 1) s i, 0) else (0, 2)

theorem mk_isB {r s i : Int} (h : V r s i) : isB (mk r s i) := by unfold V at h; unfold isB mk; omega
theorem parts_mk {r s i : Int} (h : V r s i) : parts (mk r s i) = (r, s, i, true) := by
  rw [parts_ok (mk_isB h)]
  unfold V at h
  have h1 : mk r s i / 16777216 = r := by unfold mk; omega
  have h2 : mk r s i / 16 % 1048576 = s := by unfold mk; omega
  have h3 : mk r s i % 16 = i := by unfold mk; omega
  rw [h1, h2, h3]
theorem mk_parts {b : Int} (h : isB b) : V (b / 16777216) (b / 16 % 1048576) (b % 16) ∧ mk (b / 16777216) (b / 16 % 1048576) (b % 16) = b := by
  unfold isB at h
  refine ⟨?_, ?_⟩
  · unfold V; omega
  · unfold mk; omega
theorem mk_inj {r s i r' s' i' : Int} (h : V r s i) (h' : V r' s' i') (e : mk r s i = mk r' s' i') : r = r' ∧ s = s' ∧ i = i' := by
  unfold V at h h'
  unfold mk at e
  omega
theorem mk_lt {r s i r' s' i' : Int} (h : V r s i) (h' : V r' s' i') : mk r s i < mk r' s' i' ↔ (r < r' ∨ (r = r' ∧ (s < s' ∨ (s = s' ∧ i < i')))) := by
  unfold V at h h'
  unfold mk
  omega
theorem next_cases (b : Int) {s i : Int} (h : V 0 s i) :
    (∃ r, V r s i ∧ next b s i = (mk r s i, 0) ∧ b < mk r s i ∧ ∀ q, V q s i → mk q s i ≤ b ∨ mk r s i ≤ mk q s i) ∨ (next b s i = (0, 2) ∧ ∀ q, V q s i → mk q s i ≤ b) := by
  unfold next
  rw [if_neg (by simpa using h)]
  by_cases h1 : b < mk 0 s i
  · rw [if_pos h1]
    refine .inl ⟨0, h, rfl, h1, fun q hq => .inr ?_⟩
    unfold V at hq
    unfold mk
    omega
  · rw [if_neg h1]
    by_cases h2 : isB b
    · rw [if_neg (by simpa using h2)]
      have hv : V (b / 16777216) s i := by unfold isB at h2; unfold V at h ⊢; omega
      by_cases h3 : b < mk (b / 16777216) s i
      · rw [if_pos h3]
        refine .inl ⟨_, hv, rfl, h3, fun q hq => ?_⟩
        unfold V at hq h
        unfold mk at h3 ⊢
        omega
      · rw [if_neg h3]
        by_cases h4 : V (b / 16777216 + 1) s i
        · rw [if_pos h4]
          refine .inl ⟨_, h4, rfl, ?_, fun q hq => ?_⟩
          · unfold V at h; unfold mk; omega
          · unfold V at hq h
            unfold mk at h3 ⊢
            omega
        · rw [if_neg h4]
          refine .inr ⟨rfl, fun q hq => ?_⟩
          unfold V at hq h h4
          unfold mk at h3 ⊢
          unfold isB at h2
          omega
    · rw [if_pos (by simpa using h2)]
      refine .inr ⟨rfl, fun q hq => ?_⟩
      unfold V at hq h
      unfold isB at h2
      unfold mk at h1 ⊢
      omega
/-- behind one of its own: the next round -/
theorem next_own {r s i : Int} (h : V r s i) : (V (r + 1) s i ∧ next (mk r s i) s i = (mk r s i + 16777216, 0)) ∨ (¬ V (r + 1) s i ∧ next (mk r s i) s i = (0, 2) ∧ 18014398492704768 ≤ mk r s i) := by
  have h0 : V 0 s i := by unfold V at h ⊢; omega
  by_cases hv : V (r + 1) s i
  · refine .inl ⟨hv, ?_⟩
    rcases next_cases (mk r s i) h0 with ⟨q, hq, e, h1, h2⟩ | ⟨e, h2⟩
    · rw [e]
      have h3 := h2 (r + 1) hv
      have : q = r + 1 := by unfold V at h hq hv; unfold mk at h1 h3; omega
      subst this
      have : mk (r + 1) s i = mk r s i + 16777216 := by unfold mk; omega
      rw [this]
    · have := h2 (r + 1) hv
      unfold mk at this
      omega
  · refine .inr ⟨hv, ?_, ?_⟩
    · rcases next_cases (mk r s i) h0 with ⟨q, hq, e, h1, h2⟩ | ⟨e, h2⟩
      · exfalso
        unfold V at h hq hv
        unfold mk at h1
        omega
      · exact e
    · unfold V at h hv
      unfold mk
      omega
/-- where there is none above -/
theorem next_none {b s i : Int} (h : V 0 s i) (e : (next b s i).2 ≠ 0) : (next b s i) = (0, 2) ∧ 18014398492704768 ≤ b := by
  rcases next_cases b h with ⟨q, hq, e2, -, -⟩ | ⟨e2, h2⟩
  · rw [e2] at e; exact absurd rfl e
  · refine ⟨e2, ?_⟩
    have := h2 1073741823 (by unfold V at h ⊢; omega)
    unfold V at h
    unfold mk at this
    omega
end Go.Proofs.Ytpbogacodhjlfaa.Bm
