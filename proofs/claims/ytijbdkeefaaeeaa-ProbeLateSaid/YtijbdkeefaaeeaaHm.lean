/- The plain model of stage 9: whether something is up, and how many answers in a row say otherwise. No program in it. -/
import Derived.WalkKit
namespace Go.Proofs.Ytijbdkeefaaeeaa.Hm
open Go

structure Hy where
  up : Bool
  run : Int
  deriving DecidableEq

/-- how many answers in a row it takes -/
def need (h : Hy) (rise fall : Int) : Int := if h.up = true then fall else rise
/-- one more that says otherwise -/
def more (n : Int) : Int := (if n < 0 then 0 else if 2147483647 < n then 2147483647 else n) + 1
def next (h : Hy) (good : Bool) (rise fall : Int) : Hy :=
  if good = h.up then ⟨h.up, 0⟩ else if need h rise fall ≤ more h.run then ⟨good, 0⟩ else ⟨h.up, more h.run⟩
theorem next_same {h : Hy} {g : Bool} {r f : Int} (e : g = h.up) : next h g r f = ⟨h.up, 0⟩ := if_pos e
theorem next_turn {h : Hy} {g : Bool} {r f : Int} (e : g ≠ h.up) (hn : need h r f ≤ more h.run) : next h g r f = ⟨g, 0⟩ := by unfold next; rw [if_neg e, if_pos hn]
theorem next_wait {h : Hy} {g : Bool} {r f : Int} (e : g ≠ h.up) (hn : ¬ need h r f ≤ more h.run) : next h g r f = ⟨h.up, more h.run⟩ := by unfold next; rw [if_neg e, if_neg hn]
theorem more_pos (n : Int) : 1 ≤ more n ∧ more n ≤ 2147483648 := by unfold more; split <;> (try split) <;> omega
theorem more_small {n : Int} (h : 0 ≤ n) (h2 : n ≤ 2147483647) : more n = n + 1 := by unfold more; rw [if_neg (by omega), if_neg (by omega)]
theorem next_run (h : Hy) (g : Bool) (r f : Int) : 0 ≤ (next h g r f).run ∧ (next h g r f).run ≤ 2147483648 := by
  have hm := more_pos h.run
  unfold next
  split
  · exact ⟨by show (0 : Int) ≤ 0; decide, by show (0 : Int) ≤ 2147483648; decide⟩
  · split
    · exact ⟨by show (0 : Int) ≤ 0; decide, by show (0 : Int) ≤ 2147483648; decide⟩
    · exact ⟨by show 0 ≤ more h.run; omega, hm.2⟩
theorem next_up (h : Hy) (g : Bool) (r f : Int) : (next h g r f).up = h.up ∨ ((next h g r f).up = g ∧ g ≠ h.up ∧ need h r f ≤ more h.run) := by
  by_cases e : g = h.up
  · rw [next_same e]; exact .inl rfl
  · by_cases hn : need h r f ≤ more h.run
    · rw [next_turn e hn]; exact .inr ⟨rfl, e, hn⟩
    · rw [next_wait e hn]; exact .inl rfl

/-- behind answers, one behind the other -/
def all (h : Hy) (l : List Bool) (r f : Int) : Hy := l.foldl (fun h g => next h g r f) h
theorem all_nil (h : Hy) (r f : Int) : all h [] r f = h := rfl
theorem all_cons (h : Hy) (g : Bool) (l : List Bool) (r f : Int) : all h (g :: l) r f = all (next h g r f) l r f := rfl
theorem all_app (h : Hy) (a b : List Bool) (r f : Int) : all h (a ++ b) r f = all (all h a r f) b r f := List.foldl_append
theorem all_one (h : Hy) (l : List Bool) (g : Bool) (r f : Int) : all h (l ++ [g]) r f = next (all h l r f) g r f := by rw [all_app]; rfl

/-- answers that say what is so -/
theorem all_same (u : Bool) (n : Nat) (r f : Int) : all ⟨u, 0⟩ (List.replicate n u) r f = ⟨u, 0⟩ := by
  induction n with
  | zero => rfl
  | succ n ih => rw [List.replicate_succ, all_cons, next_same rfl]; exact ih
/-- answers that say otherwise, fewer than it takes -/
theorem all_few {u g : Bool} (hg : g ≠ u) {r f : Int} (n : Nat) (hl : (n : Int) ≤ 2147483647) (hn : (n : Int) < need ⟨u, 0⟩ r f ∨ n = 0) : all ⟨u, 0⟩ (List.replicate n g) r f = ⟨u, (n : Int)⟩ := by
  induction n with
  | zero => rfl
  | succ n ih =>
    have hn' : ((n + 1 : Nat) : Int) < need ⟨u, 0⟩ r f := hn.resolve_right (by omega)
    have ih := ih (by omega) (.inl (by omega))
    have e : need ⟨u, (n : Int)⟩ r f = need ⟨u, 0⟩ r f := rfl
    have em : more (n : Int) = (n : Int) + 1 := more_small (by omega) (by omega)
    rw [List.replicate_succ', all_one, ih, next_wait hg (by rw [e]; show ¬ _ ≤ more (n : Int); rw [em]; omega)]
    show (⟨u, more (n : Int)⟩ : Hy) = _
    rw [em]
    rfl
/-- as many as it takes, and more -/
theorem all_rows {u g : Bool} {n : Nat} {r f : Int} (hl : (n : Int) ≤ 2147483647) (h1 : 1 ≤ n) (hn : need ⟨u, 0⟩ r f ≤ n) : (all ⟨u, 0⟩ (List.replicate n g) r f).up = g := by
  by_cases hg : g = u
  · subst hg; rw [all_same]
  · -- the last one of the first ones that turns it
    have go : ∀ k : Nat, (k : Int) ≤ 2147483647 → all ⟨u, 0⟩ (List.replicate k g) r f = ⟨g, 0⟩ ∨ (all ⟨u, 0⟩ (List.replicate k g) r f = ⟨u, k⟩ ∧ ((k : Int) < need ⟨u, 0⟩ r f ∨ k = 0)) := by
      intro k
      induction k with
      | zero => intro _; exact .inr ⟨rfl, .inr rfl⟩
      | succ k ih =>
        intro hk
        rw [List.replicate_succ', all_one]
        rcases ih (by omega) with h | ⟨h, -⟩
        · rw [h, next_same rfl]; exact .inl rfl
        · rw [h]
          have e : need ⟨u, (k : Int)⟩ r f = need ⟨u, 0⟩ r f := rfl
          have em : more (k : Int) = (k : Int) + 1 := more_small (by omega) (by omega)
          by_cases hq : need ⟨u, 0⟩ r f ≤ (k : Int) + 1
          · rw [next_turn hg (by rw [e]; show _ ≤ more (k : Int); rw [em]; exact hq)]; exact .inl rfl
          · rw [next_wait hg (by rw [e]; show ¬ _ ≤ more (k : Int); rw [em]; exact hq)]
            refine .inr ⟨?_, .inl (by omega)⟩
            show (⟨u, more (k : Int)⟩ : Hy) = _
            rw [em]
            rfl
    rcases go n hl with h | ⟨-, h⟩
    · rw [h]
    · omega

/-- how often it turns -/
def turns (r f : Int) : Hy → List Bool → Nat
  | _, [] => 0
  | h, g :: l => (if (next h g r f).up = h.up then 0 else 1) + turns r f (next h g r f) l
theorem turns_le {r f : Int} {n : Nat} (hr : (n : Int) ≤ r ∨ n = 1) (hf : (n : Int) ≤ f ∨ n = 1) (l : List Bool) : ∀ h : Hy, 0 ≤ h.run → h.run + l.length ≤ 2147483647 → (turns r f h l : Int) * n ≤ h.run + l.length := by
  induction l with
  | nil =>
    intro h h0 _
    show ((0 : Nat) : Int) * n ≤ h.run + ((0 : Nat) : Int)
    omega
  | cons g l ih0 =>
    intro h h0 hs
    rw [List.length_cons] at hs ⊢
    have em : more h.run = h.run + 1 := more_small h0 (by omega)
    show (((if (next h g r f).up = h.up then 0 else 1) + turns r f (next h g r f) l : Nat) : Int) * n ≤ h.run + ((l.length + 1 : Nat) : Int)
    by_cases e : g = h.up
    · have ih := ih0 ⟨h.up, 0⟩ (by show (0 : Int) ≤ 0; decide) (by show (0 : Int) + _ ≤ _; omega)
      rw [next_same e, if_pos rfl, Nat.zero_add]
      have ih' : (turns r f ⟨h.up, 0⟩ l : Int) * n ≤ 0 + l.length := ih
      omega
    · by_cases hn : need h r f ≤ more h.run
      · have ih := ih0 ⟨g, 0⟩ (by show (0 : Int) ≤ 0; decide) (by show (0 : Int) + _ ≤ _; omega)
        rw [next_turn e hn, if_neg e]
        have ih' : (turns r f ⟨g, 0⟩ l : Int) * n ≤ 0 + l.length := ih
        have hnn : (n : Int) ≤ h.run + 1 := by
          rw [em] at hn
          unfold need at hn
          split at hn <;> omega
        rw [Int.natCast_add, Int.add_mul]
        omega
      · have ih := ih0 ⟨h.up, more h.run⟩ (by show 0 ≤ more h.run; omega) (by show more h.run + _ ≤ _; omega)
        rw [next_wait e hn, if_pos rfl, Nat.zero_add]
        have ih' : (turns r f ⟨h.up, more h.run⟩ l : Int) * n ≤ more h.run + l.length := ih
        omega
end Go.Proofs.Ytijbdkeefaaeeaa.Hm
