/- What is known while parts of the steps are looked at, one beginning after the other. No program in it. -/
import Derived.Test.YtfdpogbhhocaeaaCl
namespace Go.Proofs.Ytfdpogbhhocaeaa.Cl
open Go

/-- what is gained in the j steps from i on -/
def F (l : List (Int × Int)) (i j : Nat) (x : Int) : Int := G l (i + j) x - G l i x
theorem F_zero (l : List (Int × Int)) (i : Nat) (x : Int) : F l i 0 x = 0 := by unfold F; rw [Nat.add_zero]; omega
theorem F_next {l : List (Int × Int)} {i j : Nat} {p : Int × Int} (h : l[i + j]? = some p) (x : Int) : F l i (j + 1) x = F l i j x + gives p x := by
  have h2 : l.take (i + j + 1) = l.take (i + j) ++ [p] := by rw [List.take_add_one, h]; rfl
  have h3 : G l (i + j + 1) x = G l (i + j) x + gives p x := by unfold G; rw [h2, gain_app, gain_cons, gain_nil]; omega
  unfold F
  rw [show i + (j + 1) = i + j + 1 by omega, h3]
  omega
theorem F_later (l : List (Int × Int)) {i j i' j' : Nat} (h1 : i ≤ i') (h2 : i' + j' ≤ i + j) (x : Int) : F l i' j' x ≤ F l i j x := by
  have a := G_mono l h1 x
  have b := G_mono l h2 x
  unfold F
  omega
theorem F_pos (l : List (Int × Int)) (i j : Nat) (x : Int) : 0 ≤ F l i j x := by
  have := G_mono l (show i ≤ i + j by omega) x
  unfold F
  omega
theorem F_most (l : List (Int × Int)) (i j : Nat) (x : Int) : F l i j x ≤ 1099511627776 * (l.length : Int) := by
  have h1 := gain_most (l.take (i + j)) x
  have h2 : (l.take (i + j)).length ≤ l.length := by rw [List.length_take]; omega
  have h3 := gain_pos (l.take i) x
  unfold F G
  omega
theorem F_put {l : List (Int × Int)} {i j : Nat} {p : Int × Int} (h : l[i + j]? = some p) (hs : isS p) : (fun z => if z = p.1 then F l i j p.1 + p.2 else F l i j z) = F l i (j + 1) := by
  funext z
  rw [F_next h z]
  unfold gives
  by_cases hz : z = p.1
  · rw [if_pos hz, if_pos ⟨hs, hz.symm⟩, hz]
  · rw [if_neg hz, if_neg (fun q => hz q.2.symm)]; omega
theorem F_same {l : List (Int × Int)} {i j : Nat} {p : Int × Int} (h : l[i + j]? = some p) (hs : ¬ isS p) : F l i (j + 1) = F l i j := by
  funext z
  rw [F_next h z, gives_no hs]; omega

theorem dr_F {l : List (Int × Int)} {some others : List Int} {much least : Int} : Dr l some much others least ↔ ∀ i j, i + j ≤ l.length → Hd (F l i j) some much others least := by
  constructor
  · intro h i j hk
    exact h i (i + j) (by omega) hk
  · intro h i k hik hk
    have := h i (k - i) (by omega)
    unfold F at this
    rw [show i + (k - i) = k by omega] at this
    exact this
theorem dr_mem {l : List (Int × Int)} {some some' others others' : List Int} {much least : Int} (hs : ∀ a, a ∈ some' ↔ a ∈ some) (ho : ∀ a, a ∈ others' ↔ a ∈ others) : Dr l some' much others' least ↔ Dr l some much others least :=
  ⟨fun h => h.few (fun a ha => (hs a).2 ha) (fun a ha => (ho a).2 ha), fun h => h.few (fun a ha => (hs a).1 ha) (fun a ha => (ho a).1 ha)⟩

section
variable (l : List (Int × Int)) (some others : List Int) (much least : Int)
/-- nobody is fast in the j steps from i on, where anybody could be slow -/
def Pk (i j : Nat) : Prop := (∃ b, b ∈ others ∧ 0 < least) → ∀ a ∈ some, F l i j a < much
/-- all parts that begin ahead of i have been looked at -/
def Don (i : Nat) : Prop := ∀ i' j', i' < i → i' + j' ≤ l.length → Hd (F l i' j') some much others least
end
section
variable {l : List (Int × Int)} {some others : List Int} {much least : Int}
theorem Don.start : Don l some others much least 0 := fun _ _ h => absurd h (Nat.not_lt_zero _)
theorem no_start (hs : some.any (fun _ => decide (much ≤ 0)) = true) (ho : others.any (fun _ => decide (0 < least)) = true) : ¬ Dr l some much others least := by
  obtain ⟨a, ha, h1⟩ := List.any_eq_true.1 hs
  obtain ⟨b, hb, h2⟩ := List.any_eq_true.1 ho
  intro h
  have := dr_F.1 h 0 0 (Nat.zero_le _) ⟨a, ha, by rw [F_zero]; simpa using h1⟩ b hb
  rw [F_zero] at this
  simp at h2
  omega
theorem Pk.start (h : some.any (fun _ => decide (much ≤ 0)) = false ∨ others.any (fun _ => decide (0 < least)) = false) (i : Nat) : Pk l some others much least i 0 := by
  rintro ⟨b, hb, h2⟩ a ha
  rw [F_zero]
  rcases h with h | h
  · have := List.any_eq_false.1 h a ha
    simp at this
    omega
  · have := List.any_eq_false.1 h b hb
    simp at this
    omega
theorem Pk.skip {i j : Nat} {p : Int × Int} (h : Pk l some others much least i j) (hp : l[i + j]? = .some p) (hs : ¬ isS p) : Pk l some others much least i (j + 1) := by
  unfold Pk
  rw [F_same hp hs]
  exact h
/-- somebody is slow, and whose step it is is no node of 'some' that has become fast -/
theorem Pk.next {i j : Nat} {p : Int × Int} (h : Pk l some others much least i j) (hp : l[i + j]? = .some p) {b : Int} (hb : b ∈ others) (_hl : F l i (j + 1) b < least) (hn : ¬ (much ≤ F l i (j + 1) p.1 ∧ p.1 ∈ some)) : Pk l some others much least i (j + 1) := by
  intro _ a ha
  have h0 := F_pos l i (j + 1) b
  by_cases e : a = p.1
  · subst e
    have : ¬ much ≤ F l i (j + 1) p.1 := fun q => hn ⟨q, ha⟩
    omega
  · rw [F_next hp a]
    have e1 : gives p a = 0 := if_neg (fun q => e q.2.symm)
    have := h ⟨b, hb, by omega⟩ a ha
    omega
theorem no_step {i j : Nat} {x b : Int} (hj : i + j ≤ l.length) (hb : b ∈ others) (hl : F l i j b < least) (hm : much ≤ F l i j x) (hx : x ∈ some) : ¬ Dr l some much others least := fun h => by
  have := dr_F.1 h i j hj ⟨x, hx, hm⟩ b hb
  omega
theorem Pk.hd {i j i' j' : Nat} (h : Pk l some others much least i j) (h1 : i ≤ i') (h2 : i' + j' ≤ i + j) : Hd (F l i' j') some much others least := by
  rintro ⟨a, ha, hm⟩ b hb
  have h0 := F_pos l i' j' b
  apply Classical.byContradiction
  intro hc
  have := h ⟨b, hb, by omega⟩ a ha
  have := F_later l h1 h2 a
  omega
/-- all others have gained enough: what begins here is as it must be -/
theorem Don.next {i j : Nat} (h : Don l some others much least i) (hk : Pk l some others much least i j) (ha : ∀ b ∈ others, least ≤ F l i (j + 1) b) : Don l some others much least (i + 1) := by
  intro i' j' hi hl
  by_cases e : i' < i
  · exact h i' j' e hl
  · obtain rfl : i' = i := by omega
    by_cases e2 : j' ≤ j
    · exact hk.hd (Nat.le_refl _) (by omega)
    · intro _ b hb
      exact Int.le_trans (ha b hb) (F_later l (Nat.le_refl _) (by omega) b)
/-- nobody becomes fast in all that is left -/
theorem Don.stop {i j : Nat} (h : Don l some others much least i) (hk : Pk l some others much least i j) (hj : l.length ≤ i + j) : Dr l some much others least := by
  refine dr_F.2 fun i' j' hl => ?_
  by_cases e : i' < i
  · exact h i' j' e hl
  · exact hk.hd (by omega) (by omega)
end
end Go.Proofs.Ytfdpogbhhocaeaa.Cl
