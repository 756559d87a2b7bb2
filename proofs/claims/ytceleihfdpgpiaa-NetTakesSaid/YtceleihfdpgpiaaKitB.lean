/- For seats without frame and journal: slices of bytes that lie in given blocks; what an owner's calls leave alone. No program in it. (Out and Sx stand in journal/Jf as well, without a namespace.) -/
import Derived.Test.YtceleihfdpgpiaaKitM
namespace Go.Proofs.Ytceleihfdpgpiaa.Kb
open Go.RowKit

/-- a slice value that reads as the bytes b, all in blocks that 'ok' allows; nil has no room -/
def Bdy (w : World) (ok : Nat → Prop) (v : Value) (b : List Int) : Prop :=
  ∃ A c, v = .slice A b.length c ∧ b.length ≤ c ∧ c ≤ maxLen ∧ (A = none → c = 0) ∧ ∀ j u, (u8s b)[j]? = some u → ∃ ad, A = some ad ∧ ok ad.block ∧ w.cell? (ad.add j) = some u
theorem Bdy.rd {w : World} {ok : Nat → Prop} {v : Value} {b : List Int} (h : Bdy w ok v b) {B : Nat} (hB : ∀ g, ok g → g < B) : ∃ A c, v = .slice A b.length c ∧ b.length ≤ c ∧ c ≤ maxLen ∧ (A = none → c = 0) ∧ Rd w B A (u8s b) := by
  obtain ⟨A, c, e, h1, h2, h0, h3⟩ := h
  exact ⟨A, c, e, h1, h2, h0, fun j u hj => by obtain ⟨ad, e, h4, h5⟩ := h3 j u hj; exact ⟨ad, e, hB _ h4, h5⟩⟩
theorem Bdy.keep {w w' : World} {ok ok' : Nat → Prop} {v : Value} {b : List Int} (h : Bdy w ok v b) (hk : ∀ g, ok g → w'.heap[g]? = w.heap[g]? ∧ ok' g) : Bdy w' ok' v b := by
  obtain ⟨A, c, e, h1, h2, h0, h3⟩ := h
  refine ⟨A, c, e, h1, h2, h0, fun j u hj => ?_⟩
  obtain ⟨ad, e, h4, h5⟩ := h3 j u hj
  exact ⟨ad, e, (hk _ h4).2, (World.cell?_of_block (by rw [addr_add_block]; exact (hk _ h4).1)).trans h5⟩
theorem own_view0 {w : World} {base : Nat} {e : TypeId} {v : Value} {n : Nat} {xs : List Value} (h : w.ownsRow base e 1 v n xs) : ∃ A cap, v = .slice A n cap ∧ n ≤ cap ∧ cap ≤ maxLen ∧ (A = none → cap = 0) ∧ Rd w w.heap.size A xs := by
  rcases h.2 with ⟨rfl, rfl⟩ | ⟨g, cap, cur, rfl, _, _, h1, h2, _⟩
  · have : xs = [] := List.eq_nil_of_length_eq_zero (by simpa using h.1)
    subst this
    exact ⟨none, 0, rfl, Nat.le_refl _, Nat.zero_le _, fun _ => rfl, Rd.nil _ _ _⟩
  · exact ⟨_, cap, rfl, h1, h2, (fun e => nomatch e), Rd.of_own h⟩
theorem Bdy.own {w : World} {base : Nat} {v : Value} {b : List Int} (h : w.ownsRow base 5 1 v b.length (u8s b)) : Bdy w (fun g => base ≤ g ∧ g < w.heap.size) v b := by
  obtain ⟨A, c, rfl, h1, h2, h0, h3⟩ := own_view0 h
  refine ⟨A, c, rfl, h1, h2, h0, fun j u hj => ?_⟩
  obtain ⟨ad, e, h4, h5⟩ := h3 j u hj
  subst e
  exact ⟨ad, rfl, h.lt _ rfl, h5⟩
theorem Bdy.nil (w : World) (ok : Nat → Prop) : Bdy w ok (.slice none 0 0) [] := ⟨none, 0, rfl, Nat.le_refl _, Nat.zero_le _, fun _ => rfl, fun j u h => by simp [u8s] at h⟩

/-- all blocks are as they were but those of S, and new ones -/
structure Out (S : Nat → Prop) (w w' : World) : Prop where
  os : w'.os = w.os
  tape : w'.tape = w.tape
  output : w'.output = w.output
  size : w.heap.size ≤ w'.heap.size
  block : ∀ k, k < w.heap.size → ¬ S k → w'.heap[k]? = w.heap[k]?
/-- S, and what was made -/
def Sx (S : Nat → Prop) (w w' : World) : Nat → Prop := fun b => S b ∨ (w.heap.size ≤ b ∧ b < w'.heap.size)
section
variable {S D : Nat → Prop} {w w' w'' : World}
theorem Out.refl : Out S w w := ⟨rfl, rfl, rfl, Nat.le_refl _, fun _ _ _ => rfl⟩
theorem Out.below (h : Below w.heap.size w w') : Out S w w' := ⟨h.os, h.tape, h.output, h.size, fun k hk _ => h.block k hk⟩
theorem Out.grown {row : Option Nat} (h : w.grownBy w' row) (hr : ∀ b, row = some b → S b) : Out S w w' := ⟨h.os, h.tape, h.output, h.size, fun k hk hn => h.block k hk (fun e => hn (hr k e.symm))⟩
theorem Out.trans (h : Out S w w') (k : Out (Sx S w w') w' w'') : Out S w w'' :=
  ⟨k.os.trans h.os, k.tape.trans h.tape, k.output.trans h.output, Nat.le_trans h.size k.size, fun b hb hn => (k.block b (Nat.lt_of_lt_of_le hb h.size) (fun q => q.elim hn (fun q => by omega))).trans (h.block b hb hn)⟩
theorem Out.more (h : Out S w w') (hS : ∀ b, S b → D b) : Out D w w' := ⟨h.os, h.tape, h.output, h.size, fun k hk hn => h.block k hk (fun q => hn (hS k q))⟩
theorem Out.to {B : Nat} (h : Out S w w') (hS : ∀ b, S b → B ≤ b) (hB : B ≤ w.heap.size) : Below B w w' :=
  ⟨h.os, h.tape, h.output, h.size, fun k hk => h.block k (by omega) (fun q => by have := hS k q; omega)⟩
theorem Sx.trans (h : w.heap.size ≤ w'.heap.size) (h' : w'.heap.size ≤ w''.heap.size) : Sx (Sx S w w') w' w'' = Sx S w w'' := by
  funext b
  refine propext ⟨fun q => ?_, fun q => ?_⟩
  · rcases q with (q | q) | q
    · exact .inl q
    · exact .inr ⟨q.1, by omega⟩
    · exact .inr ⟨by omega, q.2⟩
  · rcases q with q | q
    · exact .inl (.inl q)
    · by_cases hb : b < w'.heap.size
      · exact .inl (.inr ⟨q.1, hb⟩)
      · exact .inr ⟨by omega, q.2⟩
theorem Sx.in {b : Nat} (h : S b) : Sx S w w' b := .inl h
end

end Go.Proofs.Ytceleihfdpgpiaa.Kb
