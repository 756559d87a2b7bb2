/- What an owner's calls leave alone: all blocks that are not its own. A journal in memory. -/
import Derived.Test.YtgpagddaopgdgaaDoorJm
import Derived.Test.YtgpagddaopgdgaaDoorBFs
import Derived.Test.YtgpagddaopgdgaaDoorKitM
namespace Go.Proofs.YtgpagddaopgdgaaDoor
open Go.RowKit Go.Shelf Km

/-- all blocks are as they were but those of S, and new ones -/
structure Out (S : Nat → Prop) (w w' : World) : Prop where
  os : w'.os = w.os
  tape : w'.tape = w.tape
  output : w'.output = w.output
  size : w.heap.size ≤ w'.heap.size
  block : ∀ k, k < w.heap.size → ¬ S k → w'.heap[k]? = w.heap[k]?
/-- S, and what was made -/
def Sx (S : Nat → Prop) (w w' : World) : Nat → Prop := fun b => S b ∨ (w.heap.size ≤ b ∧ b < w'.heap.size)
section
variable {S D : Nat → Prop} {w w' w'' : World}
theorem Out.refl : Out S w w := ⟨rfl, rfl, rfl, Nat.le_refl _, fun _ _ _ => rfl⟩
theorem Out.below (h : Below w.heap.size w w') : Out S w w' := ⟨h.os, h.tape, h.output, h.size, fun k hk _ => h.block k hk⟩
theorem Out.grown {row : Option Nat} (h : w.grownBy w' row) (hr : ∀ b, row = some b → S b) : Out S w w' := ⟨h.os, h.tape, h.output, h.size, fun k hk hn => h.block k hk (fun e => hn (hr k e.symm))⟩
theorem Out.trans (h : Out S w w') (k : Out (Sx S w w') w' w'') : Out S w w'' :=
  ⟨k.os.trans h.os, k.tape.trans h.tape, k.output.trans h.output, Nat.le_trans h.size k.size, fun b hb hn => (k.block b (Nat.lt_of_lt_of_le hb h.size) (fun q => q.elim hn (fun q => by omega))).trans (h.block b hb hn)⟩
theorem Out.more (h : Out S w w') (hS : ∀ b, S b → D b) : Out D w w' := ⟨h.os, h.tape, h.output, h.size, fun k hk hn => h.block k hk (fun q => hn (hS k q))⟩
theorem Out.to {B : Nat} (h : Out S w w') (hS : ∀ b, S b → B ≤ b) (hB : B ≤ w.heap.size) : Below B w w' :=
  ⟨h.os, h.tape, h.output, h.size, fun k hk => h.block k (by omega) (fun q => by have := hS k q; omega)⟩
theorem Sx.trans (h : w.heap.size ≤ w'.heap.size) (h' : w'.heap.size ≤ w''.heap.size) : Sx (Sx S w w') w' w'' = Sx S w w'' := by
  funext b
  refine propext ⟨fun q => ?_, fun q => ?_⟩
  · rcases q with (q | q) | q
    · exact .inl q
    · exact .inr ⟨q.1, by omega⟩
    · exact .inr ⟨by omega, q.2⟩
  · rcases q with q | q
    · exact .inl (.inl q)
    · by_cases hb : b < w'.heap.size
      · exact .inl (.inr ⟨q.1, hb⟩)
      · exact .inr ⟨by omega, q.2⟩
theorem Sx.in {b : Nat} (h : S b) : Sx S w w' b := .inl h
end

/-- a journal's cells -/
def jvs (kv rv : Value) (burn : Int) (off : Bool) : List Value := [kv, rv, .int .i64 burn, .bool off]
structure JAt (w : World) (S : Nat → Prop) (g : Nat) (s : Jm.St) (kv rv : Value) : Prop where
  rng : w.rangeAt g 0 (jvs kv rv s.burn s.off)
  th : w.there g 0 4
  sg : S g
  lt : ∀ b, S b → b < w.heap.size
  kr : w.ownsRow 0 5 1 kv s.kept.length (u8s s.kept)
  rr : w.ownsRow 0 5 1 rv s.rest.length (u8s s.rest)
  kS : ∀ b, kv.ownBlock = some b → S b ∧ b ≠ g
  rS : ∀ b, rv.ownBlock = some b → S b ∧ b ≠ g
  k2 : ∀ b, kv.ownBlock = some b → rv.ownBlock ≠ some b
  ok : Jm.Ok s
section
variable {S D : Nat → Prop} {w w' : World} {g : Nat} {s : Jm.St} {kv rv : Value}
theorem JAt.same (h : JAt w S g s kv rv) (hb : ∀ b, S b → w'.heap[b]? = w.heap[b]?) (hs : w.heap.size ≤ w'.heap.size) : JAt w' S g s kv rv := by
  refine ⟨fun j v hv => ?_, fun j hj => ?_, h.sg, fun b q => Nat.lt_of_lt_of_le (h.lt b q) hs, own_same h.kr fun b e => hb b (h.kS b e).1, own_same h.rr fun b e => hb b (h.rS b e).1, h.kS, h.rS, h.k2, h.ok⟩
  · rw [World.cell?_of_block (hb g h.sg)]; exact h.rng j v hv
  · rw [World.cell?_of_block (hb g h.sg), World.frozen?_of_block (hb g h.sg)]; exact h.th j hj
theorem JAt.out (h : JAt w S g s kv rv) (ho : Out D w w') (hd : ∀ b, S b → ¬ D b) : JAt w' S g s kv rv := h.same (fun b q => ho.block b (h.lt b q) (hd b q)) ho.size
theorem JAt.below (h : JAt w S g s kv rv) (hb : Below w.heap.size w w') : JAt w' S g s kv rv := h.same (fun b q => hb.block b (h.lt b q)) hb.size
theorem JAt.more (h : JAt w S g s kv rv) (hS : ∀ b, S b → D b) (hD : ∀ b, D b → b < w.heap.size) : JAt w D g s kv rv :=
  ⟨h.rng, h.th, hS _ h.sg, hD, h.kr, h.rr, fun b e => ⟨hS _ (h.kS b e).1, (h.kS b e).2⟩, fun b e => ⟨hS _ (h.rS b e).1, (h.rS b e).2⟩, h.k2, h.ok⟩
theorem JAt.sx (h : JAt w' S g s kv rv) : JAt w' (Sx S w w') g s kv rv := h.more (fun _ q => .inl q) (fun b q => q.elim (h.lt b) (·.2))
theorem JAt.at (h : JAt w S g s kv rv) (j : Nat) {v : Value} (hv : (jvs kv rv s.burn s.off)[j]? = some v) : w.cell? ⟨g, j, none⟩ = some v ∧ w.frozen? ⟨g, j, none⟩ = false := by
  have hj : j < 4 := (List.getElem?_eq_some_iff.1 hv).1
  have := (h.th j hj).2
  rw [Nat.zero_add] at this
  refine ⟨?_, this⟩
  have h2 := h.rng j v hv
  rwa [Nat.zero_add] at h2
end
end Go.Proofs.YtgpagddaopgdgaaDoor
