/- A region that draws its order: what is left of it behind the calls only reads. No program in it. -/
import Derived.WalkKit
import Derived.Deep.QuietTactic
import Derived.BigQuiet
namespace Go.Proofs.Ytnipaifkgjbanaa

section
variable {P : Program} {ops : Array Oper} {md : Region.Mode} {Q : Exit → Act → World → Prop}

/-- the operations from number k on are left, and they only read: one walk in the order of the text -/
theorem wpAny_rest (k : Nat) {listed : Array Bool} {a : Act} {w : World} {fuel : Nat} (hs : Region.noSelect ops = true) (hn : (ops.toList.drop k).length = fuel) (hB : Region.lexFrom md ops fuel k listed = true)
    (h : wpQuiet P ops (fun w' => ∃ n, w' = w.drewN n) (fun a' => ∀ w', (∃ n, w' = w.drewN n) → Q .normal a' w') (ops.toList.drop k) a) : wpAny P md ops Q fuel listed a w := by
  subst hn
  exact wpAny_of_quiet (Q := fun a' => ∀ w', (∃ n, w' = w.drewN n) → Q .normal a' w') (fun _ w' hw' h => h w' hw') _ _ _ _ ⟨0, rfl⟩
    (wpAnyQ_lex hs (ops.toList.drop k) k listed a (fun j => by rw [List.getElem?_drop]; simp) hB h)

/-- one operation more is left, ahead of those -/
theorem wpAny_rest1 (i k : Nat) {oi : Oper} (v : Value) {listed : Array Bool} {a : Act} {w : World} {fuel : Nat} (hi : ops[i]? = some oi) (hs : Region.noSelect ops = true) (hf : Region.free md ops listed i = true) (hr : (Region.ready md ops listed).contains i = true)
    (hw : Region.wanted oi (yielded ops a.tmps) = true) (hy : ∀ n, (execOp a.eval oi).run P (w.drewN n) = .ok (.value v) (w.drewN n))
    (hn : (ops.toList.drop k).length = fuel) (hB : Region.lexFrom md ops fuel k (listed.setIfInBounds i true) = true)
    (h : wpQuiet P ops (fun w' => ∃ n, w' = w.drewN n) (fun a' => ∀ w', (∃ n, w' = w.drewN n) → Q .normal a' w') (ops.toList.drop k) (a.put oi.dst v)) : wpAny P md ops Q (fuel + 1) listed a w := by
  subst hn
  refine wpAny_of_quiet (Q := fun a' => ∀ w', (∃ n, w' = w.drewN n) → Q .normal a' w') (C := fun w' => ∃ n, w' = w.drewN n) (fun _ w' hw' h => h w' hw') _ _ _ _ ⟨0, rfl⟩ ?_
  refine wpAnyQ_first hi (Region.noSelect_spec hs) _ listed a (Region.free_spec hi hf) (by simpa using hr) (.inl ⟨hw, ?_⟩)
    (wpAnyQ_lex hs (ops.toList.drop k) k _ _ (fun j => by rw [List.getElem?_drop]; simp) hB h)
  rintro w' ⟨n, rfl⟩
  unfold Oper.quietAt
  rw [hy n]
  exact ⟨rfl, rfl⟩
/-- an operation that yields in whatever world, taken first; the frame behind it as it is written out -/
theorem wpAny_take_flat {i : Nat} {oi : Oper} {v : Value} {listed : Array Bool} {a a' : Act} {w : World} {fuel : Nat} (hi : ops[i]? = some oi) (hs : Region.noSelect ops = true) (hf : Region.free md ops listed i = true) (hr : (Region.ready md ops listed).contains i = true)
    (hQ : ∀ c a w, Q (.panic c) (a.put oi.dst v) w → Q (.panic c) a w) (hw : Region.wanted oi (yielded ops a.tmps) = true) (hy : ∀ w, (execOp a.eval oi).run P w = .ok (.value v) w) (ha : a.put oi.dst v = a')
    (h : wpAny P md ops Q fuel (listed.setIfInBounds i true) a' w) : wpAny P md ops Q (fuel + 1) listed a w :=
  wpAny_take hi hs hf hr hQ (Or.inl ⟨hw, hy⟩) (by rw [ha]; exact h)
end

end Go.Proofs.Ytnipaifkgjbanaa
