/- Rows of structs, flat: elements of k cells each. No program in it. -/
import Derived.Test.YtponpgcpmlcdpaaKitX
namespace Go.Proofs.Ytponpgcpmlcdpaa.Kt
open Go.RowKit Km Kx

section
variable {α : Type} {f : α → List Value} {k : Nat}
def cat (f : α → List Value) (l : List α) : List Value := l.flatMap f
theorem cat_nil : cat f [] = [] := rfl
theorem cat_cons (a : α) (l : List α) : cat f (a :: l) = f a ++ cat f l := rfl
theorem cat_one (a : α) : cat f [a] = f a := by show f a ++ [] = f a; rw [List.append_nil]
theorem cat_app (a b : List α) : cat f (a ++ b) = cat f a ++ cat f b := List.flatMap_append
theorem cat_len (hf : ∀ a, (f a).length = k) (l : List α) : (cat f l).length = l.length * k := by
  induction l with
  | nil => simp [cat]
  | cons a l ih => rw [cat_cons, List.length_append, hf, ih, List.length_cons, Nat.succ_mul]; omega
theorem cat_drop (hf : ∀ a, (f a).length = k) (l : List α) (i : Nat) : (cat f l).drop (i * k) = cat f (l.drop i) := by
  induction i generalizing l with
  | zero => simp
  | succ i ih =>
    cases l with
    | nil => simp [cat]
    | cons a l => rw [Nat.succ_mul, Nat.add_comm, cat_cons, List.drop_succ_cons, ← ih, ← List.drop_drop]; congr 1; rw [← hf a, List.drop_left]
theorem cat_get (hf : ∀ a, (f a).length = k) {l : List α} {i : Nat} {a : α} (h : l[i]? = some a) {j : Nat} {u : Value} (hj : (f a)[j]? = some u) : (cat f l)[i * k + j]? = some u := by
  have h2 : cat f (l.drop i) = f a ++ cat f (l.drop (i + 1)) := by
    obtain ⟨hk, rfl⟩ := List.getElem?_eq_some_iff.1 h
    rw [List.drop_eq_getElem_cons hk]; rfl
  rw [← List.getElem?_drop, cat_drop hf, h2, List.getElem?_append_left (List.getElem?_eq_some_iff.1 hj).1]
  exact hj
theorem cat_at (hf : ∀ a, (f a).length = k) (hk : 0 < k) {l : List α} {j : Nat} {u : Value} (h : (cat f l)[j]? = some u) : ∃ a, l[j / k]? = some a ∧ (f a)[j % k]? = some u := by
  have hj : j < l.length * k := by have := (List.getElem?_eq_some_iff.1 h).1; rwa [cat_len hf] at this
  have hd : j / k < l.length := (Nat.div_lt_iff_lt_mul hk).2 hj
  refine ⟨l[j / k], List.getElem?_eq_getElem hd, ?_⟩
  have hm : j % k < k := Nat.mod_lt _ hk
  obtain ⟨x, hx⟩ : ∃ x, (f l[j / k])[j % k]? = some x := ⟨(f l[j / k])[j % k]'(by rw [hf]; exact hm), List.getElem?_eq_getElem _⟩
  have h3 := cat_get hf (List.getElem?_eq_getElem hd) hx
  rw [Nat.div_add_mod' j k] at h3
  rw [h3] at h
  rw [hx, h]
theorem cat_cells (h1 : ∀ a, ∀ u ∈ f a, u.oneCell' = true) (l : List α) : ∀ u ∈ cat f l, u.oneCell' = true := fun u hu => by
  obtain ⟨a, _, ha⟩ := List.mem_flatMap.1 hu
  exact h1 a u ha
/-- one cell of one element, in memory -/
theorem Rd.part {w : World} {B : Nat} {A : Option Addr} {l : List α} (hf : ∀ a, (f a).length = k) (hr : Rd w B A (cat f l)) {i : Nat} {a : α} (h : l[i]? = some a) (hk : 0 < k) : ∃ ad, A = some ad ∧ ad.block < B ∧ ∀ j u, (f a)[j]? = some u → w.cell? (ad.add (i * k + j)) = some u := by
  obtain ⟨u, hu⟩ : ∃ u, (f a)[0]? = some u := ⟨(f a)[0]'(by rw [hf]; exact hk), List.getElem?_eq_getElem _⟩
  obtain ⟨ad, e, hb, -⟩ := hr _ _ (cat_get hf h hu)
  refine ⟨ad, e, hb, fun j u hj => ?_⟩
  obtain ⟨ad', e', _, hc⟩ := hr _ _ (cat_get hf h hj)
  rw [e] at e'
  cases e'
  exact hc
end
end Go.Proofs.Ytponpgcpmlcdpaa.Kt
