/- Steps in memory; which of them count; what a node gains: the program's and the document's. -/
import Derived.Test.YtfdpogbhhocaeaaKitL
import Derived.Test.YtfdpogbhhocaeaaCl
import Derived.Lib.Hide
namespace Go.Proofs.Ytfdpogbhhocaeaa
open Go.RowKit Go.Shelf Km

/-- a step's cells -/
def sv (p : Int × Int) : List Value := [.int .i64 p.1, .int .i64 p.2]
def svs : List (Int × Int) → List Value
  | [] => []
  | p :: l => sv p ++ svs l
theorem svs_nil : svs [] = [] := rfl
theorem svs_cons (p : Int × Int) (l : List (Int × Int)) : svs (p :: l) = .int .i64 p.1 :: .int .i64 p.2 :: svs l := rfl
theorem svs_len (l : List (Int × Int)) : (svs l).length = l.length * 2 := by
  induction l with
  | nil => rfl
  | cons p l ih => rw [svs_cons, List.length_cons, List.length_cons, ih, List.length_cons]; omega
theorem svs_app (a b : List (Int × Int)) : svs (a ++ b) = svs a ++ svs b := by
  induction a with
  | nil => rfl
  | cons p a ih => rw [List.cons_append, svs_cons, svs_cons, ih]; rfl
theorem svs_drop (l : List (Int × Int)) (k : Nat) : (svs l).drop (k * 2) = svs (l.drop k) := by
  induction k generalizing l with
  | zero => rfl
  | succ k ih =>
    cases l with
    | nil => simp [svs_nil]
    | cons p l => rw [show (k + 1) * 2 = k * 2 + 2 by omega, svs_cons, List.drop_succ_cons, List.drop_succ_cons, ih, List.drop_succ_cons]
theorem svs_take (l : List (Int × Int)) (k : Nat) : (svs l).take (k * 2) = svs (l.take k) := by
  induction k generalizing l with
  | zero => simp [svs_nil]
  | succ k ih =>
    cases l with
    | nil => simp [svs_nil]
    | cons p l => rw [show (k + 1) * 2 = k * 2 + 2 by omega, svs_cons, List.take_succ_cons, List.take_succ_cons, ih, List.take_succ_cons, svs_cons]
theorem svs_get {l : List (Int × Int)} {k : Nat} {p : Int × Int} (h : l[k]? = some p) : ∀ j v, (sv p)[j]? = some v → (svs l)[k * 2 + j]? = some v := by
  intro j v hj
  have h2 : svs (l.drop k) = sv p ++ svs (l.drop (k + 1)) := by
    obtain ⟨hk, rfl⟩ := List.getElem?_eq_some_iff.1 h
    rw [List.drop_eq_getElem_cons hk]; rfl
  rw [← List.getElem?_drop, svs_drop, h2, List.getElem?_append_left (List.getElem?_eq_some_iff.1 hj).1]
  exact hj

/-- the numbers are within their kinds -/
def in64 (x : Int) : Prop := -9223372036854775808 ≤ x ∧ x ≤ 9223372036854775807
def Wl (l : List (Int × Int)) : Prop := ∀ p ∈ l, in64 p.1 ∧ in64 p.2
theorem Wl.sub {l m : List (Int × Int)} (h : Wl l) (hs : ∀ p ∈ m, p ∈ l) : Wl m := fun p hp => h p (hs p hp)

theorem Rd.sts {w : World} {B : Nat} {A : Option Addr} {l : List (Int × Int)} (h : Rd w B A (svs l)) {k : Nat} {p : Int × Int} (hk : l[k]? = some p) :
    ∃ ad, A = some ad ∧ ad.block < B ∧ ∀ j v, (sv p)[j]? = some v → w.cell? ((ad.add (k * 2)).add j) = some v := by
  obtain ⟨ad, e, hb, hc⟩ := h (k * 2) _ (svs_get hk 0 _ rfl)
  refine ⟨ad, e, hb, fun j v hv => ?_⟩
  obtain ⟨ad', e', _, hc'⟩ := h (k * 2 + j) v (svs_get hk j v hv)
  rw [e] at e'
  cases e'
  rw [addr_add_add]
  exact hc'

theorem isS_iff (p : Int × Int) : decide (Cl.isS p) = (decide (0 ≤ p.1) && decide (0 ≤ p.2) && decide (p.2 ≤ 1099511627776)) := by
  unfold Cl.isS
  by_cases h1 : 0 ≤ p.1 <;> by_cases h2 : 0 ≤ p.2 <;> by_cases h3 : p.2 ≤ 1099511627776 <;> simp [h1, h2, h3]

set_option maxRecDepth 100000 in
theorem counts_any (p : Int × Int) (w : World) : Calls Try.prog 14 #[.agg (sv p).toArray] w fun e w' => e = .returned (.bool (decide (Cl.isS p))) ∧ Below w.heap.size w w' := by
  rw [isS_iff]
  obtain ⟨a, b⟩ := p
  dsimp only [sv]
  by_cases h1 : (0 : Int) ≤ a
  · have d1 : decide ((0 : Int) ≤ a) = true := by simp [h1]
    by_cases h2 : (0 : Int) ≤ b
    · have d2 : decide ((0 : Int) ≤ b) = true := by simp [h2]
      rw [d1, d2]
      go_enter Try.func14, Try.ntmps14
      go_wp2
      go_ret
      exact ⟨by simp, (Below.refl _ w).alloc (Nat.le_refl _) _⟩
    · have d2 : decide ((0 : Int) ≤ b) = false := by simp; omega
      rw [d1, d2]
      go_enter Try.func14, Try.ntmps14
      go_wp2
      go_ret
      exact ⟨by simp, (Below.refl _ w).alloc (Nat.le_refl _) _⟩
  · have d1 : decide ((0 : Int) ≤ a) = false := by simp; omega
    rw [d1]
    go_enter Try.func14, Try.ntmps14
    go_wp2
    go_ret
    exact ⟨by simp, (Below.refl _ w).alloc (Nat.le_refl _) _⟩
set_option maxRecDepth 100000 in
theorem step_any (p : Int × Int) (w : World) : Calls Try.prog 15 #[.agg (sv p).toArray] w fun e w' => e = .returned (.bool (decide (Cl.isS p))) ∧ Below w.heap.size w w' := by
  rw [isS_iff]
  obtain ⟨a, b⟩ := p
  dsimp only [sv]
  by_cases h1 : (0 : Int) ≤ a
  · have d1 : decide ((0 : Int) ≤ a) = true := by simp [h1]
    by_cases h2 : (0 : Int) ≤ b
    · have d2 : decide ((0 : Int) ≤ b) = true := by simp [h2]
      rw [d1, d2]
      go_enter Try.func15, Try.ntmps15
      go_wp2
      go_ret
      exact ⟨by simp, (Below.refl _ w).alloc (Nat.le_refl _) _⟩
    · have d2 : decide ((0 : Int) ≤ b) = false := by simp; omega
      rw [d1, d2]
      go_enter Try.func15, Try.ntmps15
      go_wp2
      go_ret
      exact ⟨by simp, (Below.refl _ w).alloc (Nat.le_refl _) _⟩
  · have d1 : decide ((0 : Int) ≤ a) = false := by simp; omega
    rw [d1]
    go_enter Try.func15, Try.ntmps15
    go_wp2
    go_ret
    exact ⟨by simp, (Below.refl _ w).alloc (Nat.le_refl _) _⟩
end Go.Proofs.Ytfdpogbhhocaeaa
