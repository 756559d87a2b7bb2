/- Rows that came as an argument, with what their weight says of their length; also rows within rows. No program in it. -/
import Derived.Test.YtceleihfdpgpiaaBK
import Derived.ProofKit
import Derived.OpenShut
import Derived.ChangeOld
import Derived.SizedLaws
import Derived.Deep.Slices
import Derived.Deep.DeepHandedRow
namespace Go.Proofs.Ytceleihfdpgpiaa.Kz
open Go.ChangeShapes Go.WideShapes Go.ChangeAt Go.RowKit

/-- all that is weighed of it is within reach -/
def Sz {H : Type} (P : Program) (t : TypeId) (d : DataW H) : Prop := ∀ n ∈ d.weights P t, n ≤ reachBytes
section
variable {H : Type} {P : Program} {t e : TypeId}
theorem all_mem {n : Nat} : ∀ {ds : List (DataW H)} {d : DataW H}, d ∈ ds → n ∈ d.weights P e → n ∈ DataW.weightsAll P e ds
  | d0 :: ds, d, hd, hn => by
    rw [DataW.weightsAll, List.mem_append]
    rcases List.mem_cons.1 hd with rfl | q
    · exact .inl hn
    · exact .inr (all_mem q hn)
theorem Sz.slice {xs ys : List (DataW H)} (h : Sz P t (.slice xs ys)) (ht : P.underlying t = some (.slice e)) : (xs.length + ys.length) * P.bytesOf e ≤ reachBytes ∧ (∀ d ∈ xs, Sz P e d) ∧ ∀ d ∈ ys, Sz P e d := by
  unfold Sz at h
  rw [DataW.weights, ht] at h
  exact ⟨h _ (List.mem_cons_self ..), fun d hd n hn => h n (List.mem_cons_of_mem _ (List.mem_append_left _ (all_mem hd hn))), fun d hd n hn => h n (List.mem_cons_of_mem _ (List.mem_append_right _ (all_mem hd hn)))⟩
theorem Sz.struct {ds : List (DataW H)} {fs : Array Field} (h : Sz P t (.agg ds)) (ht : P.underlying t = some (.struct fs)) {j : Nat} {f : Field} {d : DataW H} (hf : fs[j]? = some f) (hd : ds[j]? = some d) : Sz P f.type d := fun n hn => by
  refine h n ?_
  rw [DataW.weights, ht]
  exact DataW.weights_mem_each (by rw [List.getElem?_map]; simp [hf]) hd n hn
end

/-- a slice of bytes in a cell -/
structure Row (w : World) (c : Value) (xs : List Int) : Prop where
  form : ∃ A cap, c = .slice A xs.length cap ∧ xs.length ≤ cap ∧ cap ≤ maxLen ∧ (A = none → cap = 0) ∧ Rd w w.heap.size A (u8s xs)
  by_ : ∀ n ∈ xs, 0 ≤ n ∧ n ≤ 255
  le : xs.length ≤ 140737488351232
theorem row_of {H : Type} {enc : TypeId × Value → H} {P : Program} {w : World} {base : Nat} {held : Bool} {t e : TypeId} {fuel : Nat} {c : Value} {x : DataW H × List MemPlace} (ht : P.underlying t = some (.slice e)) (he : P.underlying e = some (.int .u8)) (hc : P.cellsOf e = 1) (hb : P.bytesOf e = 1)
    (h : DataW.trod enc P w base (fun _ => true) held fuel t [c] = some x) (hz : Sz P t x.1) : ∃ xs, Row w c xs := by
  rcases open_ints ht he hc h with ⟨hcs, _⟩ | ⟨ad, l, c', zs, hcs, _, hl, hm, hzl, hx, hcell, hwz⟩
  · cases hcs
    exact ⟨[], ⟨none, 0, rfl, Nat.le_refl _, Nat.zero_le _, fun _ => rfl, Rd.nil _ _ _⟩, (fun _ h => absurd h List.not_mem_nil), by simp⟩
  · cases hcs
    have hzl' : zs.length = c' := by simpa using hzl
    have hr : RowOf .u8 w (some ad) l c' zs := .inr ⟨ad, rfl, hl, hm, hzl', hcell, hwz⟩
    obtain ⟨xs, h1, h2, h3, h4, h5⟩ := row_rd hr
    have hd := congrArg Prod.fst hx
    dsimp only at hd
    rw [hd] at hz
    have hw := (hz.slice ht).1
    rw [hb] at hw
    simp only [lits, List.length_map, List.length_take, List.length_drop, reachBytes] at hw
    subst h1
    exact ⟨xs, ⟨some ad, c', rfl, h2, h3, (fun e => nomatch e), h4⟩, wf_u8 h5, by omega⟩

/-- rows within a row: an argument of this kind -/
def RowsAt (w : World) (a : Option Addr) (len cap : Nat) (bs : List (List Int)) : Prop :=
  bs.length = len ∧ len ≤ cap ∧ cap ≤ maxLen ∧ ∀ i b, bs[i]? = some b → ∃ ad c, a = some ad ∧ ad.block < w.heap.size ∧ w.cell? (ad.add i) = some c ∧ Row w c b
theorem Row.below {w w' : World} {c : Value} {xs : List Int} (h : Row w c xs) (hb : Below w.heap.size w w') : Row w' c xs := by
  obtain ⟨A, cap, e, h1, h2, h3, h4⟩ := h.form
  exact ⟨⟨A, cap, e, h1, h2, h3, (h4.below hb).more hb.size⟩, h.by_, h.le⟩
theorem RowsAt.below {w w' : World} {a : Option Addr} {len cap : Nat} {bs : List (List Int)} (h : RowsAt w a len cap bs) (hb : Below w.heap.size w w') : RowsAt w' a len cap bs :=
  ⟨h.1, h.2.1, h.2.2.1, fun i b e => by
    obtain ⟨ad, c, q1, q2, q3, q4⟩ := h.2.2.2 i b e
    exact ⟨ad, c, q1, Nat.lt_of_lt_of_le q2 hb.size, (hb.cell (by rw [addr_add_block]; exact q2)).trans q3, q4.below hb⟩⟩
theorem rows_of {H : Type} {enc : TypeId × Value → H} {P : Program} {w : World} {base : Nat} {held : Bool} {t e q : TypeId} {fuel : Nat} {a : Option Addr} {len cap : Nat} {x : DataW H × List MemPlace} (ht : P.underlying t = some (.slice e)) (he : P.underlying e = some (.slice q)) (hq : P.underlying q = some (.int .u8))
    (ce : P.cellsOf e = 1) (cq : P.cellsOf q = 1) (bq : P.bytesOf q = 1) (h : DataW.trod enc P w base (fun _ => true) held fuel t (Value.slice a len cap).cells.toList = some x) (hz : Sz P t x.1) : ∃ bs, RowsAt w a len cap bs := by
  rcases Go.Deep.open_slice1 ht ce h with ⟨hcs, _⟩ | ⟨ad, l, c, m, n, V, D, Pl, hcs, _, hl, hm, hmm, hx, hi⟩
  · simp [Value.cells] at hcs
    obtain ⟨rfl, rfl, rfl⟩ := hcs
    exact ⟨[], rfl, Nat.le_refl _, Nat.zero_le _, fun i b h => by simp at h⟩
  · simp [Value.cells] at hcs
    obtain ⟨rfl, rfl, rfl⟩ := hcs
    simp only [if_true] at hmm
    have hmm' := hmm.symm
    subst hmm'
    rw [hx] at hz
    have each : ∀ i, i < len → ∃ b, Row w (V i) b := fun i hlt => row_of he hq cq bq (hi i (by omega)).2 ((hz.slice ht).2.1 (D i) (List.mem_map_of_mem (List.mem_range.2 hlt)))
    obtain ⟨y, hy⟩ := Go.Deep.choose_lt each
    refine ⟨(List.range len).map y, by simp, hl, hm, fun i b hb => ?_⟩
    have hlt : i < len := by
      have := (List.getElem?_eq_some_iff.1 hb).1
      simpa using this
    rw [List.getElem?_map, List.getElem?_range hlt] at hb
    simp only [Option.map_some, Option.some.injEq] at hb
    subst hb
    have hc := (hi i (by omega)).1
    have hbk := World.block_lt_of_cell? w _ hc
    rw [addr_add_block] at hbk
    exact ⟨ad, V i, rfl, hbk, hc, hy i hlt⟩
end Go.Proofs.Ytceleihfdpgpiaa.Kz
