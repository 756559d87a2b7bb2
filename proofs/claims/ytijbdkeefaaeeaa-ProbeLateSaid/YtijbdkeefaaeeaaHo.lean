/- What came as an argument. -/
import Derived.Test.YtijbdkeefaaeeaaKitX
import Derived.Test.YtijbdkeefaaeeaaHm
import Derived.Test.YtijbdkeefaaeeaaBK
import Derived.Deep.Fields
import Derived.Deep.Matrix
namespace Go.Proofs.Ytijbdkeefaaeeaa
open Go.RowKit Go.Shelf Km Kx
open Go.ChangeShapes Go.WideShapes

/-- bools in memory -/
def bvs (l : List Bool) : List Value := l.map Value.bool
theorem bvs_get {l : List Bool} {k : Nat} {g : Bool} (h : l[k]? = some g) : (bvs l)[k]? = some (.bool g) := by unfold bvs; rw [List.getElem?_map, h]; rfl
theorem Rd.bit {w : World} {B : Nat} {A : Option Addr} {l : List Bool} (h : Rd w B A (bvs l)) {k : Nat} {g : Bool} (hk : l[k]? = some g) : ∃ ad, A = some ad ∧ w.cell? (ad.add k) = some (.bool g) := by
  obtain ⟨ad, e, -, hc⟩ := h k _ (bvs_get hk)
  exact ⟨ad, e, hc⟩
def HyAt (y : Value) (h : Hm.Hy) : Prop := y = .agg #[.bool h.up, .int .i64 h.run] ∧ -9223372036854775808 ≤ h.run ∧ h.run ≤ 9223372036854775807
theorem hy_cells {H : Type} {enc : TypeId × Value → H} {w : World} {base : Nat} {held : Bool} {fuel : Nat} {l : List Value} {y : DataW H × List MemPlace} (hsz : l.length = 2) (hf : DataW.trod enc Try.prog w base (fun _ => true) held fuel 23 l = some y) :
    ∃ h : Hm.Hy, l = [.bool h.up, .int .i64 h.run] ∧ -9223372036854775808 ≤ h.run ∧ h.run ≤ 9223372036854775807 := by
  have hu := Try.underlying23
  match l, hsz with
  | [c0, c1], _ =>
    obtain ⟨xs, m, _, hx, _, hlen, hg⟩ := DataW.trod_struct hu hf
    have o3 : Try.prog.cellsOf 3 = 1 := by kernel_rfl
    have o4 : Try.prog.cellsOf 4 = 1 := by kernel_rfl
    match xs, hlen with
    | [y0, y1], _ =>
      have g0 : DataW.trod enc Try.prog w base (fun _ => true) held m 4 [c0] = some y0 := by simpa [Value.cells, o4] using hg 0 _ rfl
      have g1 : DataW.trod enc Try.prog w base (fun _ => true) held m 3 [c1] = some y1 := by simpa [Value.cells, o3] using hg 1 _ rfl
      obtain ⟨a0, e0, -⟩ := DataW.trod_bool Try.underlying4 g0
      obtain ⟨a1, e1, -, w1⟩ := DataW.trod_int Try.underlying3 g1
      cases e0; cases e1
      exact ⟨⟨a0, a1⟩, rfl, wf_i64 w1⟩
theorem hy_open {H : Type} {enc : TypeId × Value → H} {w : World} {base b0 : Nat} {held : Bool} {r : Reach} {v : Value} {d : DataW H} {p : List MemPlace} (hv : Value.okWide Try.prog w r b0 23 v) (h : DataW.Trod enc Try.prog w base (fun _ => true) held 23 v d p) :
    ∃ x : Hm.Hy, v = .agg #[.bool x.up, .int .i64 x.run] ∧ (-9223372036854775808 ≤ x.run ∧ x.run ≤ 9223372036854775807) := by
  obtain ⟨cs, rfl, hsz⟩ := okWide_struct Try.underlying23 hv
  obtain ⟨l⟩ := cs
  have hC : Try.prog.cellsOf 23 = 2 := by kernel_rfl
  obtain ⟨fuel, hf⟩ := h
  obtain ⟨x, rfl, h1⟩ := hy_cells (hsz.trans hC) hf
  exact ⟨x, rfl, h1⟩

def BitsAt (w : World) (a : Option Addr) (len cap : Nat) (l : List Bool) : Prop := l.length = len ∧ len ≤ cap ∧ cap ≤ maxLen ∧ Rd w w.heap.size a (bvs l)
theorem bits_of {H : Type} {enc : TypeId × Value → H} {w : World} {base fuel : Nat} {held : Bool} {a : Option Addr} {len cap : Nat} {x : DataW H × List MemPlace} (h : DataW.trod enc Try.prog w base (fun _ => true) held fuel 36 (Value.slice a len cap).cells.toList = some x) :
    ∃ l, BitsAt w a len cap l := by
  have hC : Try.prog.cellsOf 4 = 1 := by kernel_rfl
  rcases Go.Deep.open_slice Try.underlying36 h with ⟨hcs, _⟩ | ⟨ad, l, c, m, n, D, Pl, hcs, _, hl, hm, hmm, -, hi⟩
  · simp [Value.cells] at hcs
    obtain ⟨rfl, rfl, rfl⟩ := hcs
    exact ⟨[], rfl, Nat.le_refl _, Nat.zero_le _, Rd.nil _ _ _⟩
  · simp [Value.cells] at hcs
    obtain ⟨rfl, rfl, rfl⟩ := hcs
    simp only [if_true] at hmm
    subst hmm
    have each : ∀ i, i < len → ∃ g : Bool, ad.block < w.heap.size ∧ w.cell? (ad.add i) = some (.bool g) := fun i hlt => by
      obtain ⟨cs', q1, q2⟩ := hi i (by omega)
      rw [hC] at q1
      obtain ⟨_, hlen, hat⟩ := World.cells?_some q1
      match cs', hlen with
      | [v0], _ =>
        obtain ⟨g, e, -⟩ := DataW.trod_bool Try.underlying4 q2
        cases e
        have c0 := hat 0 (by omega)
        rw [Nat.mul_one, Addr.add_zero'] at c0
        have hb := World.block_lt_of_cell? w _ c0
        rw [addr_add_block] at hb
        exact ⟨g, hb, c0⟩
    haveI : Inhabited Bool := ⟨false⟩
    obtain ⟨y, hy⟩ := Go.Deep.choose_lt each
    refine ⟨(List.range len).map y, by simp, hl, hm, fun j u hj => ?_⟩
    unfold bvs at hj
    rw [List.getElem?_map] at hj
    have hlt : j < len := by
      cases hq : ((List.range len).map y)[j]? with
      | none => rw [hq] at hj; cases hj
      | some g => have := (List.getElem?_eq_some_iff.1 hq).1; simpa using this
    rw [List.getElem?_map, List.getElem?_range hlt] at hj
    simp only [Option.map_some, Option.some.injEq] at hj
    exact ⟨ad, rfl, (hy j hlt).1, by rw [(hy j hlt).2, hj]⟩
end Go.Proofs.Ytijbdkeefaaeeaa
