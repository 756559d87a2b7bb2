/- Calls of a journal that came as an argument, as the walks take them. -/
import Derived.Test.YtgpagddaopgdgaaDoorJs
import Derived.ProofKit
import Derived.OpenShut
import Derived.ChangeOld
import Derived.Deep.DeepHandedRow
namespace Go.Proofs.YtgpagddaopgdgaaDoor
open Go.ChangeShapes Go.WideShapes Go.ChangeAt Go.RowKit

theorem row_cell {H : Type} {enc : TypeId × Value → H} {P : Program} {w : World} {base : Nat} {held : Bool} {t e : TypeId} {fuel : Nat} {c : Value} {x : DataW H × List MemPlace} (ht : P.underlying t = some (.slice e)) (he : P.underlying e = some (.int .u8)) (hc : P.cellsOf e = 1)
    (h : DataW.trod enc P w base (fun _ => true) held fuel t [c] = some x) : ∃ (A : Option Addr) (n cap : Nat) (xs : List Int), c = .slice A n cap ∧ Rd w w.heap.size A (u8s xs) ∧ xs.length = n ∧ n ≤ cap ∧ cap ≤ maxLen ∧ Fm.By xs := by
  rcases open_ints ht he hc h with ⟨hcs, _⟩ | ⟨ad, l, c', zs, hcs, _, hl, hm, hz, hx, hcell, hwz⟩
  · cases hcs
    exact ⟨none, 0, 0, [], rfl, Rd.nil _ _ _, rfl, Nat.le_refl _, Nat.zero_le _, (fun _ h => absurd h List.not_mem_nil)⟩
  · cases hcs
    have hr : RowOf .u8 w (some ad) l c' zs := .inr ⟨ad, rfl, hl, hm, by simpa using hz, hcell, hwz⟩
    obtain ⟨xs, h1, h2, h3, h4, h5⟩ := row_rd hr
    exact ⟨some ad, l, c', xs, rfl, h4, h1, h2, h3, wf_u8 h5⟩

/-- one call's four cells -/
theorem call_of {H : Type} {enc : TypeId × Value → H} {w : World} {base fuel : Nat} {held : Bool} {ad : Addr} {i : Nat} {cs : List Value} {y : DataW H × List MemPlace} (hc : w.cells? base (ad.add (i * 4)) 4 = some cs) (h : DataW.trod enc Tryd.prog w base (fun _ => true) held fuel 31 cs = some y) :
    ∃ o A c, ClAt w w.heap.size ad i o A c := by
  obtain ⟨_, hlen, hat⟩ := World.cells?_some hc
  have hu := Tryd.underlying31
  match cs, hlen with
  | [v0, v1, v2, v3], _ =>
    obtain ⟨xs, m, _, hx, _, hl, hg⟩ := DataW.trod_struct hu h
    have oi : Tryd.prog.cellsOf 3 = 1 := by kernel_rfl
    have ou : Tryd.prog.cellsOf 5 = 1 := by kernel_rfl
    have ob : Tryd.prog.cellsOf 29 = 1 := by kernel_rfl
    match xs, hl with
    | [y0, y1, y2, y3], _ =>
      have g0 : DataW.trod enc Tryd.prog w base (fun _ => true) held m 3 [v0] = some y0 := by simpa [Value.cells, oi] using hg 0 _ rfl
      have g1 : DataW.trod enc Tryd.prog w base (fun _ => true) held m 5 [v1] = some y1 := by simpa [Value.cells, ou] using hg 1 _ rfl
      have g2 : DataW.trod enc Tryd.prog w base (fun _ => true) held m 29 [v2] = some y2 := by simpa [Value.cells, ob] using hg 2 _ rfl
      have g3 : DataW.trod enc Tryd.prog w base (fun _ => true) held m 3 [v3] = some y3 := by simpa [Value.cells, oi] using hg 3 _ rfl
      obtain ⟨a0, e0, -, w0⟩ := DataW.trod_int Tryd.underlying3 g0
      obtain ⟨a1, e1, -, w1⟩ := DataW.trod_int Tryd.underlying5 g1
      obtain ⟨a3, e3, -, w3⟩ := DataW.trod_int Tryd.underlying3 g3
      obtain ⟨A, n, c, bs, rfl, r2, l2, q2, m2, f2⟩ := row_cell Tryd.underlying29 Tryd.underlying5 ou g2
      cases e0; cases e1; cases e3
      subst l2
      have c0 := hat 0 (by omega)
      have c1 := hat 1 (by omega)
      have c2 := hat 2 (by omega)
      have c3 := hat 3 (by omega)
      rw [Addr.add_zero'] at c0
      rw [Addr.add_succ'] at c1 c2 c3
      have hb := World.block_lt_of_cell? w _ c0
      rw [addr_add_block] at hb
      have b1 : 0 ≤ a1 ∧ a1 ≤ 255 := by simpa [Lit.wf, IntKind.min, IntKind.max, IntKind.signed, IntKind.bits] using w1
      exact ⟨⟨a0, a1, bs, a3⟩, A, c, hb, c0, c1, c2, c3, r2, q2, m2, f2, b1, wf_i64 w0, wf_i64 w3⟩

theorem cls_of {H : Type} {enc : TypeId × Value → H} {w : World} {base fuel : Nat} {held : Bool} {a : Option Addr} {len cap : Nat} {x : DataW H × List MemPlace} (h : DataW.trod enc Tryd.prog w base (fun _ => true) held fuel 22 (Value.slice a len cap).cells.toList = some x) :
    ∃ os, ClsAt w w.heap.size a len cap os := by
  have hC : Tryd.prog.cellsOf 31 = 4 := by kernel_rfl
  rcases Go.Deep.open_slice Tryd.underlying22 h with ⟨hcs, _⟩ | ⟨ad, l, c, m, n, D, Pl, hcs, _, hl, hm, hmm, _, hi⟩
  · simp [Value.cells] at hcs
    obtain ⟨rfl, rfl, rfl⟩ := hcs
    exact ⟨[], rfl, Nat.le_refl _, Nat.zero_le _, fun i o h => by simp at h⟩
  · simp [Value.cells] at hcs
    obtain ⟨rfl, rfl, rfl⟩ := hcs
    simp only [if_true] at hmm
    subst hmm
    have each : ∀ i, i < len → ∃ y : Cl × Option Addr × Nat, ClAt w w.heap.size ad i y.1 y.2.1 y.2.2 := fun i hlt => by
      obtain ⟨cs', q1, q2⟩ := hi i (by omega)
      rw [hC] at q1
      obtain ⟨o, A, c, q3⟩ := call_of q1 q2
      exact ⟨⟨o, A, c⟩, q3⟩
    haveI : Inhabited Cl := ⟨⟨0, 0, [], 0⟩⟩
    obtain ⟨y, hy⟩ := Go.Deep.choose_lt each
    refine ⟨(List.range len).map fun i => (y i).1, by simp, hl, hm, fun i o ho => ?_⟩
    have hlt : i < len := by
      have := (List.getElem?_eq_some_iff.1 ho).1
      simpa using this
    rw [List.getElem?_map, List.getElem?_range hlt] at ho
    simp only [Option.map_some, Option.some.injEq] at ho
    subst ho
    exact ⟨ad, _, _, rfl, hy i hlt⟩
end Go.Proofs.YtgpagddaopgdgaaDoor
