/- Slices of bytes that came as an argument, as the walks take them. -/
import Derived.Test.YtgpagddaopgdgaaDoorLRecovers
import Derived.ProofKit
import Derived.OpenShut
import Derived.ChangeOld
import Derived.Deep.DeepHandedRow
import Derived.Deep.Matrix
namespace Go.Proofs.YtgpagddaopgdgaaDoor
open Go.ChangeShapes Go.WideShapes Go.ChangeAt Go.RowKit

/-- the slices that came, as the walk takes them -/
theorem slices_of {H : Type} {enc : TypeId × Value → H} {P : Program} {w : World} {base : Nat} {held : Bool} {t e q : TypeId} {fuel : Nat} {a : Option Addr} {len cap : Nat} {x : DataW H × List MemPlace} (ht : P.underlying t = some (.slice e)) (he : P.underlying e = some (.slice q)) (hq : P.underlying q = some (.int .u8))
    (ce : P.cellsOf e = 1) (cq : P.cellsOf q = 1) (h : DataW.trod enc P w base (fun _ => true) held fuel t (Value.slice a len cap).cells.toList = some x) : SlicesOf w a len cap := by
  rcases Go.Deep.open_int_rows ht he hq ce cq h with ⟨hcs, _⟩ | ⟨ad, l, c, A, L, C, Z, hcs, _, hl, hm, _, hr⟩
  · simp [Value.cells] at hcs
    obtain ⟨rfl, rfl, rfl⟩ := hcs
    exact ⟨[], [], rfl, Nat.le_refl _, Nat.zero_le _, Rd.nil _ _ _, ⟨rfl, fun j v b hv _ => by simp at hv⟩, fun b hb => by cases hb⟩
  · simp [Value.cells] at hcs
    obtain ⟨rfl, rfl, rfl⟩ := hcs
    refine ⟨(List.range len).map fun r => .slice (A r) (L r) (C r), (List.range len).map fun r => (Z r).take (L r), by simp, hl, hm, fun j u hj => ?_, ⟨by simp, fun j v b hv hb => ?_⟩, fun b hb => ?_⟩
    · have hlt : j < len := by
        have := (List.getElem?_eq_some_iff.1 hj).1
        simpa using this
      rw [List.getElem?_map, List.getElem?_range hlt] at hj
      simp only [Option.map_some, Option.some.injEq] at hj
      have hc := (hr j (by omega)).1
      have hb := World.block_lt_of_cell? w _ hc
      rw [addr_add_block] at hb
      exact ⟨ad, rfl, hb, hj ▸ hc⟩
    · have hlt : j < len := by
        have := (List.getElem?_eq_some_iff.1 hv).1
        simpa using this
      rw [List.getElem?_map, List.getElem?_range hlt] at hv hb
      simp only [Option.map_some, Option.some.injEq] at hv hb
      obtain ⟨_, h1, h2, h3, h4, h5, h6⟩ := hr j (by omega)
      have hbl : b.length = L j := by rw [← hb, List.length_take]; omega
      refine ⟨A j, C j, by rw [hbl]; exact hv.symm, by omega, h2, fun i u hi => ?_⟩
      have hil : i < L j := by
        have := (List.getElem?_eq_some_iff.1 hi).1
        rw [List.length_map, hbl] at this
        exact this
      cases hA : A j with
      | none => have := h5 hA; omega
      | some a' =>
        have hc := (h6 a' hA).2 i (by omega)
        have hbk := World.block_lt_of_cell? w _ hc
        rw [addr_add_block] at hbk
        refine ⟨a', rfl, hbk, ?_⟩
        rw [hc, ← hi, ← hb, List.getElem?_map, List.getElem?_take_of_lt hil, List.getElem?_eq_getElem (by omega), List.getD_eq_getElem?_getD, List.getElem?_eq_getElem (by omega)]
        rfl
    · obtain ⟨r, hrr, rfl⟩ := List.mem_map.1 hb
      have hlt : r < len := by simpa using hrr
      exact fun n hn => by
        have := (hr r (by omega)).2.2.2.2.1 n (List.mem_of_mem_take hn)
        simpa [Lit.wf, IntKind.min, IntKind.max, IntKind.signed, IntKind.bits] using this
end Go.Proofs.YtgpagddaopgdgaaDoor
