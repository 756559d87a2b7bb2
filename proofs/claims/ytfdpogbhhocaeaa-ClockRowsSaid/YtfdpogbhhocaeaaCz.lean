/- Steps that came as an argument, as the walks take them. -/
import Derived.Test.YtfdpogbhhocaeaaCa
import Derived.Deep.Fields
import Derived.Deep.Matrix
namespace Go.Proofs.Ytfdpogbhhocaeaa
open Go.ChangeShapes Go.WideShapes Go.RowKit

def StsAt (w : World) (a : Option Addr) (len cap : Nat) (l : List (Int × Int)) : Prop :=
  l.length = len ∧ len ≤ cap ∧ cap ≤ maxLen ∧ Wl l ∧ Rd w w.heap.size a (svs l)

theorem step_of {H : Type} {enc : TypeId × Value → H} {w : World} {base fuel : Nat} {held : Bool} {ad : Addr} {i : Nat} {cs : List Value} {y : DataW H × List MemPlace} (hc : w.cells? base (ad.add (i * 2)) 2 = some cs) (h : DataW.trod enc Try.prog w base (fun _ => true) held fuel 30 cs = some y) :
    ∃ p : Int × Int, (in64 p.1 ∧ in64 p.2) ∧ ad.block < w.heap.size ∧ w.cell? (ad.add (i * 2)) = some (.int .i64 p.1) ∧ w.cell? (ad.add (i * 2 + 1)) = some (.int .i64 p.2) := by
  obtain ⟨_, hlen, hat⟩ := World.cells?_some hc
  have hu := Try.underlying30
  match cs, hlen with
  | [v0, v1], _ =>
    obtain ⟨xs, m, _, -, _, hl, hg⟩ := DataW.trod_struct hu h
    have oi : Try.prog.cellsOf 3 = 1 := by kernel_rfl
    have on : Try.prog.cellsOf 2 = 1 := by kernel_rfl
    match xs, hl with
    | [y0, y1], _ =>
      have g0 : DataW.trod enc Try.prog w base (fun _ => true) held m 3 [v0] = some y0 := by simpa [Value.cells, oi] using hg 0 _ rfl
      have g1 : DataW.trod enc Try.prog w base (fun _ => true) held m 2 [v1] = some y1 := by simpa [Value.cells, oi, on] using hg 1 _ rfl
      obtain ⟨a0, e0, -, w0⟩ := DataW.trod_int Try.underlying3 g0
      obtain ⟨a1, e1, -, w1⟩ := DataW.trod_int Try.underlying2 g1
      cases e0; cases e1
      have c0 := hat 0 (by omega)
      have c1 := hat 1 (by omega)
      rw [Addr.add_zero'] at c0
      rw [addr_add_add] at c1
      have hb := World.block_lt_of_cell? w _ c0
      rw [addr_add_block] at hb
      exact ⟨(a0, a1), ⟨wf_i64 w0, wf_i64 w1⟩, hb, c0, c1⟩

theorem svs_at {l : List (Int × Int)} {j : Nat} {u : Value} (h : (svs l)[j]? = some u) : ∃ p, l[j / 2]? = some p ∧ (j % 2 = 0 → u = .int .i64 p.1) ∧ (j % 2 = 1 → u = .int .i64 p.2) := by
  have hj : j < l.length * 2 := by have := (List.getElem?_eq_some_iff.1 h).1; rwa [svs_len] at this
  obtain ⟨p, hp⟩ : ∃ p, l[j / 2]? = some p := ⟨l[j / 2]'(by omega), List.getElem?_eq_getElem _⟩
  refine ⟨p, hp, fun e => ?_, fun e => ?_⟩
  · have := svs_get hp 0 _ rfl
    rw [show j / 2 * 2 + 0 = j by omega, h] at this
    exact Option.some.inj this
  · have := svs_get hp 1 _ rfl
    rw [show j / 2 * 2 + 1 = j by omega, h] at this
    exact Option.some.inj this

theorem steps_of {H : Type} {enc : TypeId × Value → H} {w : World} {base fuel : Nat} {held : Bool} {a : Option Addr} {len cap : Nat} {x : DataW H × List MemPlace} (h : DataW.trod enc Try.prog w base (fun _ => true) held fuel 22 (Value.slice a len cap).cells.toList = some x) :
    ∃ l, StsAt w a len cap l := by
  have hC : Try.prog.cellsOf 30 = 2 := by kernel_rfl
  have hT := Try.underlying22
  rcases Go.Deep.open_slice hT h with ⟨hcs, _⟩ | ⟨ad, l, c, m, n, D, Pl, hcs, _, hl, hm, hmm, -, hi⟩
  · simp [Value.cells] at hcs
    obtain ⟨rfl, rfl, rfl⟩ := hcs
    exact ⟨[], rfl, Nat.le_refl _, Nat.zero_le _, (fun p hp => by cases hp), Rd.nil _ _ _⟩
  · simp [Value.cells] at hcs
    obtain ⟨rfl, rfl, rfl⟩ := hcs
    simp only [if_true] at hmm
    subst hmm
    have each : ∀ i, i < len → ∃ p : Int × Int, (in64 p.1 ∧ in64 p.2) ∧ ad.block < w.heap.size ∧ w.cell? (ad.add (i * 2)) = some (.int .i64 p.1) ∧ w.cell? (ad.add (i * 2 + 1)) = some (.int .i64 p.2) := fun i hlt => by
      obtain ⟨cs', q1, q2⟩ := hi i (by omega)
      rw [hC] at q1
      exact step_of q1 q2
    haveI : Inhabited (Int × Int) := ⟨(0, 0)⟩
    obtain ⟨y, hy⟩ := Go.Deep.choose_lt each
    refine ⟨(List.range len).map y, by simp, hl, hm, fun p hp => ?_, fun j u hj => ?_⟩
    · obtain ⟨i, hi, rfl⟩ := List.mem_map.1 hp
      exact (hy i (List.mem_range.1 hi)).1
    · obtain ⟨p, hp, e0, e1⟩ := svs_at hj
      have hlt : j / 2 < len := by
        have := (List.getElem?_eq_some_iff.1 hp).1
        simpa using this
      rw [List.getElem?_map, List.getElem?_range hlt] at hp
      simp only [Option.map_some, Option.some.injEq] at hp
      obtain ⟨-, hb, c0, c1⟩ := hy _ hlt
      rw [hp] at c0 c1
      refine ⟨ad, rfl, hb, ?_⟩
      by_cases ev : j % 2 = 0
      · rw [e0 ev, ← c0, show j / 2 * 2 = j by omega]
      · rw [e1 (by omega), ← c1, show j / 2 * 2 + 1 = j by omega]
end Go.Proofs.Ytfdpogbhhocaeaa
