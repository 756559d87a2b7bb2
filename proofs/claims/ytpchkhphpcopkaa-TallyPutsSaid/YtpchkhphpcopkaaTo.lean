/- Votes, and one vote, that came as an argument, as the walks take them. -/
import Derived.Test.YtpchkhphpcopkaaTa
import Derived.Test.YtpchkhphpcopkaaBK
import Derived.Deep.Fields
import Derived.Deep.Matrix
namespace Go.Proofs.Ytpchkhphpcopkaa
open Go.ChangeShapes Go.WideShapes Go.RowKit

def VtsAt (w : World) (a : Option Addr) (len cap : Nat) (l : List Tm.Vt) : Prop :=
  l.length = len ∧ len ≤ cap ∧ cap ≤ maxLen ∧ Wl l ∧ Rd w w.heap.size a (vvs l)

theorem wf_u64 {a : Int} (h : (Lit.int .u64 a).wf = true) : 0 ≤ a ∧ a < 18446744073709551616 := by
  have h1 : IntKind.u64.min = 0 := rfl
  have h2 : IntKind.u64.max = 18446744073709551615 := rfl
  simp [Lit.wf, h1, h2] at h
  omega
theorem vt_cells {H : Type} {enc : TypeId × Value → H} {w : World} {base : Nat} {held : Bool} {fuel : Nat} {l : List Value} {y : DataW H × List MemPlace} (hsz : l.length = 3) (hf : DataW.trod enc Try.prog w base (fun _ => true) held fuel 25 l = some y) :
    ∃ v : Tm.Vt, l = vv v ∧ Wv v := by
  have hu := Try.underlying25
  match l, hsz with
  | [c0, c1, c2], _ =>
    obtain ⟨xs, m, _, hx, _, hlen, hg⟩ := DataW.trod_struct hu hf
    have oi : Try.prog.cellsOf 3 = 1 := by kernel_rfl
    have ou : Try.prog.cellsOf 23 = 1 := by kernel_rfl
    have ol : Try.prog.cellsOf 2 = 1 := by kernel_rfl
    match xs, hlen with
    | [y0, y1, y2], _ =>
      have g0 : DataW.trod enc Try.prog w base (fun _ => true) held m 3 [c0] = some y0 := by simpa [Value.cells, oi] using hg 0 _ rfl
      have g1 : DataW.trod enc Try.prog w base (fun _ => true) held m 23 [c1] = some y1 := by simpa [Value.cells, ou] using hg 1 _ rfl
      have g2 : DataW.trod enc Try.prog w base (fun _ => true) held m 2 [c2] = some y2 := by simpa [Value.cells, ol] using hg 2 _ rfl
      obtain ⟨a0, e0, -, w0⟩ := DataW.trod_int Try.underlying3 g0
      obtain ⟨a1, e1, -, w1⟩ := DataW.trod_int Try.underlying23 g1
      obtain ⟨a2, e2, -, w2⟩ := DataW.trod_int Try.underlying2 g2
      cases e0; cases e1; cases e2
      obtain ⟨p1, q1⟩ := wf_u64 w1
      obtain ⟨u, rfl⟩ : ∃ u : Nat, a1 = (u : Int) := ⟨a1.toNat, by omega⟩
      exact ⟨⟨a0, u, a2⟩, rfl, wf_i64 w0, by show u < _; omega, wf_i64 w2⟩
theorem vt_open {H : Type} {enc : TypeId × Value → H} {w : World} {base b0 : Nat} {held : Bool} {r : Reach} {v : Value} {d : DataW H} {p : List MemPlace} (hv : Value.okWide Try.prog w r b0 25 v) (h : DataW.Trod enc Try.prog w base (fun _ => true) held 25 v d p) :
    ∃ x : Tm.Vt, v = .agg (vv x).toArray ∧ Wv x := by
  obtain ⟨cs, rfl, hsz⟩ := okWide_struct Try.underlying25 hv
  obtain ⟨l⟩ := cs
  have hC : Try.prog.cellsOf 25 = 3 := by kernel_rfl
  obtain ⟨fuel, hf⟩ := h
  obtain ⟨x, rfl, h1⟩ := vt_cells (hsz.trans hC) hf
  exact ⟨x, rfl, h1⟩
theorem vvs_at {l : List Tm.Vt} {j : Nat} {u : Value} (h : (vvs l)[j]? = some u) : ∃ v, l[j / 3]? = some v ∧ (vv v)[j % 3]? = some u := by
  have hj : j < l.length * 3 := by have := (List.getElem?_eq_some_iff.1 h).1; rwa [vvs_len] at this
  obtain ⟨v, hv⟩ : ∃ v, l[j / 3]? = some v := ⟨l[j / 3]'(by omega), List.getElem?_eq_getElem _⟩
  refine ⟨v, hv, ?_⟩
  obtain ⟨x, hx⟩ : ∃ x, (vv v)[j % 3]? = some x := ⟨(vv v)[j % 3]'(by show j % 3 < 3; omega), List.getElem?_eq_getElem _⟩
  have := vvs_get hv (j % 3) x hx
  rw [show j / 3 * 3 + j % 3 = j by omega, h] at this
  rw [hx, this]
theorem votes_of {H : Type} {enc : TypeId × Value → H} {w : World} {base fuel : Nat} {held : Bool} {a : Option Addr} {len cap : Nat} {x : DataW H × List MemPlace} (h : DataW.trod enc Try.prog w base (fun _ => true) held fuel 22 (Value.slice a len cap).cells.toList = some x) :
    ∃ l, VtsAt w a len cap l := by
  have hC : Try.prog.cellsOf 25 = 3 := by kernel_rfl
  have hT := Try.underlying22
  rcases Go.Deep.open_slice hT h with ⟨hcs, _⟩ | ⟨ad, l, c, m, n, D, Pl, hcs, _, hl, hm, hmm, -, hi⟩
  · simp [Value.cells] at hcs
    obtain ⟨rfl, rfl, rfl⟩ := hcs
    exact ⟨[], rfl, Nat.le_refl _, Nat.zero_le _, (fun p hp => by cases hp), Rd.nil _ _ _⟩
  · simp [Value.cells] at hcs
    obtain ⟨rfl, rfl, rfl⟩ := hcs
    simp only [if_true] at hmm
    subst hmm
    have each : ∀ i, i < len → ∃ v : Tm.Vt, Wv v ∧ ad.block < w.heap.size ∧ ∀ j u, (vv v)[j]? = some u → w.cell? (ad.add (i * 3 + j)) = some u := fun i hlt => by
      obtain ⟨cs', q1, q2⟩ := hi i (by omega)
      rw [hC] at q1
      obtain ⟨_, hlen, hat⟩ := World.cells?_some q1
      obtain ⟨v, rfl, hv⟩ := vt_cells hlen q2
      have hc : ∀ j u, (vv v)[j]? = some u → w.cell? (ad.add (i * 3 + j)) = some u := fun j u hj => by
        have hlt3 : j < 3 := (List.getElem?_eq_some_iff.1 hj).1
        have := hat j (by omega)
        rw [addr_add_add] at this
        obtain ⟨hh, e⟩ := List.getElem?_eq_some_iff.1 hj
        rw [this, ← e]
        exact List.getElem?_eq_getElem hh
      have h0 := World.block_lt_of_cell? w _ (hc 0 _ rfl)
      rw [addr_add_block] at h0
      exact ⟨v, hv, h0, hc⟩
    haveI : Inhabited Tm.Vt := ⟨⟨0, 0, 0⟩⟩
    obtain ⟨y, hy⟩ := Go.Deep.choose_lt each
    refine ⟨(List.range len).map y, by simp, hl, hm, fun p hp => ?_, fun j u hj => ?_⟩
    · obtain ⟨i, hi, rfl⟩ := List.mem_map.1 hp
      exact (hy i (List.mem_range.1 hi)).1
    · obtain ⟨v, hv, e⟩ := vvs_at hj
      have hlt : j / 3 < len := by
        have := (List.getElem?_eq_some_iff.1 hv).1
        simpa using this
      rw [List.getElem?_map, List.getElem?_range hlt] at hv
      simp only [Option.map_some, Option.some.injEq] at hv
      obtain ⟨-, hb, hc⟩ := hy _ hlt
      rw [hv] at hc
      refine ⟨ad, rfl, hb, ?_⟩
      have := hc _ _ e
      rwa [show j / 3 * 3 + j % 3 = j by omega] at this
end Go.Proofs.Ytpchkhphpcopkaa
