/- api.Hold as a value: its cells, and as an argument. Written by wip/tools/gstruct.py. -/
import Derived.Test.YtponpgcpmlcdpaaKitSl
set_option linter.unusedVariables false
namespace Go.Proofs.Ytponpgcpmlcdpaa
open Go.ChangeShapes Go.WideShapes Go.ChangeAt Go.RowKit Km Kx Kt

structure Ho where
  e : Int
  n : Int
  g : Int
  u : Int
def Ho.cells (x : Ho) : List Value := [.int .i64 x.e, .int .i64 x.n, .int .u64 x.g, .int .i64 x.u]
theorem Ho.cells_len (x : Ho) : x.cells.length = 4 := rfl
structure Ho.At (w : World) (B : Nat) (x : Ho) : Prop where
  e : Ks.i64in x.e
  n : Ks.i64in x.n
  g : Ks.u64in x.g
  u : Ks.i64in x.u
theorem Ho.At.below {w w' : World} {B B' : Nat} {x : Ho} (h : x.At w B) (hb : Below B' w w') (hB : B ≤ B') : x.At w' B := ⟨h.e, h.n, h.g, h.u⟩
theorem Ho.At.more {w : World} {B B' : Nat} {x : Ho} (h : x.At w B) (hB : B ≤ B') : x.At w B' := ⟨h.e, h.n, h.g, h.u⟩
def Ho.zero : Ho := ⟨0, 0, 0, 0⟩
instance : Inhabited Ho := ⟨Ho.zero⟩
theorem Ho.zero_at (w : World) (B : Nat) : Ho.zero.At w B := ⟨⟨by decide, by decide⟩, ⟨by decide, by decide⟩, ⟨by decide, by decide⟩, ⟨by decide, by decide⟩⟩

set_option maxRecDepth 100000 in
theorem Ho_cells {H : Type} {enc : TypeId × Value → H} {w : World} {base : Nat} {held : Bool} {fuel : Nat} {l : List Value} {y : DataW H × List MemPlace} (hsz : l.length = 4) (hf : DataW.trod enc Try.prog w base (fun _ => true) held fuel 24 l = some y) : ∃ x : Ho, l = x.cells ∧ x.At w w.heap.size := by
  have hu := Try.underlying24
  match l, hsz with
  | [c0, c1, c2, c3], _ =>
    obtain ⟨xs, m, _, hx, _, hlen, hg⟩ := DataW.trod_struct hu hf
    have o0 : Try.prog.cellsOf 2 = 1 := by kernel_rfl
    have o1 : Try.prog.cellsOf 22 = 1 := by kernel_rfl
    match xs, hlen with
    | [y0, y1, y2, y3], _ =>
      have g0 : DataW.trod enc Try.prog w base (fun _ => true) held m 2 [c0] = some y0 := by simpa [Value.cells, o0] using hg 0 _ rfl
      have g1 : DataW.trod enc Try.prog w base (fun _ => true) held m 2 [c1] = some y1 := by simpa [Value.cells, o0] using hg 1 _ rfl
      have g2 : DataW.trod enc Try.prog w base (fun _ => true) held m 22 [c2] = some y2 := by simpa [Value.cells, o1] using hg 2 _ rfl
      have g3 : DataW.trod enc Try.prog w base (fun _ => true) held m 2 [c3] = some y3 := by simpa [Value.cells, o0] using hg 3 _ rfl
      obtain ⟨a0, e0, -, w0⟩ := DataW.trod_int Try.underlying2 g0
      obtain ⟨a1, e1, -, w1⟩ := DataW.trod_int Try.underlying2 g1
      obtain ⟨a2, e2, -, w2⟩ := DataW.trod_int Try.underlying22 g2
      obtain ⟨a3, e3, -, w3⟩ := DataW.trod_int Try.underlying2 g3
      cases e0; cases e1; cases e2; cases e3
      exact ⟨⟨a0, a1, a2, a3⟩, rfl, ⟨Ks.i64_of w0, Ks.i64_of w1, Ks.u64_of w2, Ks.i64_of w3⟩⟩
set_option maxRecDepth 100000 in
theorem Ho_open {H : Type} {enc : TypeId × Value → H} {w : World} {base b0 : Nat} {held : Bool} {r : Reach} {v : Value} {d : DataW H} {p : List MemPlace} (hv : Value.okWide Try.prog w r b0 24 v) (h : DataW.Trod enc Try.prog w base (fun _ => true) held 24 v d p) : ∃ x : Ho, v = .agg x.cells.toArray ∧ x.At w w.heap.size := by
  obtain ⟨cs, rfl, hsz⟩ := okWide_struct Try.underlying24 hv
  obtain ⟨l⟩ := cs
  have hC : Try.prog.cellsOf 24 = 4 := by kernel_rfl
  obtain ⟨fuel, hf⟩ := h
  obtain ⟨x, rfl, hx⟩ := Ho_cells (l := l) (hsz.trans hC) hf
  exact ⟨x, rfl, hx⟩
end Go.Proofs.Ytponpgcpmlcdpaa
