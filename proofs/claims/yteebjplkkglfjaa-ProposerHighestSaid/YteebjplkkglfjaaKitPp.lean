/- api.Prop as a value: its cells, and as an argument. Written by wip/tools/gstruct.py. -/
import Derived.Test.YteebjplkkglfjaaKitPq
namespace Go.Proofs.Yteebjplkkglfjaa
open Go.ChangeShapes Go.WideShapes Go.ChangeAt Go.RowKit Km Kx Kt

structure Pp where
  e : Int
  b : Int
  ph : Int
  own : Pq
  best : Int
  val : Pq
  pr : Int
  ac : Int
def Pp.cells (x : Pp) : List Value := [.int .i64 x.e, .int .i64 x.b, .int .i64 x.ph] ++ (x.own.cells ++ ([.int .i64 x.best] ++ (x.val.cells ++ ([.int .u64 x.pr, .int .u64 x.ac]))))
theorem Pp.cells_len (x : Pp) : x.cells.length = 30 := rfl
structure Pp.At (w : World) (B : Nat) (x : Pp) : Prop where
  e : Ks.i64in x.e
  b : Ks.i64in x.b
  ph : Ks.i64in x.ph
  own : x.own.At w B
  best : Ks.i64in x.best
  val : x.val.At w B
  pr : Ks.u64in x.pr
  ac : Ks.u64in x.ac
theorem Pp.At.below {w w' : World} {B B' : Nat} {x : Pp} (h : x.At w B) (hb : Below B' w w') (hB : B ≤ B') : x.At w' B := ⟨h.e, h.b, h.ph, h.own.below hb hB, h.best, h.val.below hb hB, h.pr, h.ac⟩
theorem Pp.At.more {w : World} {B B' : Nat} {x : Pp} (h : x.At w B) (hB : B ≤ B') : x.At w B' := ⟨h.e, h.b, h.ph, h.own.more hB, h.best, h.val.more hB, h.pr, h.ac⟩
def Pp.zero : Pp := ⟨0, 0, 0, Pq.zero, 0, Pq.zero, 0, 0⟩
instance : Inhabited Pp := ⟨Pp.zero⟩
theorem Pp.zero_at (w : World) (B : Nat) : Pp.zero.At w B := ⟨⟨by decide, by decide⟩, ⟨by decide, by decide⟩, ⟨by decide, by decide⟩, Pq.zero_at _ _, ⟨by decide, by decide⟩, Pq.zero_at _ _, ⟨by decide, by decide⟩, ⟨by decide, by decide⟩⟩

set_option maxRecDepth 100000 in
theorem Pp_cells {H : Type} {enc : TypeId × Value → H} {w : World} {base : Nat} {held : Bool} {fuel : Nat} {l : List Value} {y : DataW H × List MemPlace} (hsz : l.length = 30) (hf : DataW.trod enc Try.prog w base (fun _ => true) held fuel 28 l = some y) : ∃ x : Pp, l = x.cells ∧ x.At w w.heap.size := by
  have hu := Try.underlying28
  match l, hsz with
  | [c0, c1, c2, c3, c4, c5, c6, c7, c8, c9, c10, c11, c12, c13, c14, c15, c16, c17, c18, c19, c20, c21, c22, c23, c24, c25, c26, c27, c28, c29], _ =>
    obtain ⟨xs, m, _, hx, _, hlen, hg⟩ := DataW.trod_struct hu hf
    have o0 : Try.prog.cellsOf 2 = 1 := by kernel_rfl
    have o1 : Try.prog.cellsOf 3 = 1 := by kernel_rfl
    have o2 : Try.prog.cellsOf 26 = 12 := by kernel_rfl
    have o3 : Try.prog.cellsOf 22 = 1 := by kernel_rfl
    match xs, hlen with
    | [y0, y1, y2, y3, y4, y5, y6, y7], _ =>
      have g0 : DataW.trod enc Try.prog w base (fun _ => true) held m 2 [c0] = some y0 := by simpa [Value.cells, o0] using hg 0 _ rfl
      have g1 : DataW.trod enc Try.prog w base (fun _ => true) held m 2 [c1] = some y1 := by simpa [Value.cells, o0] using hg 1 _ rfl
      have g2 : DataW.trod enc Try.prog w base (fun _ => true) held m 3 [c2] = some y2 := by simpa [Value.cells, o1] using hg 2 _ rfl
      have g3 : DataW.trod enc Try.prog w base (fun _ => true) held m 26 [c3, c4, c5, c6, c7, c8, c9, c10, c11, c12, c13, c14] = some y3 := by simpa [Value.cells, o2] using hg 3 _ rfl
      have g4 : DataW.trod enc Try.prog w base (fun _ => true) held m 2 [c15] = some y4 := by simpa [Value.cells, o0] using hg 4 _ rfl
      have g5 : DataW.trod enc Try.prog w base (fun _ => true) held m 26 [c16, c17, c18, c19, c20, c21, c22, c23, c24, c25, c26, c27] = some y5 := by simpa [Value.cells, o2] using hg 5 _ rfl
      have g6 : DataW.trod enc Try.prog w base (fun _ => true) held m 22 [c28] = some y6 := by simpa [Value.cells, o3] using hg 6 _ rfl
      have g7 : DataW.trod enc Try.prog w base (fun _ => true) held m 22 [c29] = some y7 := by simpa [Value.cells, o3] using hg 7 _ rfl
      obtain ⟨a0, e0, -, w0⟩ := DataW.trod_int Try.underlying2 g0
      obtain ⟨a1, e1, -, w1⟩ := DataW.trod_int Try.underlying2 g1
      obtain ⟨a2, e2, -, w2⟩ := DataW.trod_int Try.underlying3 g2
      obtain ⟨a3, e3, f3⟩ := Pq_cells (l := [c3, c4, c5, c6, c7, c8, c9, c10, c11, c12, c13, c14]) rfl g3
      obtain ⟨a4, e4, -, w4⟩ := DataW.trod_int Try.underlying2 g4
      obtain ⟨a5, e5, f5⟩ := Pq_cells (l := [c16, c17, c18, c19, c20, c21, c22, c23, c24, c25, c26, c27]) rfl g5
      obtain ⟨a6, e6, -, w6⟩ := DataW.trod_int Try.underlying22 g6
      obtain ⟨a7, e7, -, w7⟩ := DataW.trod_int Try.underlying22 g7
      cases e0; cases e1; cases e2; cases e3; cases e4; cases e5; cases e6; cases e7
      exact ⟨⟨a0, a1, a2, a3, a4, a5, a6, a7⟩, rfl, ⟨Ks.i64_of w0, Ks.i64_of w1, Ks.i64_of w2, f3, Ks.i64_of w4, f5, Ks.u64_of w6, Ks.u64_of w7⟩⟩
set_option maxRecDepth 100000 in
theorem Pp_open {H : Type} {enc : TypeId × Value → H} {w : World} {base b0 : Nat} {held : Bool} {r : Reach} {v : Value} {d : DataW H} {p : List MemPlace} (hv : Value.okWide Try.prog w r b0 28 v) (h : DataW.Trod enc Try.prog w base (fun _ => true) held 28 v d p) : ∃ x : Pp, v = .agg x.cells.toArray ∧ x.At w w.heap.size := by
  obtain ⟨cs, rfl, hsz⟩ := okWide_struct Try.underlying28 hv
  obtain ⟨l⟩ := cs
  have hC : Try.prog.cellsOf 28 = 30 := by kernel_rfl
  obtain ⟨fuel, hf⟩ := h
  obtain ⟨x, rfl, hx⟩ := Pp_cells (l := l) (hsz.trans hC) hf
  exact ⟨x, rfl, hx⟩
end Go.Proofs.Yteebjplkkglfjaa
