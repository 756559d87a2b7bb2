/- api.Msg as a value: its cells, and as an argument. Written by wip/tools/gstruct.py. -/
import Derived.Test.YtponpgcpmlcdpaaKitPq
namespace Go.Proofs.Ytponpgcpmlcdpaa
open Go.ChangeShapes Go.WideShapes Go.ChangeAt Go.RowKit Km Kx Kt

structure Mg where
  k : Int
  f : Int
  t : Int
  e : Int
  b : Int
  a : Int
  n : Int
  ti : Int
  up : Int
  co : Int
  has : Bool
  pl : Pq
  id : Ks.Sl
  se : Ks.Sl
  pa : Ks.Sl
def Mg.cells (x : Mg) : List Value := [.int .i64 x.k, .int .i64 x.f, .int .i64 x.t, .int .i64 x.e, .int .i64 x.b, .int .i64 x.a, .int .i64 x.n, .int .i64 x.ti, .int .u64 x.up, .int .i64 x.co, .bool x.has] ++ (x.pl.cells ++ ([x.id.val, x.se.val, x.pa.val]))
theorem Mg.cells_len (x : Mg) : x.cells.length = 26 := rfl
structure Mg.At (w : World) (B : Nat) (x : Mg) : Prop where
  k : Ks.i64in x.k
  f : Ks.i64in x.f
  t : Ks.i64in x.t
  e : Ks.i64in x.e
  b : Ks.i64in x.b
  a : Ks.i64in x.a
  n : Ks.i64in x.n
  ti : Ks.i64in x.ti
  up : Ks.u64in x.up
  co : Ks.i64in x.co
  pl : x.pl.At w B
  id : x.id.At .i64 w B
  se : x.se.At .u8 w B
  pa : x.pa.At .u8 w B
theorem Mg.At.below {w w' : World} {B B' : Nat} {x : Mg} (h : x.At w B) (hb : Below B' w w') (hB : B ≤ B') : x.At w' B := ⟨h.k, h.f, h.t, h.e, h.b, h.a, h.n, h.ti, h.up, h.co, h.pl.below hb hB, h.id.below hb hB, h.se.below hb hB, h.pa.below hb hB⟩
theorem Mg.At.more {w : World} {B B' : Nat} {x : Mg} (h : x.At w B) (hB : B ≤ B') : x.At w B' := ⟨h.k, h.f, h.t, h.e, h.b, h.a, h.n, h.ti, h.up, h.co, h.pl.more hB, h.id.more hB, h.se.more hB, h.pa.more hB⟩
def Mg.zero : Mg := ⟨0, 0, 0, 0, 0, 0, 0, 0, 0, 0, false, Pq.zero, Ks.Sl.nil, Ks.Sl.nil, Ks.Sl.nil⟩
instance : Inhabited Mg := ⟨Mg.zero⟩
theorem Mg.zero_at (w : World) (B : Nat) : Mg.zero.At w B := ⟨⟨by decide, by decide⟩, ⟨by decide, by decide⟩, ⟨by decide, by decide⟩, ⟨by decide, by decide⟩, ⟨by decide, by decide⟩, ⟨by decide, by decide⟩, ⟨by decide, by decide⟩, ⟨by decide, by decide⟩, ⟨by decide, by decide⟩, ⟨by decide, by decide⟩, Pq.zero_at _ _, Ks.Sl.nil_at _ _ _, Ks.Sl.nil_at _ _ _, Ks.Sl.nil_at _ _ _⟩

set_option maxRecDepth 100000 in
theorem Mg_cells {H : Type} {enc : TypeId × Value → H} {w : World} {base : Nat} {held : Bool} {fuel : Nat} {l : List Value} {y : DataW H × List MemPlace} (hsz : l.length = 26) (hf : DataW.trod enc Try.prog w base (fun _ => true) held fuel 34 l = some y) : ∃ x : Mg, l = x.cells ∧ x.At w w.heap.size := by
  have hu := Try.underlying34
  match l, hsz with
  | [c0, c1, c2, c3, c4, c5, c6, c7, c8, c9, c10, c11, c12, c13, c14, c15, c16, c17, c18, c19, c20, c21, c22, c23, c24, c25], _ =>
    obtain ⟨xs, m, _, hx, _, hlen, hg⟩ := DataW.trod_struct hu hf
    have o0 : Try.prog.cellsOf 28 = 1 := by kernel_rfl
    have o1 : Try.prog.cellsOf 3 = 1 := by kernel_rfl
    have o2 : Try.prog.cellsOf 2 = 1 := by kernel_rfl
    have o3 : Try.prog.cellsOf 22 = 1 := by kernel_rfl
    have o4 : Try.prog.cellsOf 4 = 1 := by kernel_rfl
    have o5 : Try.prog.cellsOf 31 = 12 := by kernel_rfl
    have o6 : Try.prog.cellsOf 29 = 1 := by kernel_rfl
    have o7 : Try.prog.cellsOf 32 = 1 := by kernel_rfl
    have o8 : Try.prog.cellsOf 5 = 1 := by kernel_rfl
    match xs, hlen with
    | [y0, y1, y2, y3, y4, y5, y6, y7, y8, y9, y10, y11, y12, y13, y14], _ =>
      have g0 : DataW.trod enc Try.prog w base (fun _ => true) held m 28 [c0] = some y0 := by simpa [Value.cells, o0] using hg 0 _ rfl
      have g1 : DataW.trod enc Try.prog w base (fun _ => true) held m 3 [c1] = some y1 := by simpa [Value.cells, o1] using hg 1 _ rfl
      have g2 : DataW.trod enc Try.prog w base (fun _ => true) held m 3 [c2] = some y2 := by simpa [Value.cells, o1] using hg 2 _ rfl
      have g3 : DataW.trod enc Try.prog w base (fun _ => true) held m 2 [c3] = some y3 := by simpa [Value.cells, o2] using hg 3 _ rfl
      have g4 : DataW.trod enc Try.prog w base (fun _ => true) held m 2 [c4] = some y4 := by simpa [Value.cells, o2] using hg 4 _ rfl
      have g5 : DataW.trod enc Try.prog w base (fun _ => true) held m 2 [c5] = some y5 := by simpa [Value.cells, o2] using hg 5 _ rfl
      have g6 : DataW.trod enc Try.prog w base (fun _ => true) held m 2 [c6] = some y6 := by simpa [Value.cells, o2] using hg 6 _ rfl
      have g7 : DataW.trod enc Try.prog w base (fun _ => true) held m 2 [c7] = some y7 := by simpa [Value.cells, o2] using hg 7 _ rfl
      have g8 : DataW.trod enc Try.prog w base (fun _ => true) held m 22 [c8] = some y8 := by simpa [Value.cells, o3] using hg 8 _ rfl
      have g9 : DataW.trod enc Try.prog w base (fun _ => true) held m 3 [c9] = some y9 := by simpa [Value.cells, o1] using hg 9 _ rfl
      have g10 : DataW.trod enc Try.prog w base (fun _ => true) held m 4 [c10] = some y10 := by simpa [Value.cells, o4] using hg 10 _ rfl
      have g11 : DataW.trod enc Try.prog w base (fun _ => true) held m 31 [c11, c12, c13, c14, c15, c16, c17, c18, c19, c20, c21, c22] = some y11 := by simpa [Value.cells, o5] using hg 11 _ rfl
      have g12 : DataW.trod enc Try.prog w base (fun _ => true) held m 29 [c23] = some y12 := by simpa [Value.cells, o6] using hg 12 _ rfl
      have g13 : DataW.trod enc Try.prog w base (fun _ => true) held m 32 [c24] = some y13 := by simpa [Value.cells, o7] using hg 13 _ rfl
      have g14 : DataW.trod enc Try.prog w base (fun _ => true) held m 32 [c25] = some y14 := by simpa [Value.cells, o7] using hg 14 _ rfl
      obtain ⟨a0, e0, -, w0⟩ := DataW.trod_int Try.underlying28 g0
      obtain ⟨a1, e1, -, w1⟩ := DataW.trod_int Try.underlying3 g1
      obtain ⟨a2, e2, -, w2⟩ := DataW.trod_int Try.underlying3 g2
      obtain ⟨a3, e3, -, w3⟩ := DataW.trod_int Try.underlying2 g3
      obtain ⟨a4, e4, -, w4⟩ := DataW.trod_int Try.underlying2 g4
      obtain ⟨a5, e5, -, w5⟩ := DataW.trod_int Try.underlying2 g5
      obtain ⟨a6, e6, -, w6⟩ := DataW.trod_int Try.underlying2 g6
      obtain ⟨a7, e7, -, w7⟩ := DataW.trod_int Try.underlying2 g7
      obtain ⟨a8, e8, -, w8⟩ := DataW.trod_int Try.underlying22 g8
      obtain ⟨a9, e9, -, w9⟩ := DataW.trod_int Try.underlying3 g9
      obtain ⟨a10, e10, -⟩ := DataW.trod_bool Try.underlying4 g10
      obtain ⟨a11, e11, f11⟩ := Pq_cells (l := [c11, c12, c13, c14, c15, c16, c17, c18, c19, c20, c21, c22]) rfl g11
      obtain ⟨a12, rfl, f12⟩ := Ks.sl_cell Try.underlying29 Try.underlying2 o2 g12
      obtain ⟨a13, rfl, f13⟩ := Ks.sl_cell Try.underlying32 Try.underlying5 o8 g13
      obtain ⟨a14, rfl, f14⟩ := Ks.sl_cell Try.underlying32 Try.underlying5 o8 g14
      cases e0; cases e1; cases e2; cases e3; cases e4; cases e5; cases e6; cases e7; cases e8; cases e9; cases e10; cases e11
      exact ⟨⟨a0, a1, a2, a3, a4, a5, a6, a7, a8, a9, a10, a11, a12, a13, a14⟩, rfl, ⟨Ks.i64_of w0, Ks.i64_of w1, Ks.i64_of w2, Ks.i64_of w3, Ks.i64_of w4, Ks.i64_of w5, Ks.i64_of w6, Ks.i64_of w7, Ks.u64_of w8, Ks.i64_of w9, f11, f12, f13, f14⟩⟩
set_option maxRecDepth 100000 in
theorem Mg_open {H : Type} {enc : TypeId × Value → H} {w : World} {base b0 : Nat} {held : Bool} {r : Reach} {v : Value} {d : DataW H} {p : List MemPlace} (hv : Value.okWide Try.prog w r b0 34 v) (h : DataW.Trod enc Try.prog w base (fun _ => true) held 34 v d p) : ∃ x : Mg, v = .agg x.cells.toArray ∧ x.At w w.heap.size := by
  obtain ⟨cs, rfl, hsz⟩ := okWide_struct Try.underlying34 hv
  obtain ⟨l⟩ := cs
  have hC : Try.prog.cellsOf 34 = 26 := by kernel_rfl
  obtain ⟨fuel, hf⟩ := h
  obtain ⟨x, rfl, hx⟩ := Mg_cells (l := l) (hsz.trans hC) hf
  exact ⟨x, rfl, hx⟩
theorem Mg_rows {H : Type} {enc : TypeId × Value → H} {w : World} {base fuel : Nat} {held : Bool} {a : Option Addr} {len cap : Nat} {x : DataW H × List MemPlace} (h : DataW.trod enc Try.prog w base (fun _ => true) held fuel 41 (Value.slice a len cap).cells.toList = some x) : ∃ l : List Mg, l.length = len ∧ len ≤ cap ∧ cap ≤ maxLen ∧ (∀ p ∈ l, p.At w w.heap.size) ∧ Rd w w.heap.size a (cat Mg.cells l) := Ks.rows_of Mg.cells (fun p => p.At w w.heap.size) (by decide) Mg.cells_len Try.underlying41 (k := 26) (by kernel_rfl) (fun _ _ _ h1 h2 => Mg_cells h1 h2) h
end Go.Proofs.Ytponpgcpmlcdpaa
