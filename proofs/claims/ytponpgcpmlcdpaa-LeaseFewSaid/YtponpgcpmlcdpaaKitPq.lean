/- api.Plan as a value: its cells, and as an argument. Written by wip/tools/gstruct.py. -/
import Derived.Test.YtponpgcpmlcdpaaKitSl
namespace Go.Proofs.Ytponpgcpmlcdpaa
open Go.ChangeShapes Go.WideShapes Go.ChangeAt Go.RowKit Km Kx Kt

structure Pq where
  e : Int
  t : Int
  p : Int
  s : Int
  c : Int
  st : Int
  si : Int
  ra : Int
  up : Int
  su : Int
  pen : Ks.Sl
  ch : Ks.Sl
def Pq.cells (x : Pq) : List Value := [.int .i64 x.e, .int .i64 x.t, .int .i64 x.p, .int .i64 x.s, .int .i64 x.c, .int .i64 x.st, .int .i64 x.si, .int .i64 x.ra, .int .u64 x.up, .int .u64 x.su, x.pen.val, x.ch.val]
theorem Pq.cells_len (x : Pq) : x.cells.length = 12 := rfl
structure Pq.At (w : World) (B : Nat) (x : Pq) : Prop where
  e : Ks.i64in x.e
  t : Ks.i64in x.t
  p : Ks.i64in x.p
  s : Ks.i64in x.s
  c : Ks.i64in x.c
  st : Ks.i64in x.st
  si : Ks.i64in x.si
  ra : Ks.i64in x.ra
  up : Ks.u64in x.up
  su : Ks.u64in x.su
  pen : x.pen.At .i64 w B
  ch : x.ch.At .i64 w B
theorem Pq.At.below {w w' : World} {B B' : Nat} {x : Pq} (h : x.At w B) (hb : Below B' w w') (hB : B ≤ B') : x.At w' B := ⟨h.e, h.t, h.p, h.s, h.c, h.st, h.si, h.ra, h.up, h.su, h.pen.below hb hB, h.ch.below hb hB⟩
theorem Pq.At.more {w : World} {B B' : Nat} {x : Pq} (h : x.At w B) (hB : B ≤ B') : x.At w B' := ⟨h.e, h.t, h.p, h.s, h.c, h.st, h.si, h.ra, h.up, h.su, h.pen.more hB, h.ch.more hB⟩
def Pq.zero : Pq := ⟨0, 0, 0, 0, 0, 0, 0, 0, 0, 0, Ks.Sl.nil, Ks.Sl.nil⟩
instance : Inhabited Pq := ⟨Pq.zero⟩
theorem Pq.zero_at (w : World) (B : Nat) : Pq.zero.At w B := ⟨⟨by decide, by decide⟩, ⟨by decide, by decide⟩, ⟨by decide, by decide⟩, ⟨by decide, by decide⟩, ⟨by decide, by decide⟩, ⟨by decide, by decide⟩, ⟨by decide, by decide⟩, ⟨by decide, by decide⟩, ⟨by decide, by decide⟩, ⟨by decide, by decide⟩, Ks.Sl.nil_at _ _ _, Ks.Sl.nil_at _ _ _⟩

set_option maxRecDepth 100000 in
theorem Pq_cells {H : Type} {enc : TypeId × Value → H} {w : World} {base : Nat} {held : Bool} {fuel : Nat} {l : List Value} {y : DataW H × List MemPlace} (hsz : l.length = 12) (hf : DataW.trod enc Try.prog w base (fun _ => true) held fuel 31 l = some y) : ∃ x : Pq, l = x.cells ∧ x.At w w.heap.size := by
  have hu := Try.underlying31
  match l, hsz with
  | [c0, c1, c2, c3, c4, c5, c6, c7, c8, c9, c10, c11], _ =>
    obtain ⟨xs, m, _, hx, _, hlen, hg⟩ := DataW.trod_struct hu hf
    have o0 : Try.prog.cellsOf 2 = 1 := by kernel_rfl
    have o1 : Try.prog.cellsOf 3 = 1 := by kernel_rfl
    have o2 : Try.prog.cellsOf 22 = 1 := by kernel_rfl
    have o3 : Try.prog.cellsOf 25 = 1 := by kernel_rfl
    have o4 : Try.prog.cellsOf 29 = 1 := by kernel_rfl
    match xs, hlen with
    | [y0, y1, y2, y3, y4, y5, y6, y7, y8, y9, y10, y11], _ =>
      have g0 : DataW.trod enc Try.prog w base (fun _ => true) held m 2 [c0] = some y0 := by simpa [Value.cells, o0] using hg 0 _ rfl
      have g1 : DataW.trod enc Try.prog w base (fun _ => true) held m 3 [c1] = some y1 := by simpa [Value.cells, o1] using hg 1 _ rfl
      have g2 : DataW.trod enc Try.prog w base (fun _ => true) held m 3 [c2] = some y2 := by simpa [Value.cells, o1] using hg 2 _ rfl
      have g3 : DataW.trod enc Try.prog w base (fun _ => true) held m 3 [c3] = some y3 := by simpa [Value.cells, o1] using hg 3 _ rfl
      have g4 : DataW.trod enc Try.prog w base (fun _ => true) held m 3 [c4] = some y4 := by simpa [Value.cells, o1] using hg 4 _ rfl
      have g5 : DataW.trod enc Try.prog w base (fun _ => true) held m 2 [c5] = some y5 := by simpa [Value.cells, o0] using hg 5 _ rfl
      have g6 : DataW.trod enc Try.prog w base (fun _ => true) held m 2 [c6] = some y6 := by simpa [Value.cells, o0] using hg 6 _ rfl
      have g7 : DataW.trod enc Try.prog w base (fun _ => true) held m 2 [c7] = some y7 := by simpa [Value.cells, o0] using hg 7 _ rfl
      have g8 : DataW.trod enc Try.prog w base (fun _ => true) held m 22 [c8] = some y8 := by simpa [Value.cells, o2] using hg 8 _ rfl
      have g9 : DataW.trod enc Try.prog w base (fun _ => true) held m 22 [c9] = some y9 := by simpa [Value.cells, o2] using hg 9 _ rfl
      have g10 : DataW.trod enc Try.prog w base (fun _ => true) held m 25 [c10] = some y10 := by simpa [Value.cells, o3] using hg 10 _ rfl
      have g11 : DataW.trod enc Try.prog w base (fun _ => true) held m 29 [c11] = some y11 := by simpa [Value.cells, o4] using hg 11 _ rfl
      obtain ⟨a0, e0, -, w0⟩ := DataW.trod_int Try.underlying2 g0
      obtain ⟨a1, e1, -, w1⟩ := DataW.trod_int Try.underlying3 g1
      obtain ⟨a2, e2, -, w2⟩ := DataW.trod_int Try.underlying3 g2
      obtain ⟨a3, e3, -, w3⟩ := DataW.trod_int Try.underlying3 g3
      obtain ⟨a4, e4, -, w4⟩ := DataW.trod_int Try.underlying3 g4
      obtain ⟨a5, e5, -, w5⟩ := DataW.trod_int Try.underlying2 g5
      obtain ⟨a6, e6, -, w6⟩ := DataW.trod_int Try.underlying2 g6
      obtain ⟨a7, e7, -, w7⟩ := DataW.trod_int Try.underlying2 g7
      obtain ⟨a8, e8, -, w8⟩ := DataW.trod_int Try.underlying22 g8
      obtain ⟨a9, e9, -, w9⟩ := DataW.trod_int Try.underlying22 g9
      obtain ⟨a10, rfl, f10⟩ := Ks.sl_cell Try.underlying25 Try.underlying3 o1 g10
      obtain ⟨a11, rfl, f11⟩ := Ks.sl_cell Try.underlying29 Try.underlying2 o0 g11
      cases e0; cases e1; cases e2; cases e3; cases e4; cases e5; cases e6; cases e7; cases e8; cases e9
      exact ⟨⟨a0, a1, a2, a3, a4, a5, a6, a7, a8, a9, a10, a11⟩, rfl, ⟨Ks.i64_of w0, Ks.i64_of w1, Ks.i64_of w2, Ks.i64_of w3, Ks.i64_of w4, Ks.i64_of w5, Ks.i64_of w6, Ks.i64_of w7, Ks.u64_of w8, Ks.u64_of w9, f10, f11⟩⟩
set_option maxRecDepth 100000 in
theorem Pq_open {H : Type} {enc : TypeId × Value → H} {w : World} {base b0 : Nat} {held : Bool} {r : Reach} {v : Value} {d : DataW H} {p : List MemPlace} (hv : Value.okWide Try.prog w r b0 31 v) (h : DataW.Trod enc Try.prog w base (fun _ => true) held 31 v d p) : ∃ x : Pq, v = .agg x.cells.toArray ∧ x.At w w.heap.size := by
  obtain ⟨cs, rfl, hsz⟩ := okWide_struct Try.underlying31 hv
  obtain ⟨l⟩ := cs
  have hC : Try.prog.cellsOf 31 = 12 := by kernel_rfl
  obtain ⟨fuel, hf⟩ := h
  obtain ⟨x, rfl, hx⟩ := Pq_cells (l := l) (hsz.trans hC) hf
  exact ⟨x, rfl, hx⟩
end Go.Proofs.Ytponpgcpmlcdpaa
