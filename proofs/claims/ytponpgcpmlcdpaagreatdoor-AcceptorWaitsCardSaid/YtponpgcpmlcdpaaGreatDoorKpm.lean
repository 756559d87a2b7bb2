import Derived.Test.YtponpgcpmlcdpaaGreatDoorKitSl
namespace Go.Proofs.YtponpgcpmlcdpaaGreatDoor
open Go.ChangeShapes Go.WideShapes Go.ChangeAt Go.RowKit Km Kx Kt
structure Pq where
 e : Int
 t : Int
 p : Int
 s : Int
 c : Int
 st : Int
 si : Int
 ra : Int
 up : Int
 su : Int
 pen : Ks.Sl
 ch : Ks.Sl
def Pq.cells (x : Pq) : List Value := [.int .i64 x.e, .int .i64 x.t, .int .i64 x.p, .int .i64 x.s, .int .i64 x.c, .int .i64 x.st, .int .i64 x.si, .int .i64 x.ra, .int .u64 x.up, .int .u64 x.su, x.pen.val, x.ch.val]
theorem Pq.ze0 (x : Pq) : x.cells.length = 12 := rfl
structure Pq.At (w : World) (B : Nat) (x : Pq) : Prop where
 e : Ks.zdi x.e
 t : Ks.zdi x.t
 p : Ks.zdi x.p
 s : Ks.zdi x.s
 c : Ks.zdi x.c
 st : Ks.zdi x.st
 si : Ks.zdi x.si
 ra : Ks.zdi x.ra
 up : Ks.zoz x.up
 su : Ks.zoz x.su
 pen : x.pen.At .i64 w B
 ch : x.ch.At .i64 w B
theorem Pq.At.below {w w' : World} {B B' : Nat} {x : Pq} (h : x.At w B) (hb : Below B' w w') (hB : B ≤ B') : x.At w' B := ⟨h.e, h.t, h.p, h.s, h.c, h.st, h.si, h.ra, h.up, h.su, h.pen.below hb hB, h.ch.below hb hB⟩
theorem Pq.At.more {w : World} {B B' : Nat} {x : Pq} (h : x.At w B) (hB : B ≤ B') : x.At w B' := ⟨h.e, h.t, h.p, h.s, h.c, h.st, h.si, h.ra, h.up, h.su, h.pen.more hB, h.ch.more hB⟩
def Pq.zero : Pq := ⟨0, 0, 0, 0, 0, 0, 0, 0, 0, 0, Ks.Sl.nil, Ks.Sl.nil⟩
instance : Inhabited Pq := ⟨Pq.zero⟩
theorem Pq.zi8 (w : World) (B : Nat) : Pq.zero.At w B := ⟨⟨by decide, by decide⟩, ⟨by decide, by decide⟩, ⟨by decide, by decide⟩, ⟨by decide, by decide⟩, ⟨by decide, by decide⟩, ⟨by decide, by decide⟩, ⟨by decide, by decide⟩, ⟨by decide, by decide⟩, ⟨by decide, by decide⟩, ⟨by decide, by decide⟩, Ks.Sl.ziq _ _ _, Ks.Sl.ziq _ _ _⟩
set_option maxRecDepth 100000 in
theorem Pq_cells {H : Type} {enc : TypeId × Value → H} {w : World} {base : Nat} {held : Bool} {fuel : Nat} {l : List Value} {y : DataW H × List MemPlace} (hsz : l.length = 12) (hf : DataW.trod enc Tryz.prog w base (fun _ => true) held fuel 34 l = some y) : ∃ x : Pq, l = x.cells ∧ x.At w w.heap.size := by
 have hu := Tryz.underlying34
 match l, hsz with
 | [c0, c1, c2, c3, c4, c5, c6, c7, c8, c9, c10, c11], _ =>
   obtain ⟨xs, m, _, hx, _, hlen, hg⟩ := DataW.trod_struct hu hf
   have o0 : Tryz.prog.cellsOf 2 = 1 := by kernel_rfl
   have o1 : Tryz.prog.cellsOf 3 = 1 := by kernel_rfl
   have o2 : Tryz.prog.cellsOf 32 = 1 := by kernel_rfl
   have o3 : Tryz.prog.cellsOf 22 = 1 := by kernel_rfl
   have o4 : Tryz.prog.cellsOf 30 = 1 := by kernel_rfl
   match xs, hlen with
   | [y0, y1, y2, y3, y4, y5, y6, y7, y8, y9, y10, y11], _ =>
     have g0 : DataW.trod enc Tryz.prog w base (fun _ => true) held m 2 [c0] = some y0 := by simpa [Value.cells, o0] using hg 0 _ rfl
     have g1 : DataW.trod enc Tryz.prog w base (fun _ => true) held m 3 [c1] = some y1 := by simpa [Value.cells, o1] using hg 1 _ rfl
     have g2 : DataW.trod enc Tryz.prog w base (fun _ => true) held m 3 [c2] = some y2 := by simpa [Value.cells, o1] using hg 2 _ rfl
     have g3 : DataW.trod enc Tryz.prog w base (fun _ => true) held m 3 [c3] = some y3 := by simpa [Value.cells, o1] using hg 3 _ rfl
     have g4 : DataW.trod enc Tryz.prog w base (fun _ => true) held m 3 [c4] = some y4 := by simpa [Value.cells, o1] using hg 4 _ rfl
     have g5 : DataW.trod enc Tryz.prog w base (fun _ => true) held m 2 [c5] = some y5 := by simpa [Value.cells, o0] using hg 5 _ rfl
     have g6 : DataW.trod enc Tryz.prog w base (fun _ => true) held m 2 [c6] = some y6 := by simpa [Value.cells, o0] using hg 6 _ rfl
     have g7 : DataW.trod enc Tryz.prog w base (fun _ => true) held m 2 [c7] = some y7 := by simpa [Value.cells, o0] using hg 7 _ rfl
     have g8 : DataW.trod enc Tryz.prog w base (fun _ => true) held m 32 [c8] = some y8 := by simpa [Value.cells, o2] using hg 8 _ rfl
     have g9 : DataW.trod enc Tryz.prog w base (fun _ => true) held m 32 [c9] = some y9 := by simpa [Value.cells, o2] using hg 9 _ rfl
     have g10 : DataW.trod enc Tryz.prog w base (fun _ => true) held m 22 [c10] = some y10 := by simpa [Value.cells, o3] using hg 10 _ rfl
     have g11 : DataW.trod enc Tryz.prog w base (fun _ => true) held m 30 [c11] = some y11 := by simpa [Value.cells, o4] using hg 11 _ rfl
     obtain ⟨a0, e0, -, w0⟩ := DataW.trod_int Tryz.underlying2 g0
     obtain ⟨a1, e1, -, w1⟩ := DataW.trod_int Tryz.underlying3 g1
     obtain ⟨a2, e2, -, w2⟩ := DataW.trod_int Tryz.underlying3 g2
     obtain ⟨a3, e3, -, w3⟩ := DataW.trod_int Tryz.underlying3 g3
     obtain ⟨a4, e4, -, w4⟩ := DataW.trod_int Tryz.underlying3 g4
     obtain ⟨a5, e5, -, w5⟩ := DataW.trod_int Tryz.underlying2 g5
     obtain ⟨a6, e6, -, w6⟩ := DataW.trod_int Tryz.underlying2 g6
     obtain ⟨a7, e7, -, w7⟩ := DataW.trod_int Tryz.underlying2 g7
     obtain ⟨a8, e8, -, w8⟩ := DataW.trod_int Tryz.underlying32 g8
     obtain ⟨a9, e9, -, w9⟩ := DataW.trod_int Tryz.underlying32 g9
     obtain ⟨a10, rfl, f10⟩ := Ks.zha Tryz.underlying22 Tryz.underlying3 o1 g10
     obtain ⟨a11, rfl, f11⟩ := Ks.zha Tryz.underlying30 Tryz.underlying2 o0 g11
     cases e0; cases e1; cases e2; cases e3; cases e4; cases e5; cases e6; cases e7; cases e8; cases e9
     exact ⟨⟨a0, a1, a2, a3, a4, a5, a6, a7, a8, a9, a10, a11⟩, rfl, ⟨Ks.zca w0, Ks.zca w1, Ks.zca w2, Ks.zca w3, Ks.zca w4, Ks.zca w5, Ks.zca w6, Ks.zca w7, Ks.zo1 w8, Ks.zo1 w9, f10, f11⟩⟩
end Go.Proofs.YtponpgcpmlcdpaaGreatDoor

namespace Go.Proofs.YtponpgcpmlcdpaaGreatDoor
open Go.ChangeShapes Go.WideShapes Go.ChangeAt Go.RowKit Km Kx Kt
structure Mg where
 k : Int
 f : Int
 t : Int
 e : Int
 b : Int
 a : Int
 n : Int
 ti : Int
 up : Int
 co : Int
 has : Bool
 pl : Pq
 id : Ks.Sl
 se : Ks.Sl
 pa : Ks.Sl
def Mg.cells (x : Mg) : List Value := [.int .i64 x.k, .int .i64 x.f, .int .i64 x.t, .int .i64 x.e, .int .i64 x.b, .int .i64 x.a, .int .i64 x.n, .int .i64 x.ti, .int .u64 x.up, .int .i64 x.co, .bool x.has] ++ (x.pl.cells ++ ([x.id.val, x.se.val, x.pa.val]))
theorem Mg.ze0 (x : Mg) : x.cells.length = 26 := rfl
structure Mg.At (w : World) (B : Nat) (x : Mg) : Prop where
 k : Ks.zdi x.k
 f : Ks.zdi x.f
 t : Ks.zdi x.t
 e : Ks.zdi x.e
 b : Ks.zdi x.b
 a : Ks.zdi x.a
 n : Ks.zdi x.n
 ti : Ks.zdi x.ti
 up : Ks.zoz x.up
 co : Ks.zdi x.co
 pl : x.pl.At w B
 id : x.id.At .i64 w B
 se : x.se.At .u8 w B
 pa : x.pa.At .u8 w B
theorem Mg.At.below {w w' : World} {B B' : Nat} {x : Mg} (h : x.At w B) (hb : Below B' w w') (hB : B ≤ B') : x.At w' B := ⟨h.k, h.f, h.t, h.e, h.b, h.a, h.n, h.ti, h.up, h.co, h.pl.below hb hB, h.id.below hb hB, h.se.below hb hB, h.pa.below hb hB⟩
theorem Mg.At.more {w : World} {B B' : Nat} {x : Mg} (h : x.At w B) (hB : B ≤ B') : x.At w B' := ⟨h.k, h.f, h.t, h.e, h.b, h.a, h.n, h.ti, h.up, h.co, h.pl.more hB, h.id.more hB, h.se.more hB, h.pa.more hB⟩
def Mg.zero : Mg := ⟨0, 0, 0, 0, 0, 0, 0, 0, 0, 0, false, Pq.zero, Ks.Sl.nil, Ks.Sl.nil, Ks.Sl.nil⟩
instance : Inhabited Mg := ⟨Mg.zero⟩
theorem Mg.zi8 (w : World) (B : Nat) : Mg.zero.At w B := ⟨⟨by decide, by decide⟩, ⟨by decide, by decide⟩, ⟨by decide, by decide⟩, ⟨by decide, by decide⟩, ⟨by decide, by decide⟩, ⟨by decide, by decide⟩, ⟨by decide, by decide⟩, ⟨by decide, by decide⟩, ⟨by decide, by decide⟩, ⟨by decide, by decide⟩, Pq.zi8 _ _, Ks.Sl.ziq _ _ _, Ks.Sl.ziq _ _ _, Ks.Sl.ziq _ _ _⟩
set_option maxRecDepth 100000 in
theorem Mg_cells {H : Type} {enc : TypeId × Value → H} {w : World} {base : Nat} {held : Bool} {fuel : Nat} {l : List Value} {y : DataW H × List MemPlace} (hsz : l.length = 26) (hf : DataW.trod enc Tryz.prog w base (fun _ => true) held fuel 37 l = some y) : ∃ x : Mg, l = x.cells ∧ x.At w w.heap.size := by
 have hu := Tryz.underlying37
 match l, hsz with
 | [c0, c1, c2, c3, c4, c5, c6, c7, c8, c9, c10, c11, c12, c13, c14, c15, c16, c17, c18, c19, c20, c21, c22, c23, c24, c25], _ =>
   obtain ⟨xs, m, _, hx, _, hlen, hg⟩ := DataW.trod_struct hu hf
   have o0 : Tryz.prog.cellsOf 31 = 1 := by kernel_rfl
   have o1 : Tryz.prog.cellsOf 3 = 1 := by kernel_rfl
   have o2 : Tryz.prog.cellsOf 2 = 1 := by kernel_rfl
   have o3 : Tryz.prog.cellsOf 32 = 1 := by kernel_rfl
   have o4 : Tryz.prog.cellsOf 4 = 1 := by kernel_rfl
   have o5 : Tryz.prog.cellsOf 34 = 12 := by kernel_rfl
   have o6 : Tryz.prog.cellsOf 30 = 1 := by kernel_rfl
   have o7 : Tryz.prog.cellsOf 35 = 1 := by kernel_rfl
   have o8 : Tryz.prog.cellsOf 5 = 1 := by kernel_rfl
   match xs, hlen with
   | [y0, y1, y2, y3, y4, y5, y6, y7, y8, y9, y10, y11, y12, y13, y14], _ =>
     have g0 : DataW.trod enc Tryz.prog w base (fun _ => true) held m 31 [c0] = some y0 := by simpa [Value.cells, o0] using hg 0 _ rfl
     have g1 : DataW.trod enc Tryz.prog w base (fun _ => true) held m 3 [c1] = some y1 := by simpa [Value.cells, o1] using hg 1 _ rfl
     have g2 : DataW.trod enc Tryz.prog w base (fun _ => true) held m 3 [c2] = some y2 := by simpa [Value.cells, o1] using hg 2 _ rfl
     have g3 : DataW.trod enc Tryz.prog w base (fun _ => true) held m 2 [c3] = some y3 := by simpa [Value.cells, o2] using hg 3 _ rfl
     have g4 : DataW.trod enc Tryz.prog w base (fun _ => true) held m 2 [c4] = some y4 := by simpa [Value.cells, o2] using hg 4 _ rfl
     have g5 : DataW.trod enc Tryz.prog w base (fun _ => true) held m 2 [c5] = some y5 := by simpa [Value.cells, o2] using hg 5 _ rfl
     have g6 : DataW.trod enc Tryz.prog w base (fun _ => true) held m 2 [c6] = some y6 := by simpa [Value.cells, o2] using hg 6 _ rfl
     have g7 : DataW.trod enc Tryz.prog w base (fun _ => true) held m 2 [c7] = some y7 := by simpa [Value.cells, o2] using hg 7 _ rfl
     have g8 : DataW.trod enc Tryz.prog w base (fun _ => true) held m 32 [c8] = some y8 := by simpa [Value.cells, o3] using hg 8 _ rfl
     have g9 : DataW.trod enc Tryz.prog w base (fun _ => true) held m 3 [c9] = some y9 := by simpa [Value.cells, o1] using hg 9 _ rfl
     have g10 : DataW.trod enc Tryz.prog w base (fun _ => true) held m 4 [c10] = some y10 := by simpa [Value.cells, o4] using hg 10 _ rfl
     have g11 : DataW.trod enc Tryz.prog w base (fun _ => true) held m 34 [c11, c12, c13, c14, c15, c16, c17, c18, c19, c20, c21, c22] = some y11 := by simpa [Value.cells, o5] using hg 11 _ rfl
     have g12 : DataW.trod enc Tryz.prog w base (fun _ => true) held m 30 [c23] = some y12 := by simpa [Value.cells, o6] using hg 12 _ rfl
     have g13 : DataW.trod enc Tryz.prog w base (fun _ => true) held m 35 [c24] = some y13 := by simpa [Value.cells, o7] using hg 13 _ rfl
     have g14 : DataW.trod enc Tryz.prog w base (fun _ => true) held m 35 [c25] = some y14 := by simpa [Value.cells, o7] using hg 14 _ rfl
     obtain ⟨a0, e0, -, w0⟩ := DataW.trod_int Tryz.underlying31 g0
     obtain ⟨a1, e1, -, w1⟩ := DataW.trod_int Tryz.underlying3 g1
     obtain ⟨a2, e2, -, w2⟩ := DataW.trod_int Tryz.underlying3 g2
     obtain ⟨a3, e3, -, w3⟩ := DataW.trod_int Tryz.underlying2 g3
     obtain ⟨a4, e4, -, w4⟩ := DataW.trod_int Tryz.underlying2 g4
     obtain ⟨a5, e5, -, w5⟩ := DataW.trod_int Tryz.underlying2 g5
     obtain ⟨a6, e6, -, w6⟩ := DataW.trod_int Tryz.underlying2 g6
     obtain ⟨a7, e7, -, w7⟩ := DataW.trod_int Tryz.underlying2 g7
     obtain ⟨a8, e8, -, w8⟩ := DataW.trod_int Tryz.underlying32 g8
     obtain ⟨a9, e9, -, w9⟩ := DataW.trod_int Tryz.underlying3 g9
     obtain ⟨a10, e10, -⟩ := DataW.trod_bool Tryz.underlying4 g10
     obtain ⟨a11, e11, f11⟩ := Pq_cells (l := [c11, c12, c13, c14, c15, c16, c17, c18, c19, c20, c21, c22]) rfl g11
     obtain ⟨a12, rfl, f12⟩ := Ks.zha Tryz.underlying30 Tryz.underlying2 o2 g12
     obtain ⟨a13, rfl, f13⟩ := Ks.zha Tryz.underlying35 Tryz.underlying5 o8 g13
     obtain ⟨a14, rfl, f14⟩ := Ks.zha Tryz.underlying35 Tryz.underlying5 o8 g14
     cases e0; cases e1; cases e2; cases e3; cases e4; cases e5; cases e6; cases e7; cases e8; cases e9; cases e10; cases e11
     exact ⟨⟨a0, a1, a2, a3, a4, a5, a6, a7, a8, a9, a10, a11, a12, a13, a14⟩, rfl, ⟨Ks.zca w0, Ks.zca w1, Ks.zca w2, Ks.zca w3, Ks.zca w4, Ks.zca w5, Ks.zca w6, Ks.zca w7, Ks.zo1 w8, Ks.zca w9, f11, f12, f13, f14⟩⟩
end Go.Proofs.YtponpgcpmlcdpaaGreatDoor

set_option linter.unusedVariables false
namespace Go.Proofs.YtponpgcpmlcdpaaGreatDoor
open Go.ChangeShapes Go.WideShapes Go.ChangeAt Go.RowKit Km Kx Kt
structure Op where
 what : Int
 m : Mg
 now : Int
 n : Int
def Op.cells (x : Op) : List Value := [.int .i64 x.what] ++ (x.m.cells ++ ([.int .i64 x.now, .int .i64 x.n]))
theorem Op.ze0 (x : Op) : x.cells.length = 29 := rfl
structure Op.At (w : World) (B : Nat) (x : Op) : Prop where
 what : Ks.zdi x.what
 m : x.m.At w B
 now : Ks.zdi x.now
 n : Ks.zdi x.n
theorem Op.At.below {w w' : World} {B B' : Nat} {x : Op} (h : x.At w B) (hb : Below B' w w') (hB : B ≤ B') : x.At w' B := ⟨h.what, h.m.below hb hB, h.now, h.n⟩
theorem Op.At.more {w : World} {B B' : Nat} {x : Op} (h : x.At w B) (hB : B ≤ B') : x.At w B' := ⟨h.what, h.m.more hB, h.now, h.n⟩
def Op.zero : Op := ⟨0, Mg.zero, 0, 0⟩
instance : Inhabited Op := ⟨Op.zero⟩
theorem Op.zi8 (w : World) (B : Nat) : Op.zero.At w B := ⟨⟨by decide, by decide⟩, Mg.zi8 _ _, ⟨by decide, by decide⟩, ⟨by decide, by decide⟩⟩
set_option maxRecDepth 100000 in
theorem Op_cells {H : Type} {enc : TypeId × Value → H} {w : World} {base : Nat} {held : Bool} {fuel : Nat} {l : List Value} {y : DataW H × List MemPlace} (hsz : l.length = 29) (hf : DataW.trod enc Tryz.prog w base (fun _ => true) held fuel 39 l = some y) : ∃ x : Op, l = x.cells ∧ x.At w w.heap.size := by
 have hu := Tryz.underlying39
 match l, hsz with
 | [c0, c1, c2, c3, c4, c5, c6, c7, c8, c9, c10, c11, c12, c13, c14, c15, c16, c17, c18, c19, c20, c21, c22, c23, c24, c25, c26, c27, c28], _ =>
   obtain ⟨xs, m, _, hx, _, hlen, hg⟩ := DataW.trod_struct hu hf
   have o0 : Tryz.prog.cellsOf 3 = 1 := by kernel_rfl
   have o1 : Tryz.prog.cellsOf 37 = 26 := by kernel_rfl
   have o2 : Tryz.prog.cellsOf 2 = 1 := by kernel_rfl
   match xs, hlen with
   | [y0, y1, y2, y3], _ =>
     have g0 : DataW.trod enc Tryz.prog w base (fun _ => true) held m 3 [c0] = some y0 := by simpa [Value.cells, o0] using hg 0 _ rfl
     have g1 : DataW.trod enc Tryz.prog w base (fun _ => true) held m 37 [c1, c2, c3, c4, c5, c6, c7, c8, c9, c10, c11, c12, c13, c14, c15, c16, c17, c18, c19, c20, c21, c22, c23, c24, c25, c26] = some y1 := by simpa [Value.cells, o1] using hg 1 _ rfl
     have g2 : DataW.trod enc Tryz.prog w base (fun _ => true) held m 2 [c27] = some y2 := by simpa [Value.cells, o2] using hg 2 _ rfl
     have g3 : DataW.trod enc Tryz.prog w base (fun _ => true) held m 3 [c28] = some y3 := by simpa [Value.cells, o0] using hg 3 _ rfl
     obtain ⟨a0, e0, -, w0⟩ := DataW.trod_int Tryz.underlying3 g0
     obtain ⟨a1, e1, f1⟩ := Mg_cells (l := [c1, c2, c3, c4, c5, c6, c7, c8, c9, c10, c11, c12, c13, c14, c15, c16, c17, c18, c19, c20, c21, c22, c23, c24, c25, c26]) rfl g1
     obtain ⟨a2, e2, -, w2⟩ := DataW.trod_int Tryz.underlying2 g2
     obtain ⟨a3, e3, -, w3⟩ := DataW.trod_int Tryz.underlying3 g3
     cases e0; cases e1; cases e2; cases e3
     exact ⟨⟨a0, a1, a2, a3⟩, rfl, ⟨Ks.zca w0, f1, Ks.zca w2, Ks.zca w3⟩⟩
theorem Op_rows {H : Type} {enc : TypeId × Value → H} {w : World} {base fuel : Nat} {held : Bool} {a : Option Addr} {len cap : Nat} {x : DataW H × List MemPlace} (h : DataW.trod enc Tryz.prog w base (fun _ => true) held fuel 25 (Value.slice a len cap).cells.toList = some x) : ∃ l : List Op, l.length = len ∧ len ≤ cap ∧ cap ≤ maxLen ∧ (∀ p ∈ l, p.At w w.heap.size) ∧ Rd w w.heap.size a (cat Op.cells l) := Ks.rows_of Op.cells (fun p => p.At w w.heap.size) (by decide) Op.ze0 Tryz.underlying25 (k := 29) (by kernel_rfl) (fun _ _ _ h1 h2 => Op_cells h1 h2) h
end Go.Proofs.YtponpgcpmlcdpaaGreatDoor
