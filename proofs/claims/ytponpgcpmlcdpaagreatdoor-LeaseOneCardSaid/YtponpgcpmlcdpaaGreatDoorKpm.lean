import Derived.Test.YtponpgcpmlcdpaaGreatDoorKitSl
namespace Go.Proofs.YtponpgcpmlcdpaaGreatDoor
open Go.ChangeShapes Go.WideShapes Go.ChangeAt Go.RowKit Km Kx Kt
structure Pq where
 e : Int
 t : Int
 p : Int
 s : Int
 c : Int
 st : Int
 si : Int
 ra : Int
 up : Int
 su : Int
 pen : Ks.Sl
 ch : Ks.Sl
def Pq.cells (x : Pq) : List Value := [.int .i64 x.e, .int .i64 x.t, .int .i64 x.p, .int .i64 x.s, .int .i64 x.c, .int .i64 x.st, .int .i64 x.si, .int .i64 x.ra, .int .u64 x.up, .int .u64 x.su, x.pen.val, x.ch.val]
theorem Pq.zdz (x : Pq) : x.cells.length = 12 := rfl
structure Pq.At (w : World) (B : Nat) (x : Pq) : Prop where
 e : Ks.zc4 x.e
 t : Ks.zc4 x.t
 p : Ks.zc4 x.p
 s : Ks.zc4 x.s
 c : Ks.zc4 x.c
 st : Ks.zc4 x.st
 si : Ks.zc4 x.si
 ra : Ks.zc4 x.ra
 up : Ks.zpe x.up
 su : Ks.zpe x.su
 pen : x.pen.At .i64 w B
 ch : x.ch.At .i64 w B
theorem Pq.At.below {w w' : World} {B B' : Nat} {x : Pq} (h : x.At w B) (hb : Below B' w w') (hB : B ≤ B') : x.At w' B := ⟨h.e, h.t, h.p, h.s, h.c, h.st, h.si, h.ra, h.up, h.su, h.pen.below hb hB, h.ch.below hb hB⟩
theorem Pq.At.more {w : World} {B B' : Nat} {x : Pq} (h : x.At w B) (hB : B ≤ B') : x.At w B' := ⟨h.e, h.t, h.p, h.s, h.c, h.st, h.si, h.ra, h.up, h.su, h.pen.more hB, h.ch.more hB⟩
def Pq.zero : Pq := ⟨0, 0, 0, 0, 0, 0, 0, 0, 0, 0, Ks.Sl.nil, Ks.Sl.nil⟩
instance : Inhabited Pq := ⟨Pq.zero⟩
theorem Pq.zgb (w : World) (B : Nat) : Pq.zero.At w B := ⟨⟨by decide, by decide⟩, ⟨by decide, by decide⟩, ⟨by decide, by decide⟩, ⟨by decide, by decide⟩, ⟨by decide, by decide⟩, ⟨by decide, by decide⟩, ⟨by decide, by decide⟩, ⟨by decide, by decide⟩, ⟨by decide, by decide⟩, ⟨by decide, by decide⟩, Ks.Sl.zkm _ _ _, Ks.Sl.zkm _ _ _⟩
end Go.Proofs.YtponpgcpmlcdpaaGreatDoor

namespace Go.Proofs.YtponpgcpmlcdpaaGreatDoor
open Go.ChangeShapes Go.WideShapes Go.ChangeAt Go.RowKit Km Kx Kt
structure Mg where
 k : Int
 f : Int
 t : Int
 e : Int
 b : Int
 a : Int
 n : Int
 ti : Int
 up : Int
 co : Int
 has : Bool
 pl : Pq
 id : Ks.Sl
 se : Ks.Sl
 pa : Ks.Sl
def Mg.cells (x : Mg) : List Value := [.int .i64 x.k, .int .i64 x.f, .int .i64 x.t, .int .i64 x.e, .int .i64 x.b, .int .i64 x.a, .int .i64 x.n, .int .i64 x.ti, .int .u64 x.up, .int .i64 x.co, .bool x.has] ++ (x.pl.cells ++ ([x.id.val, x.se.val, x.pa.val]))
theorem Mg.zdz (x : Mg) : x.cells.length = 26 := rfl
structure Mg.At (w : World) (B : Nat) (x : Mg) : Prop where
 k : Ks.zc4 x.k
 f : Ks.zc4 x.f
 t : Ks.zc4 x.t
 e : Ks.zc4 x.e
 b : Ks.zc4 x.b
 a : Ks.zc4 x.a
 n : Ks.zc4 x.n
 ti : Ks.zc4 x.ti
 up : Ks.zpe x.up
 co : Ks.zc4 x.co
 pl : x.pl.At w B
 id : x.id.At .i64 w B
 se : x.se.At .u8 w B
 pa : x.pa.At .u8 w B
theorem Mg.At.below {w w' : World} {B B' : Nat} {x : Mg} (h : x.At w B) (hb : Below B' w w') (hB : B ≤ B') : x.At w' B := ⟨h.k, h.f, h.t, h.e, h.b, h.a, h.n, h.ti, h.up, h.co, h.pl.below hb hB, h.id.below hb hB, h.se.below hb hB, h.pa.below hb hB⟩
theorem Mg.At.more {w : World} {B B' : Nat} {x : Mg} (h : x.At w B) (hB : B ≤ B') : x.At w B' := ⟨h.k, h.f, h.t, h.e, h.b, h.a, h.n, h.ti, h.up, h.co, h.pl.more hB, h.id.more hB, h.se.more hB, h.pa.more hB⟩
def Mg.zero : Mg := ⟨0, 0, 0, 0, 0, 0, 0, 0, 0, 0, false, Pq.zero, Ks.Sl.nil, Ks.Sl.nil, Ks.Sl.nil⟩
instance : Inhabited Mg := ⟨Mg.zero⟩
theorem Mg.zgb (w : World) (B : Nat) : Mg.zero.At w B := ⟨⟨by decide, by decide⟩, ⟨by decide, by decide⟩, ⟨by decide, by decide⟩, ⟨by decide, by decide⟩, ⟨by decide, by decide⟩, ⟨by decide, by decide⟩, ⟨by decide, by decide⟩, ⟨by decide, by decide⟩, ⟨by decide, by decide⟩, ⟨by decide, by decide⟩, Pq.zgb _ _, Ks.Sl.zkm _ _ _, Ks.Sl.zkm _ _ _, Ks.Sl.zkm _ _ _⟩
end Go.Proofs.YtponpgcpmlcdpaaGreatDoor

set_option linter.unusedVariables false
namespace Go.Proofs.YtponpgcpmlcdpaaGreatDoor
open Go.ChangeShapes Go.WideShapes Go.ChangeAt Go.RowKit Km Kx Kt
structure Ho where
 e : Int
 n : Int
 g : Int
 u : Int
def Ho.cells (x : Ho) : List Value := [.int .i64 x.e, .int .i64 x.n, .int .u64 x.g, .int .i64 x.u]
theorem Ho.zdz (x : Ho) : x.cells.length = 4 := rfl
structure Ho.At (w : World) (B : Nat) (x : Ho) : Prop where
 e : Ks.zc4 x.e
 n : Ks.zc4 x.n
 g : Ks.zpe x.g
 u : Ks.zc4 x.u
theorem Ho.At.below {w w' : World} {B B' : Nat} {x : Ho} (h : x.At w B) (hb : Below B' w w') (hB : B ≤ B') : x.At w' B := ⟨h.e, h.n, h.g, h.u⟩
theorem Ho.At.more {w : World} {B B' : Nat} {x : Ho} (h : x.At w B) (hB : B ≤ B') : x.At w B' := ⟨h.e, h.n, h.g, h.u⟩
def Ho.zero : Ho := ⟨0, 0, 0, 0⟩
instance : Inhabited Ho := ⟨Ho.zero⟩
theorem Ho.zgb (w : World) (B : Nat) : Ho.zero.At w B := ⟨⟨by decide, by decide⟩, ⟨by decide, by decide⟩, ⟨by decide, by decide⟩, ⟨by decide, by decide⟩⟩
end Go.Proofs.YtponpgcpmlcdpaaGreatDoor

set_option linter.unusedVariables false
namespace Go.Proofs.YtponpgcpmlcdpaaGreatDoor
open Go.ChangeShapes Go.WideShapes Go.ChangeAt Go.RowKit Km Kx Kt
structure Tu where
 a : Int
 who : Int
 what : Int
 to : Int
def Tu.cells (x : Tu) : List Value := [.int .u8 x.a, .int .i64 x.who, .int .i64 x.what, .int .i64 x.to]
theorem Tu.zdz (x : Tu) : x.cells.length = 4 := rfl
structure Tu.At (w : World) (B : Nat) (x : Tu) : Prop where
 a : 0 ≤ x.a ∧ x.a ≤ 255
 who : Ks.zc4 x.who
 what : Ks.zc4 x.what
 to : Ks.zc4 x.to
theorem Tu.At.below {w w' : World} {B B' : Nat} {x : Tu} (h : x.At w B) (hb : Below B' w w') (hB : B ≤ B') : x.At w' B := ⟨h.a, h.who, h.what, h.to⟩
theorem Tu.At.more {w : World} {B B' : Nat} {x : Tu} (h : x.At w B) (hB : B ≤ B') : x.At w B' := ⟨h.a, h.who, h.what, h.to⟩
def Tu.zero : Tu := ⟨0, 0, 0, 0⟩
instance : Inhabited Tu := ⟨Tu.zero⟩
theorem Tu.zgb (w : World) (B : Nat) : Tu.zero.At w B := ⟨⟨by decide, by decide⟩, ⟨by decide, by decide⟩, ⟨by decide, by decide⟩, ⟨by decide, by decide⟩⟩
set_option maxRecDepth 100000 in
theorem Tu_cells {H : Type} {enc : TypeId × Value → H} {w : World} {base : Nat} {held : Bool} {fuel : Nat} {l : List Value} {y : DataW H × List MemPlace} (hsz : l.length = 4) (hf : DataW.trod enc Tryz.prog w base (fun _ => true) held fuel 69 l = some y) : ∃ x : Tu, l = x.cells ∧ x.At w w.heap.size := by
 have hu := Tryz.underlying69
 match l, hsz with
 | [c0, c1, c2, c3], _ =>
   obtain ⟨xs, m, _, hx, _, hlen, hg⟩ := DataW.trod_struct hu hf
   have o0 : Tryz.prog.cellsOf 5 = 1 := by kernel_rfl
   have o1 : Tryz.prog.cellsOf 3 = 1 := by kernel_rfl
   match xs, hlen with
   | [y0, y1, y2, y3], _ =>
     have g0 : DataW.trod enc Tryz.prog w base (fun _ => true) held m 5 [c0] = some y0 := by simpa [Value.cells, o0] using hg 0 _ rfl
     have g1 : DataW.trod enc Tryz.prog w base (fun _ => true) held m 3 [c1] = some y1 := by simpa [Value.cells, o1] using hg 1 _ rfl
     have g2 : DataW.trod enc Tryz.prog w base (fun _ => true) held m 3 [c2] = some y2 := by simpa [Value.cells, o1] using hg 2 _ rfl
     have g3 : DataW.trod enc Tryz.prog w base (fun _ => true) held m 3 [c3] = some y3 := by simpa [Value.cells, o1] using hg 3 _ rfl
     obtain ⟨a0, e0, -, w0⟩ := DataW.trod_int Tryz.underlying5 g0
     obtain ⟨a1, e1, -, w1⟩ := DataW.trod_int Tryz.underlying3 g1
     obtain ⟨a2, e2, -, w2⟩ := DataW.trod_int Tryz.underlying3 g2
     obtain ⟨a3, e3, -, w3⟩ := DataW.trod_int Tryz.underlying3 g3
     cases e0; cases e1; cases e2; cases e3
     exact ⟨⟨a0, a1, a2, a3⟩, rfl, ⟨(by simpa [Lit.wf, IntKind.min, IntKind.max, IntKind.signed, IntKind.bits] using w0), Ks.znj w1, Ks.znj w2, Ks.znj w3⟩⟩
theorem Tu_rows {H : Type} {enc : TypeId × Value → H} {w : World} {base fuel : Nat} {held : Bool} {a : Option Addr} {len cap : Nat} {x : DataW H × List MemPlace} (h : DataW.trod enc Tryz.prog w base (fun _ => true) held fuel 64 (Value.slice a len cap).cells.toList = some x) : ∃ l : List Tu, l.length = len ∧ len ≤ cap ∧ cap ≤ maxLen ∧ (∀ p ∈ l, p.At w w.heap.size) ∧ Rd w w.heap.size a (cat Tu.cells l) := Ks.rows_of Tu.cells (fun p => p.At w w.heap.size) (by decide) Tu.zdz Tryz.underlying64 (k := 4) (by kernel_rfl) (fun _ _ _ h1 h2 => Tu_cells h1 h2) h
end Go.Proofs.YtponpgcpmlcdpaaGreatDoor
