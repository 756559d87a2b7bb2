import Derived.Test.YtponpgcpmlcdpaaGreatDoorKpm
set_option linter.unusedVariables false
namespace Go.Proofs.YtponpgcpmlcdpaaGreatDoor
open Go.ChangeShapes Go.WideShapes Go.ChangeAt Go.RowKit Km Kx Kt
structure Rn where
 who:Int
 what:Int
 to:Int
 down:Bool
def Rn.cells (x:Rn):List Value:=[.int .i64 x.who,.int .i64 x.what,.int .i64 x.to,.bool x.down]
theorem Rn.zcu (x:Rn):x.cells.length=4:=rfl
structure Rn.At (w:World) (B:Nat) (x:Rn):Prop where
 who:Ks.zc9 x.who
 what:Ks.zc9 x.what
 to:Ks.zc9 x.to
theorem Rn.At.below {w w':World} {B B':Nat} {x:Rn} (h:x.At w B) (hb:Below B' w w') (hB:B≤B'):x.At w' B:=⟨h.who,h.what,h.to⟩
theorem Rn.At.more {w:World} {B B':Nat} {x:Rn} (h:x.At w B) (hB:B≤B'):x.At w B':=⟨h.who,h.what,h.to⟩
def Rn.zero:Rn:=⟨0,0,0,false⟩
instance:Inhabited Rn:=⟨Rn.zero⟩
theorem Rn.zfb (w:World) (B:Nat):Rn.zero.At w B:=⟨⟨by decide,by decide⟩,⟨by decide,by decide⟩,⟨by decide,by decide⟩⟩
set_option maxRecDepth 100000 in
theorem Rn_cells {H:Type} {enc:TypeId×Value→H} {w:World} {base:Nat} {held:Bool} {fuel:Nat} {l:List Value} {y:DataW H×List MemPlace} (hsz:l.length=4) (hf:DataW.trod enc Tryz.prog w base (fun _=>true) held fuel 59 l=some y):∃x:Rn,l=x.cells∧x.At w w.heap.size:=by
 have hu:=Tryz.underlying59
 match l,hsz with
 | [c0, c1, c2, c3], _ =>
   obtain ⟨xs,m,_,hx,_,hlen,hg⟩:=DataW.trod_struct hu hf
   have o0:Tryz.prog.cellsOf 3=1:=by kernel_rfl
   have o1:Tryz.prog.cellsOf 4=1:=by kernel_rfl
   match xs,hlen with
   | [y0, y1, y2, y3], _ =>
     have g0:DataW.trod enc Tryz.prog w base (fun _=>true) held m 3 [c0]=some y0:=by simpa [Value.cells,o0] using hg 0 _ rfl
     have g1:DataW.trod enc Tryz.prog w base (fun _=>true) held m 3 [c1]=some y1:=by simpa [Value.cells,o0] using hg 1 _ rfl
     have g2:DataW.trod enc Tryz.prog w base (fun _=>true) held m 3 [c2]=some y2:=by simpa [Value.cells,o0] using hg 2 _ rfl
     have g3:DataW.trod enc Tryz.prog w base (fun _=>true) held m 4 [c3]=some y3:=by simpa [Value.cells,o1] using hg 3 _ rfl
     obtain ⟨a0,e0,-,w0⟩:=DataW.trod_int Tryz.underlying3 g0
     obtain ⟨a1,e1,-,w1⟩:=DataW.trod_int Tryz.underlying3 g1
     obtain ⟨a2,e2,-,w2⟩:=DataW.trod_int Tryz.underlying3 g2
     obtain ⟨a3,e3,-⟩:=DataW.trod_bool Tryz.underlying4 g3
     cases e0;cases e1;cases e2;cases e3
     exact ⟨⟨a0,a1,a2,a3⟩,rfl,⟨Ks.zn5 w0,Ks.zn5 w1,Ks.zn5 w2⟩⟩
theorem Rn_rows {H:Type} {enc:TypeId×Value→H} {w:World} {base fuel:Nat} {held:Bool} {a:Option Addr} {len cap:Nat} {x:DataW H×List MemPlace} (h:DataW.trod enc Tryz.prog w base (fun _=>true) held fuel 50 (Value.slice a len cap).cells.toList=some x):∃l:List Rn,l.length=len∧len≤cap∧cap≤maxLen∧(∀p∈l,p.At w w.heap.size)∧Rd w w.heap.size a (cat Rn.cells l):=Ks.rows_of Rn.cells (fun p=>p.At w w.heap.size) (by decide) Rn.zcu Tryz.underlying50 (k:=4) (by kernel_rfl) (fun _ _ _ h1 h2=>Rn_cells h1 h2) h
end Go.Proofs.YtponpgcpmlcdpaaGreatDoor
