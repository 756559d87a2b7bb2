import Derived.Test.YtponpgcpmlcdpaaGreatDoorKX
import Derived.Test.YtponpgcpmlcdpaaGreatDoorBK
import Derived.OrdersIn
import Derived.TacticsIn
import Derived.RangeFuncCalls
import Derived.BigQuiet
import Derived.OwnWalk
namespace Go.Proofs.YtponpgcpmlcdpaaGreatDoor
open Go Go.RowKit
section
variable {P:Program} {ops:Array Oper} {md:Region.Mode} {Q:Exit→Act→World→Prop}
end
namespace Kx
open Km
section
variable {P:Program} {ops:Array Oper} {md:Region.Mode} {Q:Exit→Act→World→Prop} {D:Nat→Bool} {w0:World} {l:List (Nat×List Value)} {r:List Rw} {F:Fz} {a:Act}
end
section
variable {P:Program} {ops:Array Oper} {rest:List Oper} {op:Oper} {a:Act} {w w0:World} {l:List (Nat×List Value)} {r:List Rw} {F:Fz} {Q:Exit→Act→World→Prop}
theorem zj0 (hB : Hid (Bxs w0 w l r F)) (hg : op.guard = none) (x c : Operand) (t : TypeId) (hop : op.op = Op.makeSlice t x c) (e : TypeId) (i : TypeInfo) (z : Value) (size : Nat) (h1 : P.underlying t = some (.slice e)) (h2 : P.info? e = some i) (h3 : i.zero = some z) (h4 : i.size = size)
  (kl kc:IntKind) (L C:Int) (n:Nat) (hl:a.eval x = .int kl L) (hc:a.eval c = .int kc C) (hL:L=(n:Int)) (hC:C=(n:Int)) (b2:i.bytes * n≤281474976710656) (b3:n≤maxLen)
  (h:∀g w',Hid (Bxs w0 w' l (⟨some ⟨g,0,none⟩,n,e,size,n,(madeCells z.cells (n * size)).toList⟩::r) F)→wpList P ops Q rest (a.put op.dst (.slice (some ⟨g,0,none⟩) n n)) w'):wpList P ops Q (op::rest) a w :=
 wpList_make_full w hg x c t hop w0.heap.size e i z size h1 h2 h3 h4 kl kc L C n hl hc hL hC b2 b3 hB.out.size fun _ hown hgrow =>
  h _ _ (Lib.hid (hB.out.row hgrow (y:=⟨some ⟨_,0,none⟩,n,e,size,n,(madeCells z.cells (n * size)).toList⟩) hown (.inr rfl)))
end
theorem Bxs.others {w0 w w':World} {l:List (Nat×List Value)} {r:List Rw} {F:Fz} {row:Option Nat} (h:Bxs w0 w l r F) (hg:w.grownBy w' row) (hr:∀g,row=some g→w0.heap.size≤g∧∃o:Obj,w.heap[g]? = some o∧o.isCells=false):Bxs w0 w' l r F:=by
 have cells:∀g c t fz,w.heap[g]? = some (Obj.cells c t fz)→row≠some g:=fun g c t fz e er=>by
  obtain ⟨-,o,ho,hc⟩:=hr g er
  rw [e] at ho
  cases ho
  cases hc
 have cellOf:∀ {ad:Addr} {v:Value},w.cell? ad=some v→∃c t fz,w.heap[ad.block]? = some (Obj.cells c t fz):=fun {ad v} e=>by
  unfold World.cell? at e
  split at e
  ·rename_i c t fz e1;exact ⟨c,t,fz,e1⟩
  ·cases e
 refine ⟨h.below.grown hg h.size (fun g e=>(hr g e).1),h.nodup,fun p hp => ?_,fun x hx=>⟨(h.rows x hx).1.kept hg (fun g e q => ?_),(h.rows x hx).2⟩,h.apart,fun q hq j u hj => ?_⟩
 ·obtain ⟨h1,h2,h3,h4⟩:=h.each p hp
  by_cases he:p.2=[]
  ·refine ⟨h1,Nat.lt_of_lt_of_le h2 hg.size,?_,?_⟩
   ·rw [he];exact fun j v hv=>(by cases hv)
   ·rw [he];exact fun j hj=>absurd hj (Nat.not_lt_zero _)
  ·obtain ⟨v, hv⟩ : ∃ v, p.2[0]? = some v := by
    cases hq:p.2 with
    |nil=>exact absurd hq he
    |cons a t=>exact ⟨a,rfl⟩
   obtain ⟨c,t,fz,e⟩:=cellOf (h3 0 v hv)
   have hb:w'.heap[p.1]? = w.heap[p.1]?:=hg.block _ h2 (fun e2=>cells _ _ _ _ e e2.symm)
   exact ⟨h1,Nat.lt_of_lt_of_le h2 hg.size,fun j v hv=>(World.cell?_of_block hb).trans (h3 j v hv),fun j hj=>⟨by rw [World.cell?_of_block hb];exact (h4 j hj).1,by rw [World.frozen?_of_block hb];exact (h4 j hj).2⟩⟩
 ·have hx:=(h.rows _ hx).1
  rcases hx.2 with ⟨e1,-⟩|⟨g',cap,cur,e1,-,hgb,-⟩
  ·unfold Rw.blk at e
   rw [e1] at e
   cases e
  ·unfold Rw.blk at e
   rw [e1] at e
   cases e
   exact cells _ _ _ _ hgb q
 ·obtain ⟨ad,e,h1,h2,h3,h4⟩:=h.stay q hq j u hj
  obtain ⟨c,t,fz,e2⟩:=cellOf h2
  rw [zd0] at e2
  have hb:w'.heap[ad.block]? = w.heap[ad.block]?:=hg.block _ h1 (fun e3=>cells _ _ _ _ e2 e3.symm)
  exact ⟨ad,e,Nat.lt_of_lt_of_le h1 hg.size,by rw [World.cell?_of_block (show w'.heap[(ad.add j).block]? = w.heap[(ad.add j).block]? by rw [zd0];exact hb)];exact h2,h3,h4⟩
end Kx
end Go.Proofs.YtponpgcpmlcdpaaGreatDoor
namespace Go.Proofs.YtponpgcpmlcdpaaGreatDoor
open Go.RowKit Go.Shelf Km Kx
section
variable {P:Program} {ops:Array Oper} {md:Region.Mode} {Q:Exit→Act→World→Prop} {D:Nat→Bool} {w0:World} {l:List (Nat×List Value)} {r:List Rw} {F:Fz} {a:Act}
end
end Go.Proofs.YtponpgcpmlcdpaaGreatDoor
