import Derived.Test.YtponpgcpmlcdpaaGreatDoorKX
import Derived.Test.YtponpgcpmlcdpaaGreatDoorBK
import Derived.OpenShut
import Derived.ChangeOld
import Derived.ChangeAt
import Derived.Deep.Fields
import Derived.Deep.Matrix
import Derived.Deep.DeepHandedRow
namespace Go.Proofs.YtponpgcpmlcdpaaGreatDoor.Ks
open Go.RowKit Go.Shelf Go.ChangeShapes Go.WideShapes Go.ChangeAt Km Kx Kt
def zc9 (x:Int):Prop := -9223372036854775808≤x∧x≤9223372036854775807
def zj1 (x:Int):Prop:=0≤x∧x≤18446744073709551615
theorem zn5 {n:Int} (h:(Lit.int .i64 n).wf=true):zc9 n:=by
 unfold zc9
 simpa [Lit.wf,IntKind.min,IntKind.max,IntKind.signed,IntKind.bits] using h
structure Sl where
 A:Option Addr
 n:Nat
 k:Nat
 xs:List Int
def Sl.val (s:Sl):Value:=.slice s.A s.n s.k
def Sl.nil:Sl:=⟨none,0,0,[]⟩
structure Sl.At (kd:IntKind) (w:World) (B:Nat) (s:Sl):Prop where
 rd:Rd w B s.A (s.xs.map (Value.int kd))
 len:s.xs.length=s.n
 le:s.n≤s.k
 max:s.k≤maxLen
 wf:∀v∈s.xs,(Lit.int kd v).wf=true
theorem Sl.At.below {kd:IntKind} {w w':World} {B B':Nat} {s:Sl} (h:s.At kd w B) (hb:Below B' w w') (hB:B≤B'):s.At kd w' B:=⟨h.rd.below (hb.mono hB),h.len,h.le,h.max,h.wf⟩
theorem Sl.At.more {kd:IntKind} {w:World} {B B':Nat} {s:Sl} (h:s.At kd w B) (hB:B≤B'):s.At kd w B':=⟨h.rd.more hB,h.len,h.le,h.max,h.wf⟩
theorem Sl.zlc (kd:IntKind) (w:World) (B:Nat):Sl.nil.At kd w B:=⟨Rd.nil _ _ _,rfl,Nat.le_refl _,Nat.zero_le _,fun _ h=>by cases h⟩
theorem rows_of {α : Type} [Inhabited α] (f : α → List Value) (F : α → Prop) {k : Nat} (hk : 0 < k) (hf : ∀ a, (f a).length = k) {H : Type} {enc : TypeId × Value → H} {P : Program} {w : World} {base fuel : Nat} {held : Bool} {T E : TypeId} (hT : P.underlying T = some (.slice E)) (hC : P.cellsOf E = k)
  (hE:∀fuel cs y,cs.length=k→DataW.trod enc P w base (fun _=>true) held fuel E cs=some y→∃a,cs=f a∧F a) {a:Option Addr} {len cap:Nat} {x:DataW H×List MemPlace}
  (h:DataW.trod enc P w base (fun _=>true) held fuel T (Value.slice a len cap).cells.toList=some x) :
  ∃l:List α,l.length=len∧len≤cap∧cap≤maxLen∧(∀p∈l,F p)∧Rd w w.heap.size a (cat f l):=by
 rcases Go.Deep.open_slice hT h with ⟨hcs,_⟩|⟨ad,l,c,m,n,D,Pl,hcs,_,hl,hm,hmm,-,hi⟩
 ·simp [Value.cells] at hcs
  obtain ⟨rfl,rfl,rfl⟩:=hcs
  exact ⟨[],rfl,Nat.le_refl _,Nat.zero_le _,(fun p hp=>by cases hp),Rd.nil _ _ _⟩
 ·simp [Value.cells] at hcs
  obtain ⟨rfl,rfl,rfl⟩:=hcs
  simp only [if_true] at hmm
  subst hmm
  have each:∀i,i < len→∃v:α,F v∧ad.block < w.heap.size∧∀j u,(f v)[j]? = some u→w.cell? (ad.add (i * k+j))=some u:=fun i hlt=>by
   obtain ⟨cs',q1,q2⟩:=hi i (by omega)
   rw [hC] at q1
   obtain ⟨_,hlen,hat⟩:=World.cells?_some q1
   obtain ⟨v,rfl,hv⟩:=hE _ _ _ hlen q2
   have hc:∀j u,(f v)[j]? = some u→w.cell? (ad.add (i * k+j))=some u:=fun j u hj=>by
    have hlt3:j < k:=by rw [←hf v];exact (List.getElem?_eq_some_iff.1 hj).1
    have:=hat j (by omega)
    rw [addr_add_add] at this
    obtain ⟨hh,e⟩:=List.getElem?_eq_some_iff.1 hj
    rw [this,←e]
    exact List.getElem?_eq_getElem hh
   obtain ⟨u,hu⟩ : ∃u,(f v)[0]? = some u:=⟨(f v)[0]'(by rw [hf];exact hk),List.getElem?_eq_getElem _⟩
   have h0:=World.block_lt_of_cell? w _ (hc 0 _ hu)
   rw [zb1] at h0
   exact ⟨v,hv,h0,hc⟩
  obtain ⟨y,hy⟩:=Go.Deep.choose_lt each
  refine ⟨(List.range len).map y,by simp,hl,hm,fun p hp => ?_,fun j u hj => ?_⟩
  ·obtain ⟨i,hi,rfl⟩:=List.mem_map.1 hp
   exact (hy i (List.mem_range.1 hi)).1
  ·obtain ⟨v,hv,e⟩:=cat_at hf hk hj
   have hlt:j / k < len:=by
    have:=(List.getElem?_eq_some_iff.1 hv).1
    simpa using this
   rw [List.getElem?_map,List.getElem?_range hlt] at hv
   simp only [Option.map_some,Option.some.injEq] at hv
   obtain ⟨-,hb,hc⟩:=hy _ hlt
   rw [hv] at hc
   refine ⟨ad,rfl,hb,?_⟩
   have:=hc _ _ e
   rwa [Nat.div_add_mod' j k] at this
end Go.Proofs.YtponpgcpmlcdpaaGreatDoor.Ks

namespace Go.Proofs.YtponpgcpmlcdpaaGreatDoor
open Go.ChangeShapes Go.WideShapes Go.ChangeAt Go.RowKit Km Kx Kt
structure Pq where
 e:Int
 t:Int
 p:Int
 s:Int
 c:Int
 st:Int
 si:Int
 ra:Int
 up:Int
 su:Int
 pen:Ks.Sl
 ch:Ks.Sl
def Pq.cells (x:Pq):List Value:=[.int .i64 x.e,.int .i64 x.t,.int .i64 x.p,.int .i64 x.s,.int .i64 x.c,.int .i64 x.st,.int .i64 x.si,.int .i64 x.ra,.int .u64 x.up,.int .u64 x.su,x.pen.val,x.ch.val]
theorem Pq.zcu (x:Pq):x.cells.length=12:=rfl
structure Pq.At (w:World) (B:Nat) (x:Pq):Prop where
 e:Ks.zc9 x.e
 t:Ks.zc9 x.t
 p:Ks.zc9 x.p
 s:Ks.zc9 x.s
 c:Ks.zc9 x.c
 st:Ks.zc9 x.st
 si:Ks.zc9 x.si
 ra:Ks.zc9 x.ra
 up:Ks.zj1 x.up
 su:Ks.zj1 x.su
 pen:x.pen.At .i64 w B
 ch:x.ch.At .i64 w B
theorem Pq.At.below {w w':World} {B B':Nat} {x:Pq} (h:x.At w B) (hb:Below B' w w') (hB:B≤B'):x.At w' B:=⟨h.e,h.t,h.p,h.s,h.c,h.st,h.si,h.ra,h.up,h.su,h.pen.below hb hB,h.ch.below hb hB⟩
theorem Pq.At.more {w:World} {B B':Nat} {x:Pq} (h:x.At w B) (hB:B≤B'):x.At w B':=⟨h.e,h.t,h.p,h.s,h.c,h.st,h.si,h.ra,h.up,h.su,h.pen.more hB,h.ch.more hB⟩
def Pq.zero:Pq:=⟨0,0,0,0,0,0,0,0,0,0,Ks.Sl.nil,Ks.Sl.nil⟩
instance:Inhabited Pq:=⟨Pq.zero⟩
theorem Pq.zfb (w:World) (B:Nat):Pq.zero.At w B:=⟨⟨by decide,by decide⟩,⟨by decide,by decide⟩,⟨by decide,by decide⟩,⟨by decide,by decide⟩,⟨by decide,by decide⟩,⟨by decide,by decide⟩,⟨by decide,by decide⟩,⟨by decide,by decide⟩,⟨by decide,by decide⟩,⟨by decide,by decide⟩,Ks.Sl.zlc _ _ _,Ks.Sl.zlc _ _ _⟩
end Go.Proofs.YtponpgcpmlcdpaaGreatDoor

namespace Go.Proofs.YtponpgcpmlcdpaaGreatDoor
open Go.ChangeShapes Go.WideShapes Go.ChangeAt Go.RowKit Km Kx Kt
structure Mg where
 k:Int
 f:Int
 t:Int
 e:Int
 b:Int
 a:Int
 n:Int
 ti:Int
 up:Int
 co:Int
 has:Bool
 pl:Pq
 id:Ks.Sl
 se:Ks.Sl
 pa:Ks.Sl
def Mg.cells (x:Mg):List Value:=[.int .i64 x.k,.int .i64 x.f,.int .i64 x.t,.int .i64 x.e,.int .i64 x.b,.int .i64 x.a,.int .i64 x.n,.int .i64 x.ti,.int .u64 x.up,.int .i64 x.co,.bool x.has]++(x.pl.cells++([x.id.val,x.se.val,x.pa.val]))
theorem Mg.zcu (x:Mg):x.cells.length=26:=rfl
structure Mg.At (w:World) (B:Nat) (x:Mg):Prop where
 k:Ks.zc9 x.k
 f:Ks.zc9 x.f
 t:Ks.zc9 x.t
 e:Ks.zc9 x.e
 b:Ks.zc9 x.b
 a:Ks.zc9 x.a
 n:Ks.zc9 x.n
 ti:Ks.zc9 x.ti
 up:Ks.zj1 x.up
 co:Ks.zc9 x.co
 pl:x.pl.At w B
 id:x.id.At .i64 w B
 se:x.se.At .u8 w B
 pa:x.pa.At .u8 w B
theorem Mg.At.below {w w':World} {B B':Nat} {x:Mg} (h:x.At w B) (hb:Below B' w w') (hB:B≤B'):x.At w' B:=⟨h.k,h.f,h.t,h.e,h.b,h.a,h.n,h.ti,h.up,h.co,h.pl.below hb hB,h.id.below hb hB,h.se.below hb hB,h.pa.below hb hB⟩
theorem Mg.At.more {w:World} {B B':Nat} {x:Mg} (h:x.At w B) (hB:B≤B'):x.At w B':=⟨h.k,h.f,h.t,h.e,h.b,h.a,h.n,h.ti,h.up,h.co,h.pl.more hB,h.id.more hB,h.se.more hB,h.pa.more hB⟩
def Mg.zero:Mg:=⟨0,0,0,0,0,0,0,0,0,0,false,Pq.zero,Ks.Sl.nil,Ks.Sl.nil,Ks.Sl.nil⟩
instance:Inhabited Mg:=⟨Mg.zero⟩
theorem Mg.zfb (w:World) (B:Nat):Mg.zero.At w B:=⟨⟨by decide,by decide⟩,⟨by decide,by decide⟩,⟨by decide,by decide⟩,⟨by decide,by decide⟩,⟨by decide,by decide⟩,⟨by decide,by decide⟩,⟨by decide,by decide⟩,⟨by decide,by decide⟩,⟨by decide,by decide⟩,⟨by decide,by decide⟩,Pq.zfb _ _,Ks.Sl.zlc _ _ _,Ks.Sl.zlc _ _ _,Ks.Sl.zlc _ _ _⟩
end Go.Proofs.YtponpgcpmlcdpaaGreatDoor

set_option linter.unusedVariables false
namespace Go.Proofs.YtponpgcpmlcdpaaGreatDoor
open Go.ChangeShapes Go.WideShapes Go.ChangeAt Go.RowKit Km Kx Kt
structure Op where
 what:Int
 m:Mg
 now:Int
 n:Int
def Op.cells (x:Op):List Value:=[.int .i64 x.what]++(x.m.cells++([.int .i64 x.now,.int .i64 x.n]))
theorem Op.zcu (x:Op):x.cells.length=29:=rfl
structure Op.At (w:World) (B:Nat) (x:Op):Prop where
 what:Ks.zc9 x.what
 m:x.m.At w B
 now:Ks.zc9 x.now
 n:Ks.zc9 x.n
theorem Op.At.below {w w':World} {B B':Nat} {x:Op} (h:x.At w B) (hb:Below B' w w') (hB:B≤B'):x.At w' B:=⟨h.what,h.m.below hb hB,h.now,h.n⟩
theorem Op.At.more {w:World} {B B':Nat} {x:Op} (h:x.At w B) (hB:B≤B'):x.At w B':=⟨h.what,h.m.more hB,h.now,h.n⟩
def Op.zero:Op:=⟨0,Mg.zero,0,0⟩
instance:Inhabited Op:=⟨Op.zero⟩
theorem Op.zfb (w:World) (B:Nat):Op.zero.At w B:=⟨⟨by decide,by decide⟩,Mg.zfb _ _,⟨by decide,by decide⟩,⟨by decide,by decide⟩⟩
end Go.Proofs.YtponpgcpmlcdpaaGreatDoor

namespace Go.Proofs.YtponpgcpmlcdpaaGreatDoor
open Go.ChangeShapes Go.WideShapes Go.ChangeAt Go.RowKit Km Kx Kt
structure Pp where
 e:Int
 b:Int
 ph:Int
 own:Pq
 best:Int
 val:Pq
 pr:Int
 ac:Int
def Pp.cells (x:Pp):List Value:=[.int .i64 x.e,.int .i64 x.b,.int .i64 x.ph]++(x.own.cells++([.int .i64 x.best]++(x.val.cells++([.int .u64 x.pr,.int .u64 x.ac]))))
theorem Pp.zcu (x:Pp):x.cells.length=30:=rfl
structure Pp.At (w:World) (B:Nat) (x:Pp):Prop where
 e:Ks.zc9 x.e
 b:Ks.zc9 x.b
 ph:Ks.zc9 x.ph
 own:x.own.At w B
 best:Ks.zc9 x.best
 val:x.val.At w B
 pr:Ks.zj1 x.pr
 ac:Ks.zj1 x.ac
theorem Pp.At.below {w w':World} {B B':Nat} {x:Pp} (h:x.At w B) (hb:Below B' w w') (hB:B≤B'):x.At w' B:=⟨h.e,h.b,h.ph,h.own.below hb hB,h.best,h.val.below hb hB,h.pr,h.ac⟩
theorem Pp.At.more {w:World} {B B':Nat} {x:Pp} (h:x.At w B) (hB:B≤B'):x.At w B':=⟨h.e,h.b,h.ph,h.own.more hB,h.best,h.val.more hB,h.pr,h.ac⟩
def Pp.zero:Pp:=⟨0,0,0,Pq.zero,0,Pq.zero,0,0⟩
instance:Inhabited Pp:=⟨Pp.zero⟩
theorem Pp.zfb (w:World) (B:Nat):Pp.zero.At w B:=⟨⟨by decide,by decide⟩,⟨by decide,by decide⟩,⟨by decide,by decide⟩,Pq.zfb _ _,⟨by decide,by decide⟩,Pq.zfb _ _,⟨by decide,by decide⟩,⟨by decide,by decide⟩⟩
end Go.Proofs.YtponpgcpmlcdpaaGreatDoor
