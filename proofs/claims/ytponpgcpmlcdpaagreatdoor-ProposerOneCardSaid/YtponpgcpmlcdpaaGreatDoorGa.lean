import Derived.Test.YtponpgcpmlcdpaaGreatDoorKX
import Derived.Test.YtponpgcpmlcdpaaGreatDoorGm
import Derived.Test.YtponpgcpmlcdpaaGreatDoorBMf
set_option maxRecDepth 100000
namespace Go.Proofs.YtponpgcpmlcdpaaGreatDoor
open Go.RowKit Go.Shelf
set_option linter.unusedVariables false
instance:Kx.OneC Tryz.prog 4:=⟨Tryz.isAgg4⟩
instance:Kx.ZOne Tryz.prog 4 (.bool false):=⟨Tryz.zeroValue4⟩
instance:Kx.OneC Tryz.prog 3:=⟨Tryz.isAgg3⟩
instance:Kx.ZOne Tryz.prog 3 (.int .i64 0):=⟨Tryz.zeroValue3⟩
instance:Kx.OneC Tryz.prog 2:=⟨Tryz.isAgg2⟩
instance:Kx.ZOne Tryz.prog 2 (.int .i64 0):=⟨Tryz.zeroValue2⟩
instance:Kx.OneC Tryz.prog 32:=⟨Tryz.isAgg32⟩
instance:Kx.ZOne Tryz.prog 32 (.int .u64 0):=⟨Tryz.zeroValue32⟩
instance:Kx.OneC Tryz.prog 22:=⟨Tryz.isAgg22⟩
instance:Kx.OneC Tryz.prog 30:=⟨Tryz.isAgg30⟩
instance:Kx.AggC Tryz.prog 24 30:=⟨Tryz.isAgg24,Tryz.sizeOf24⟩
instance:Kx.ZAgg Tryz.prog 24 [.int .i64 0,.int .i64 0,.int .i64 0,.int .i64 0,.int .i64 0,.slice none 0 0,.int .i64 0,.int .i64 0,.int .i64 0,.int .i64 0,.int .i64 0,.int .i64 0,.int .i64 0,.int .i64 0,.int .i64 0,.int .i64 0,.int .i64 0,.int .i64 0,.int .i64 0,.int .i64 0,.int .i64 0,.int .i64 0,.int .i64 0,.int .i64 0,.int .i64 0,.int .i64 0,.int .i64 0,.int .i64 0,.int .i64 0,.int .i64 0]:=⟨Tryz.zeroValue24⟩
instance:Kx.AggC Tryz.prog 34 12:=⟨Tryz.isAgg34,Tryz.sizeOf34⟩
instance:Kx.ZAgg Tryz.prog 34 [.int .i64 0,.int .i64 0,.int .i64 0,.int .i64 0,.int .i64 0,.int .i64 0,.int .i64 0,.int .i64 0,.int .u64 0,.int .u64 0,.slice none 0 0,.slice none 0 0]:=⟨Tryz.zeroValue34⟩
end Go.Proofs.YtponpgcpmlcdpaaGreatDoor
namespace Go.Proofs.YtponpgcpmlcdpaaGreatDoor
open Go.RowKit Go.Shelf Km Kx Kc
theorem i64s_get {zs:List Int} {k:Nat} {x:Int} (h:zs[k]? = some x):(Kc.i64s zs)[k]? = some (.int .i64 x):=by unfold Kc.i64s;rw [List.getElem?_map,h];rfl
theorem Rd.num {w:World} {B:Nat} {A:Option Addr} {l:List Int} (h:Rd w B A (Kc.i64s l)) {k:Nat} (hk:k < l.length):∃ad,A=some ad∧ad.block < B∧w.cell? (ad.add k)=some (.int .i64 (l.getD k 0)):=by
 obtain ⟨x,hx⟩ : ∃x,l[k]? = some x:=⟨l[k],List.getElem?_eq_getElem hk⟩
 obtain ⟨ad,e,hb,hc⟩:=h k _ (i64s_get hx)
 refine ⟨ad,e,hb,?_⟩
 rw [List.getD_eq_getElem?_getD,hx];exact hc
def pc (x:Gm.Pl) (A:Option Addr) (n c:Nat) (A':Option Addr) (n' c':Nat):List Value :=
 [.int .i64 x.e,.int .i64 x.t,.int .i64 x.p,.int .i64 x.s,.int .i64 x.c,.int .i64 x.st,.int .i64 x.si,.int .i64 x.ra,.int .u64 x.up,.int .u64 x.su,.slice A n c,.slice A' n' c']
structure PAt (w:World) (B:Nat) (x:Gm.Pl) (A:Option Addr) (n c:Nat) (A':Option Addr) (n' c':Nat):Prop where
 ok:x.Ok
 pen:Rd w B A (Kc.i64s x.pen)
 ch:Rd w B A' (Kc.i64s x.ch)
 k':n'≤c'
 n:x.pen.length=n
 n':x.ch.length=n'
theorem PAt.below {w w':World} {B:Nat} {x:Gm.Pl} {A:Option Addr} {n c:Nat} {A':Option Addr} {n' c':Nat} (h:PAt w B x A n c A' n' c') (hb:Below B w w'):PAt w' B x A n c A' n' c':=⟨h.ok,h.pen.below hb,h.ch.below hb,h.k',h.n,h.n'⟩
theorem PAt.more {w:World} {B B':Nat} {x:Gm.Pl} {A:Option Addr} {n c:Nat} {A':Option Addr} {n' c':Nat} (h:PAt w B x A n c A' n' c') (hB:B≤B'):PAt w B' x A n c A' n' c':=⟨h.ok,h.pen.more hB,h.ch.more hB,h.k',h.n,h.n'⟩
theorem in13_any (n lo hi:Int) (w:World):Calls Tryz.prog 71 #[.int .i64 n,.int .i64 lo,.int .i64 hi] w fun e w'=>e = .returned (.bool (decide (lo≤n)&&decide (n≤hi)))∧w=w':=by
 by_cases h1:lo≤n
 ·have d1:decide (lo≤n)=true:=by simp [h1]
  rw [d1,Bool.true_and]
  go_enter Tryz.func71,Tryz.ntmps71
  go_wp2
  go_ret
  exact ⟨rfl,rfl⟩
 ·have d1:decide (lo≤n)=false:=by simp;omega
  rw [d1,Bool.false_and]
  go_enter Tryz.func71,Tryz.ntmps71
  go_wp2
  go_ret
  exact ⟨rfl,rfl⟩
theorem span_any (n:Int) (w:World):Calls Tryz.prog 72 #[.int .i64 n] w fun e w'=>e = .returned (.bool (decide (1≤n)&&decide (n≤1048576)))∧w=w':=by
 by_cases h1:1≤n
 ·have d1:decide ((1:Int)≤n)=true:=by simp [h1]
  rw [d1,Bool.true_and]
  go_enter Tryz.func72,Tryz.ntmps72
  go_wp2
  go_ret
  exact ⟨rfl,rfl⟩
 ·have d1:decide ((1:Int)≤n)=false:=by simp;omega
  rw [d1,Bool.false_and]
  go_enter Tryz.func72,Tryz.ntmps72
  go_wp2
  go_ret
  exact ⟨rfl,rfl⟩
end Go.Proofs.YtponpgcpmlcdpaaGreatDoor
namespace Go.Proofs.YtponpgcpmlcdpaaGreatDoor
open Go.RowKit Go.Shelf Km Kx Kc
set_option linter.unusedVariables false
def MayP (x:Gm.Pl) (to t:Int) (g b:Nat) (d w dwell:Int):Prop:=to≠x.t∧(x.ch.length=0∨d≤t - x.ch.getD (x.ch.length - 1) 0)∧(x.ch.length < b∨w < t - x.ch.getD (x.ch.length - b) 0)∧(Gm.has g x.t=false∨dwell≤t - x.si)
instance (x:Gm.Pl) (to t:Int) (g b:Nat) (d w dwell:Int):Decidable (MayP x to t g b d w dwell):=by unfold MayP;infer_instance
structure RightP (x:Gm.Pl):Prop where
 e:0≤x.e
 t1 : -1≤x.t
 t2:x.t < 16
 p1 : -1≤x.p
 p2:x.p < 16
 s1 : -1≤x.s
 s2:x.s < 16
 c1:0≤x.c
 c2:x.c≤100
 st:Gm.T x.st
 si:Gm.T x.si
 ra:Gm.T x.ra
 up:x.up≤65535
 su:x.su≤65535
 np:x.pen.length≤16
 nc:x.ch.length≤8
 pen:∀v∈x.pen,0≤v∧v≤1000000
 ch:∀v∈x.ch,Gm.T v
 sd:Pm.Sd x.ch
def Says (w:World) (R:Prop) (e:Ending) (w':World):Prop:=∃b,e = .returned (.bool b)∧(b=true↔R)∧Below w.heap.size w w'
theorem zf3 {w w':World} {R:Prop} {e:Ending} (he:e = .returned (.bool false)) (h:¬ R) (hb:Below w.heap.size w w'):Says w R e w':=⟨false,he,⟨fun q=>(by cases q),fun q=>absurd q h⟩,hb⟩
theorem zns {w w':World} {R:Prop} {e:Ending} (he:e = .returned (.bool true)) (h:R) (hb:Below w.heap.size w w'):Says w R e w':=⟨true,he,⟨fun _=>h,fun _=>rfl⟩,hb⟩
theorem getD_mem {l:List Int} {k:Nat} (h:k < l.length):l.getD k 0∈l:=by
 rw [List.getD_eq_getElem?_getD,List.getElem?_eq_getElem h];exact List.getElem_mem h
theorem mem_getD {l:List Int} {v:Int} (h:v∈l):∃k,k < l.length∧l.getD k 0=v:=by
 obtain ⟨k,hk,e⟩:=List.mem_iff_getElem.1 h
 exact ⟨k,hk,by rw [List.getD_eq_getElem?_getD,List.getElem?_eq_getElem hk];exact e⟩
structure FitsP (N b:Nat) (x:Gm.Pl):Prop where
 r:RightP x
 n:x.pen.length=N
 t:x.t < N
 p:x.p < N
 s:x.s < N
 up:x.up / 2 ^ N=0
 su:x.su / 2 ^ N=0
 b:x.ch.length≤b
structure zfa (c:Cf) (xs:List Int):Prop where
 f:0≤c.f∧c.f≤3
 deciders:1≤c.deciders∧c.deciders≤4
 routers:1≤c.routers∧c.routers≤4
 targets:1≤c.targets∧c.targets≤16
 observers:1≤c.observers∧c.observers≤7
 n:(c.tn:Int)=c.targets
 ti:∀v∈xs,0≤v∧v≤15
 every:1≤c.every∧c.every≤1048576
 wait:1≤c.wait∧c.wait≤1048576
 fresh:1≤c.fresh∧c.fresh≤1048576
 l:1≤c.l∧c.l≤1048576
 dwell:1≤c.dwell∧c.dwell≤1048576
 d:1≤c.d∧c.d≤1048576
 w:1≤c.w∧c.w≤1048576
 half:1≤c.half∧c.half≤1048576
 stepTime:1≤c.stepTime∧c.stepTime≤1048576
 s:1≤c.s∧c.s≤1048576
 span:1≤c.span∧c.span≤1048576
 retry:1≤c.retry∧c.retry≤1048576
 m:0≤c.m∧c.m≤1048576
 rise:1≤c.rise∧c.rise≤100
 fall:1≤c.fall∧c.fall≤100
 b:1≤c.b∧c.b≤8
 hit:0≤c.hit∧c.hit≤1000000
 suppress:1≤c.suppress∧c.suppress≤1000000
 reuse:0≤c.reuse∧c.reuse≤c.suppress - 1
 first:1≤c.first∧c.first≤100
 step:1≤c.step∧c.step≤100
 cap:1≤c.cap∧c.cap≤1000
 room:1≤c.room∧c.room≤64
 tries:1≤c.tries∧c.tries≤20
theorem zli (n:Nat):(madeCells (Value.int .i64 0).cells (n * 1)).toList=Kc.i64s (List.replicate n 0):=by
 show (madeCells #[Value.int .i64 0] (n * 1)).toList=_
 rw [toList_madeCells_one]
 simp [Kc.i64s]
def zp (n:Nat):Gm.Pl:=⟨0,-1,-1,-1,0,0,0,0,0,0,List.replicate n 0,[]⟩
def noPlan:Gm.Pl:=⟨0,0,0,0,0,0,0,0,0,0,[],[]⟩
theorem znn (A:Option Addr) (n c:Nat):Tryz.prog.built 34 [(1,.int .i64 (-1)),(2,.int .i64 (-1)),(3,.int .i64 (-1)),(10,.slice A n c)]=some (pc (zp n) A n c none 0 0).toArray:=by kernel_rfl
end Go.Proofs.YtponpgcpmlcdpaaGreatDoor
