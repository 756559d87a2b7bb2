import Derived.Test.YtponpgcpmlcdpaaGreatDoorBWx
namespace Go.Proofs.YtponpgcpmlcdpaaGreatDoor.Pm
open Go.RowKit
structure Pl where
 e:Int
 t:Int
 p:Int
 s:Int
 c:Int
 st:Int
 si:Int
 ra:Int
 up:Int
 su:Int
 pen:List Int
 ch:List Int
 deriving DecidableEq
def I (n:Int):Prop := -9223372036854775808≤n∧n≤9223372036854775807
def U (n:Int):Prop:=0≤n∧n≤18446744073709551615
structure Pl.Ok (x:Pl):Prop where
 e:I x.e
 t:I x.t
 p:I x.p
 s:I x.s
 c:I x.c
 st:I x.st
 si:I x.si
 ra:I x.ra
 up:U x.up
 su:U x.su
 pen:Wm.Fits x.pen
 ch:Wm.Fits x.ch
def sg (n:Int):Int:=if n≤9223372036854775807 then n else n - 18446744073709551616
def us (n:Int):Int:=if 0≤n then n else n+18446744073709551616
theorem zp1 {n:Int} (h:U n):I (sg n):=by unfold U at h;unfold I sg;split<;>omega
theorem zpt {n:Int} (h:I n):U (us n):=by unfold I at h;unfold U us;split<;>omega
theorem us_sg {n:Int} (h:U n):us (sg n)=n:=by unfold U at h;unfold us sg;split<;>split<;>omega
def Pl.nums (x:Pl):List Int:=[x.e,x.t,x.p,x.s,x.c,x.st,x.si,x.ra,sg x.up,sg x.su]
theorem zqt {x:Pl}:x.nums.length≤64:=by show 10≤64;decide
theorem Pl.ze1 {x:Pl} (h:x.Ok):Wm.Fits x.nums:=by
 intro n hn
 have h1:=zp1 h.up
 have h2:=zp1 h.su
 simp only [Pl.nums,List.mem_cons,List.not_mem_nil,or_false] at hn
 rcases hn with rfl|rfl|rfl|rfl|rfl|rfl|rfl|rfl|rfl|rfl
 ·exact h.e
 ·exact h.t
 ·exact h.p
 ·exact h.s
 ·exact h.c
 ·exact h.st
 ·exact h.si
 ·exact h.ra
 ·exact h1
 ·exact h2
def lows:List Int:=[0,-1,-1,-1,0,0,0,0,0,0]
def tops:List Int:=[9223372036854775807,15,15,15,100,1099511627776,1099511627776,1099511627776,65535,65535]
def At (ns:List Int) (k:Nat):Prop:=lows.getD k 0≤ns.getD k 0∧ns.getD k 0≤tops.getD k 0
def Bd (l:List Int) (size:Nat) (most:Int):Prop:=l.length≤size∧∀n∈l,0≤n∧n≤most
def Sd (l:List Int):Prop:=∀k,k+1 < l.length→l.getD k 0≤l.getD (k+1) 0
def Rt (ns pen ch:List Int):Prop:=(∀k,k < 10→At ns k)∧Bd pen 16 1000000∧Bd ch 8 1099511627776∧Sd ch
noncomputable def ask (q:Prop):Bool:=@decide q (Classical.propDecidable q)
theorem zbp {q:Prop} (h:q):ask q=true:=by unfold ask;exact @decide_eq_true _ (Classical.propDecidable q) h
theorem zba {q:Prop} (h:¬ q):ask q=false:=by unfold ask;exact @decide_eq_false _ (Classical.propDecidable q) h
noncomputable def Pl.right (x:Pl):Bool:=ask (Rt x.nums x.pen x.ch)
def U3 (a b c:List Int):List Int:=Wm.zat a a.length++(Wm.zat b b.length++Wm.zat c c.length)
noncomputable def Pl.put (x:Pl):List Int×Int:=if x.right=true then (U3 x.nums x.pen x.ch,0) else ([],41)
theorem Pl.zfy {x:Pl} (h:x.right=true):x.put=(U3 x.nums x.pen x.ch,0):=by unfold Pl.put;rw [if_pos h]
theorem Pl.zjf {x:Pl} (h:x.right=false):x.put=([],41):=by unfold Pl.put;rw [if_neg (by rw [h];decide)]
def get3 (b:List Int):Option (List Int×List Int×List Int) :=
 if (Wm.za1 b 0).2.2≠0 then none
 else if (Wm.za1 b (Wm.za1 b 0).2.1).2.2≠0 then none
 else if (Wm.za1 b (Wm.za1 b (Wm.za1 b 0).2.1).2.1).2.2≠0 then none
 else if (Wm.za1 b (Wm.za1 b (Wm.za1 b 0).2.1).2.1).2.1=b.length then
  some ((Wm.za1 b 0).1,(Wm.za1 b (Wm.za1 b 0).2.1).1,(Wm.za1 b (Wm.za1 b (Wm.za1 b 0).2.1).2.1).1)
 else none
def zero:Pl:=⟨0,0,0,0,0,0,0,0,0,0,[],[]⟩
def plOf (ns pen ch:List Int):Pl :=
 ⟨ns.getD 0 0,ns.getD 1 0,ns.getD 2 0,ns.getD 3 0,ns.getD 4 0,ns.getD 5 0,ns.getD 6 0,ns.getD 7 0,us (ns.getD 8 0),us (ns.getD 9 0),pen,ch⟩
noncomputable def get (b:List Int):Pl×Int :=
 match get3 b with
 |none=>(zero,41)
 |some (ns,pen,ch)=>if ns.length=10∧ask (Rt ns pen ch)=true then (plOf ns pen ch,0) else (zero,41)
theorem get_none {b:List Int} (h:get3 b=none):get b=(zero,41):=by unfold get;rw [h]
theorem get_no {b ns pen ch:List Int} (h:get3 b=some (ns,pen,ch)) (h2:¬ (ns.length=10∧ask (Rt ns pen ch)=true)):get b=(zero,41):=by
 unfold get;rw [h];dsimp only;rw [if_neg h2]
theorem zlm {b ns pen ch:List Int} (h:get3 b=some (ns,pen,ch)) (h1:ns.length=10) (h2:ask (Rt ns pen ch)=true):get b=(plOf ns pen ch,0):=by
 unfold get;rw [h];dsimp only;rw [if_pos ⟨h1,h2⟩]
theorem len10 {ns:List Int} (h:ns.length=10):ns=[ns.getD 0 0,ns.getD 1 0,ns.getD 2 0,ns.getD 3 0,ns.getD 4 0,ns.getD 5 0,ns.getD 6 0,ns.getD 7 0,ns.getD 8 0,ns.getD 9 0]:=by
 match ns,h with
 | [_,_,_,_,_,_,_,_,_,_],_=>rfl
theorem zcs {ns:List Int} (h:Wm.Fits ns) (k:Nat):I (ns.getD k 0):=by
 rw [List.getD_eq_getElem?_getD]
 cases hk:ns[k]? with
 |none=>exact ⟨by decide,by decide⟩
 |some x=>exact h x (List.mem_of_getElem? hk)
theorem zid {x:Pl} (h:x.Ok):plOf x.nums x.pen x.ch=x:=by
 unfold plOf Pl.nums
 simp only [List.getD_cons_zero,List.getD_cons_succ,us_sg h.up,us_sg h.su]
theorem ok_plOf {ns pen ch:List Int} (hf:Wm.Fits ns) (hp:Wm.Fits pen) (hc:Wm.Fits ch):(plOf ns pen ch).Ok :=
 ⟨zcs hf 0,zcs hf 1,zcs hf 2,zcs hf 3,zcs hf 4,zcs hf 5,zcs hf 6,zcs hf 7,zpt (zcs hf 8),zpt (zcs hf 9),hp,hc⟩
theorem zfh:zero.Ok:=⟨⟨by decide,by decide⟩,⟨by decide,by decide⟩,⟨by decide,by decide⟩,⟨by decide,by decide⟩,⟨by decide,by decide⟩,⟨by decide,by decide⟩,⟨by decide,by decide⟩,⟨by decide,by decide⟩,
 ⟨by decide,by decide⟩,⟨by decide,by decide⟩,(fun _ h=>absurd h List.not_mem_nil),(fun _ h=>absurd h List.not_mem_nil)⟩
theorem nums_inj {x y:Pl} (hx:x.Ok) (hy:y.Ok) (h:x.nums=y.nums) (h1:x.pen=y.pen) (h2:x.ch=y.ch):x=y:=by
 rw [←zid hx,←zid hy,h,h1,h2]
theorem zew {b l : List Int} {n to : Nat} (h : Wm.za1 b (n : Int) = (l, (to : Int), 0)) (hb : ∀ c ∈ b, 0 ≤ c ∧ c ≤ 255) :
  ¬ 64 < l.length∧Wm.Fits l∧n≤to∧to≤b.length∧b.take n++Wm.zat l l.length=b.take to:=by
 by_cases he:(Wm.rlen b (n:Int) 64).2.2=0
 ·obtain ⟨k,m,hl,hrd,hk,_,m1,m2,e2⟩:=Wm.zd1 he hb
  rw [Int.toNat_natCast] at e2
  have hl':Wm.rlen b (n:Int) 64=((k:Int),((n+m:Nat):Int),0):=by rw [hl];congr 2
  rw [Wm.zhp hl'] at h
  obtain ⟨l',to',e3,h4,hf,hto,e4⟩:=Wm.znr hb k (n+m) (by omega) (by rw [h])
  rw [h] at e3
  injection e3 with e5 e6
  injection e6 with e6 _
  subst e5
  obtain rfl:to=to':=by omega
  have hlen:=congrArg List.length e4
  simp only [List.length_append,List.length_take] at hlen
  refine ⟨by omega,hf,by omega,hto,?_⟩
  rw [←e4]
  unfold Wm.zat
  rw [List.take_of_length_le (Nat.le_refl _),h4,←e2,←List.append_assoc,Wm.zfp]
 ·rw [Wm.zh7 he] at h
  injection h with _ h
  injection h with _ h
  exact absurd h he
theorem zd2 {b:List Int} {n:Nat} (h:(Wm.za1 b (n:Int)).2.2=0) (hb:∀c∈b,0≤c∧c≤255):∃(l:List Int) (to:Nat),Wm.za1 b (n:Int)=(l,(to:Int),0):=by
 by_cases he:(Wm.rlen b (n:Int) 64).2.2=0
 ·obtain ⟨k,m,hl,hrd,hk,_,m1,m2,e2⟩:=Wm.zd1 he hb
  have hl':Wm.rlen b (n:Int) 64=((k:Int),((n+m:Nat):Int),0):=by rw [hl];congr 2
  rw [Wm.zhp hl'] at h ⊢
  obtain ⟨l',to',e3,h4,hf,hto,e4⟩:=Wm.znr hb k (n+m) (by omega) h
  exact ⟨l',to',e3⟩
 ·rw [Wm.zh7 he] at h
  exact absurd h he
theorem zlq {b:List Int} (h:(Wm.za1 b 0).2.2≠0):get3 b=none:=by unfold get3;rw [if_pos h]
theorem zlp {b l:List Int} {n:Nat} (h:Wm.za1 b 0=(l,(n:Int),0)) (h1:(Wm.za1 b (n:Int)).2.2≠0):get3 b=none:=by
 unfold get3;rw [h,if_neg (by simp),if_pos h1]
theorem zlo {b l m:List Int} {n k:Nat} (h:Wm.za1 b 0=(l,(n:Int),0)) (h1:Wm.za1 b (n:Int)=(m,(k:Int),0)) (h2:(Wm.za1 b (k:Int)).2.2≠0):get3 b=none:=by
 unfold get3;rw [h];dsimp only;rw [h1,if_neg (by simp),if_neg (by simp),if_pos h2]
theorem zln {b l m o:List Int} {n k j:Nat} (h:Wm.za1 b 0=(l,(n:Int),0)) (h1:Wm.za1 b (n:Int)=(m,(k:Int),0)) (h2:Wm.za1 b (k:Int)=(o,(j:Int),0)) (hj:j≠b.length):get3 b=none:=by
 unfold get3;rw [h];dsimp only;rw [h1];dsimp only;rw [h2,if_neg (by simp),if_neg (by simp),if_neg (by simp),if_neg (by dsimp only;omega)]
theorem zm6 {b l m o:List Int} {n k j:Nat} (h:Wm.za1 b 0=(l,(n:Int),0)) (h1:Wm.za1 b (n:Int)=(m,(k:Int),0)) (h2:Wm.za1 b (k:Int)=(o,(j:Int),0)) (hj:j=b.length):get3 b=some (l,m,o):=by
 unfold get3;rw [h];dsimp only;rw [h1];dsimp only;rw [h2,if_neg (by simp),if_neg (by simp),if_neg (by simp),if_pos (by dsimp only;omega)]
theorem zo7 {b : List Int} (hb : ∀ c ∈ b, 0 ≤ c ∧ c ≤ 255) :
  ((Wm.za1 b 0).2.2 ≠ 0 ∧ get3 b = none) ∨ ∃ (l : List Int) (n : Nat), Wm.za1 b 0 = (l, (n : Int), 0) ∧ n ≤ b.length ∧ Wm.Fits l ∧ ¬ 64 < l.length ∧
    (((Wm.za1 b (n : Int)).2.2 ≠ 0 ∧ get3 b = none) ∨ ∃ (m : List Int) (k : Nat), Wm.za1 b (n : Int) = (m, (k : Int), 0) ∧ k ≤ b.length ∧ Wm.Fits m ∧ ¬ 64 < m.length ∧
      (((Wm.za1 b (k : Int)).2.2 ≠ 0 ∧ get3 b = none) ∨ ∃ (o : List Int) (j : Nat), Wm.za1 b (k : Int) = (o, (j : Int), 0) ∧ j ≤ b.length ∧ Wm.Fits o ∧ ¬ 64 < o.length ∧
        ((j≠b.length∧get3 b=none)∨(j=b.length∧get3 b=some (l,m,o)∧U3 l m o=b)))):=by
 by_cases h0:(Wm.za1 b 0).2.2=0
 ·obtain ⟨l,n,e0⟩:=zd2 (n:=0) h0 hb
  have a0:=zew (n:=0) e0 hb
  refine .inr ⟨l,n,e0,a0.2.2.2.1,a0.2.1,a0.1,?_⟩
  by_cases h1:(Wm.za1 b (n:Int)).2.2=0
  ·obtain ⟨m,k,e1⟩:=zd2 h1 hb
   have a1:=zew e1 hb
   refine .inr ⟨m,k,e1,a1.2.2.2.1,a1.2.1,a1.1,?_⟩
   by_cases h2:(Wm.za1 b (k:Int)).2.2=0
   ·obtain ⟨o,j,e2⟩:=zd2 h2 hb
    have a2:=zew e2 hb
    refine .inr ⟨o,j,e2,a2.2.2.2.1,a2.2.1,a2.1,?_⟩
    by_cases hj:j=b.length
    ·refine .inr ⟨hj,zm6 e0 e1 e2 hj,?_⟩
     have q0:=a0.2.2.2.2
     have q1:=a1.2.2.2.2
     have q2:=a2.2.2.2.2
     rw [List.take_zero,List.nil_append] at q0
     unfold U3
     rw [←List.append_assoc,q0,q1,q2,hj,List.take_length]
    ·exact .inl ⟨hj,zln e0 e1 e2 hj⟩
   ·exact .inl ⟨h2,zlo e0 e1 h2⟩
  ·exact .inl ⟨h1,zlp e0 h1⟩
 ·exact .inl ⟨h0,zlq h0⟩
theorem zop {a b c : List Int} (ha : a.length ≤ 64) (hb : b.length ≤ 64) (hc : c.length ≤ 64) (fa : Wm.Fits a) (fb : Wm.Fits b) (fc : Wm.Fits c) (r : List Int) :
  ∃n k:Nat,Wm.za1 (U3 a b c++r) 0=(a,(n:Int),0)∧Wm.za1 (U3 a b c++r) (n:Int)=(b,(k:Int),0)∧Wm.za1 (U3 a b c++r) (k:Int)=(c,((U3 a b c).length:Int),0):=by
 refine ⟨(Wm.zat a a.length).length,(Wm.zat a a.length++Wm.zat b b.length).length,?_,?_,?_⟩
 ·have h:=Wm.zen (a:=[]) (r:=Wm.zat b b.length++Wm.zat c c.length++r) ha fa
  rw [List.nil_append,List.nil_append] at h
  rw [show U3 a b c++r=Wm.zat a a.length++(Wm.zat b b.length++Wm.zat c c.length++r) from by unfold U3;simp only [List.append_assoc]]
  exact h
 ·have h:=Wm.zen (a:=Wm.zat a a.length) (r:=Wm.zat c c.length++r) hb fb
  rw [show U3 a b c++r=Wm.zat a a.length++(Wm.zat b b.length++(Wm.zat c c.length++r)) from by unfold U3;simp only [List.append_assoc]]
  exact h
 ·have h:=Wm.zen (a:=Wm.zat a a.length++Wm.zat b b.length) (r:=r) hc fc
  rw [show U3 a b c++r=(Wm.zat a a.length++Wm.zat b b.length)++(Wm.zat c c.length++r) from by unfold U3;simp only [List.append_assoc]]
  rw [h,show U3 a b c=(Wm.zat a a.length++Wm.zat b b.length)++Wm.zat c c.length from by unfold U3;simp only [List.append_assoc]]
theorem zrd {a b c:List Int} (ha:a.length≤64) (hb:b.length≤64) (hc:c.length≤64) (fa:Wm.Fits a) (fb:Wm.Fits b) (fc:Wm.Fits c):get3 (U3 a b c)=some (a,b,c):=by
 obtain ⟨n,k,e0,e1,e2⟩:=zop ha hb hc fa fb fc []
 rw [List.append_nil] at e0 e1 e2
 exact zm6 e0 e1 e2 rfl
theorem U3_byte {a b c:List Int} (ha:a.length≤64) (hb:b.length≤64) (hc:c.length≤64) (fa:Wm.Fits a) (fb:Wm.Fits b) (fc:Wm.Fits c):∀x∈U3 a b c,0≤x∧x≤255:=by
 intro x hx
 unfold U3 at hx
 rcases List.mem_append.1 hx with h|h
 ·exact Wm.zd4 ha fa x h
 ·rcases List.mem_append.1 h with h|h
  ·exact Wm.zd4 hb fb x h
  ·exact Wm.zd4 hc fc x h
theorem U3_len (a b c:List Int) (ha:a.length≤64) (hb:b.length≤64) (hc:c.length≤64):3≤(U3 a b c).length∧(U3 a b c).length≤2000:=by
 have h1:=Wm.zcq a a.length
 have h2:=Wm.zcq b b.length
 have h3:=Wm.zcq c c.length
 have p1:∀l:List Int,1≤(Wm.zat l l.length).length:=fun l=>by
  unfold Wm.zat
  have:=(Wm.zfq (l.length:Int)).1
  rw [List.length_append]
  omega
 have q1:=p1 a
 have q2:=p1 b
 have q3:=p1 c
 unfold U3
 simp only [List.length_append]
 omega
theorem Bd.len {l:List Int} {s:Nat} {m:Int} (h:Bd l s m):l.length≤s:=h.1
theorem zeo {x:Pl} (h:x.right=true):x.pen.length≤16∧x.ch.length≤8∧Rt x.nums x.pen x.ch:=by
 by_cases h1:Rt x.nums x.pen x.ch
 ·exact ⟨h1.2.1.1,h1.2.2.1.1,h1⟩
 ·have:=zba h1
  rw [Pl.right,this] at h
  cases h
theorem get_put {x:Pl} (hx:x.Ok) (h:x.right=true):get x.put.1=(x,0):=by
 obtain ⟨h1,h2,_⟩:=zeo h
 rw [Pl.zfy h]
 have:=zlm (zrd (a:=x.nums) zqt (by omega) (by omega) (Pl.ze1 hx) hx.pen hx.ch) rfl h
 rw [zid hx] at this
 exact this
theorem put_byte {x:Pl} (hx:x.Ok):∀c∈x.put.1,0≤c∧c≤255:=by
 cases h:x.right with
 |false=>rw [Pl.zjf h];exact fun _ h=>absurd h List.not_mem_nil
 | true =>
   obtain ⟨h1,h2,_⟩:=zeo h
   rw [Pl.zfy h]
   exact U3_byte (a:=x.nums) zqt (by omega) (by omega) (Pl.ze1 hx) hx.pen hx.ch
theorem zh9 {x:Pl}:x.put.1.length≤2000:=by
 cases h:x.right with
 |false=>rw [Pl.zjf h];exact Nat.zero_le _
 | true =>
   obtain ⟨h1,h2,_⟩:=zeo h
   rw [Pl.zfy h]
   exact (U3_len x.nums x.pen x.ch zqt (by omega) (by omega)).2
noncomputable def Pl.names (x:Pl) (t:Int):Bool:=ask (0≤t∧(t=x.t∨(t=x.p∧x.c < 100)∨t=x.s))
noncomputable def same (x y:Pl):Bool:=ask (x=y)
end Go.Proofs.YtponpgcpmlcdpaaGreatDoor.Pm
