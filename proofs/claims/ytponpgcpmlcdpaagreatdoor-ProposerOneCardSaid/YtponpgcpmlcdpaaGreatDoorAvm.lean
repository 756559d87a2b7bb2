import Derived.Test.YtponpgcpmlcdpaaGreatDoorAzk
import Derived.Test.YtponpgcpmlcdpaaGreatDoorBMu
import Derived.Laws.BitsLemmas
set_option maxRecDepth 100000
namespace Go.Proofs.YtponpgcpmlcdpaaGreatDoor
open Go.RowKit Go.Shelf Km Kx Kc Kt
set_option linter.unusedVariables false
set_option linter.unusedSimpArgs false
structure Co where
 e:Int
 kn:Pm.Pl
 pr:Int
 ac:Int
 pl:Pm.Pl
 lo:Int
 hi:Int
 led:Bool
def Ac.co (a:Ac):Co:=⟨a.e,a.kn.x,a.pr,a.ac,a.pl.x,a.lo,a.hi,a.led⟩
def Co.enter (C:Co) (e:Int):Co:=if C.hi < e then { C with e:=e,ac:=0,pl:=Pm.zero,lo:=0,hi:=0 } else { C with e:=e,ac:=0,pl:=Pm.zero,lo:=if C.lo < e then e else C.lo }
def Co.widen (C:Co) (e:Int):Co:=if C.lo=0∧C.hi=0 then { C with lo:=e,hi:=e } else { C with lo:=if e < C.lo then e else C.lo,hi:=if C.hi < e then e else C.hi }
def Co.rp (C:Co) (x:Mm.Ms):Co :=
 if x.k=5 then { (if x.e=C.e then C else C.enter x.e) with kn:=x.plan,pr:=x.b }
 else if x.k=8 then { C with ac:=x.b,pl:=x.plan,pr:=x.b }
 else if x.k=11∧x.co=1 then C.widen x.e
 else if x.k=11∧x.co=2 then { C with led:=true } else C
def Co.ini (z:Pm.Pl):Co:=⟨0,z,0,0,Pm.zero,0,0,false⟩
theorem zfm {a:Ac} {x:Mm.Ms} {p:Pt} (h:(x.k=5∨x.k=8)→p.x=x.plan):(a.replay x p).co=a.co.rp x:=by
 unfold Ac.replay Co.rp
 by_cases h5:x.k=5
 ·rw [if_pos h5,if_pos h5]
  have hp:=h (.inl h5)
  by_cases he:x.e=a.e
  ·rw [if_pos he,if_pos (show x.e=a.co.e from he)]
   show Co.mk _ _ _ _ _ _ _ _=_
   rw [←hp];rfl
  ·rw [if_neg he,if_neg (show ¬ x.e=a.co.e from he),←hp]
   unfold Ac.enter Co.enter
   by_cases hh:a.hi < x.e
   ·rw [if_pos hh,if_pos (show a.co.hi < x.e from hh)];rfl
   ·rw [if_neg hh,if_neg (show ¬ a.co.hi < x.e from hh)];rfl
 ·rw [if_neg h5,if_neg h5]
  by_cases h8:x.k=8
  ·rw [if_pos h8,if_pos h8,←h (.inr h8)];rfl
  ·rw [if_neg h8,if_neg h8]
   by_cases hw:x.k=11∧x.co=1
   ·rw [if_pos hw,if_pos hw]
    unfold Ac.widen Co.widen
    by_cases hz:a.lo=0∧a.hi=0
    ·rw [if_pos hz,if_pos (show a.co.lo=0∧a.co.hi=0 from hz)];rfl
    ·rw [if_neg hz,if_neg (show ¬ (a.co.lo=0∧a.co.hi=0) from hz)];rfl
   ·rw [if_neg hw,if_neg hw]
    by_cases hl:x.k=11∧x.co=2
    ·rw [if_pos hl,if_pos hl];rfl
    ·rw [if_neg hl,if_neg hl]
def Rec (x:Mm.Ms):Prop:=x.Ok∧x.right=true∧((x.k=5∨x.k=8)→x.plan.right=true)
noncomputable def frs (xs:List Mm.Ms):List (Int×List Int):=xs.map fun x=>(x.k,x.body)
theorem Rec.len {x:Mm.Ms} (h:Rec x):x.body.length≤8192:=Mm.ze5 h.2.1
theorem frs_len {xs:List Mm.Ms} (h:∀x∈xs,Rec x):∀f∈frs xs,f.2.length≤8192:=fun f hf=>by
 obtain ⟨x,hx,rfl⟩:=List.mem_map.1 hf
 exact (h x hx).len
theorem zn7 (xs:List Mm.Ms) (x:Mm.Ms):Fm.cat (frs (xs++[x]))=Fm.cat (frs xs)++Fm.frm x.k x.body:=by
 unfold frs
 rw [List.map_append,Fm.zit]
 show _++(Fm.frm x.k x.body++[])=_
 rw [List.append_nil]
noncomputable def Co.one (C:Co) (q:Int×List Int):Co:=if (Mm.of q.1 q.2).2=0 then C.rp (Mm.of q.1 q.2).1 else C
def KK (z:Pm.Pl) (xs:List Mm.Ms):Co:=xs.foldl Co.rp (Co.ini z)
theorem zkw (z:Pm.Pl) (xs:List Mm.Ms) (x:Mm.Ms):KK z (xs++[x])=(KK z xs).rp x:=by
 unfold KK
 rw [List.foldl_append]
 rfl
theorem znp {xs:List Mm.Ms} {x:Mm.Ms} (h:∀x∈xs,Rec x) (hx:Rec x):∀y∈xs++[x],Rec y:=fun y hy=>by
 rcases List.mem_append.1 hy with hy|hy
 ·exact h y hy
 ·rw [List.mem_singleton.1 hy];exact hx
def Nxt (C:Co) (x:Mm.Ms):Prop :=
 (x.k=5∧1≤x.b∧((x.e=C.e∧C.pr < x.b∧x.plan=C.kn)∨(C.e < x.e∧1≤x.e∧x.plan.e=x.e - 1)))∨(x.k=8∧x.e=C.e∧x.b=C.pr∧1≤x.b∧x.plan.e=x.e) ∨
 (x.k=11∧x.co=1∧1≤x.e∧C.e≤x.e)∨(x.k=11∧x.co=2)
structure JUp (z:Pm.Pl) (s:Jm.St) (xs:List Mm.Ms) (a:Ac):Prop where
 rc:∀x∈xs,Rec x
 off:s.off=false
 kept:s.kept=Fm.cat (frs xs)
 rest:s.rest=[]
 co:a.co=KK z xs
structure JDn (z:Pm.Pl) (s:Jm.St) (xs:List Mm.Ms):Prop where
 rc:∀x∈xs,Rec x
 off:s.off=true
 kept:∃t,s.kept=Fm.cat (frs xs)++t∧Fm.g1 t=none∧(s.rest=[]∨(t=[]∧∃x,Rec x∧Nxt (KK z xs) x∧s.rest=Fm.frm x.k x.body))
def JI (z:Pm.Pl) (s:Jm.St) (xs:List Mm.Ms) (a:Ac):Prop:=JUp z s xs a∨JDn z s xs
theorem zgk:Fm.g1 []=none:=by decide
theorem JUp.new {z:Pm.Pl} {a:Ac} (h:a.co=Co.ini z):JUp z Jm.new [] a:=⟨(fun _ h=>by cases h),rfl,rfl,rfl,h⟩
theorem JUp.fuse {z:Pm.Pl} {s:Jm.St} {xs:List Mm.Ms} {a:Ac} (h:JUp z s xs a) (n:Int):JUp z (Jm.fuse s n) xs a:=⟨h.rc,h.off,h.kept,h.rest,h.co⟩
theorem JDn.fuse {z:Pm.Pl} {s:Jm.St} {xs:List Mm.Ms} (h:JDn z s xs) (n:Int):JDn z (Jm.fuse s n) xs:=⟨h.rc,h.off,h.kept⟩
theorem JI.fuse {z:Pm.Pl} {s:Jm.St} {xs:List Mm.Ms} {a:Ac} (h:JI z s xs a) (n:Int):JI z (Jm.fuse s n) xs a:=h.imp (·.fuse n) (·.fuse n)
theorem JI.crash {z:Pm.Pl} {s:Jm.St} {xs:List Mm.Ms} {a:Ac} (h:JI z s xs a) (n:Int):JDn z (Jm.crash s n) xs∨∃x,Rec x∧Nxt (KK z xs) x∧JDn z (Jm.crash s n) (xs++[x]):=by
 rcases h with h|h
 ·refine .inl ⟨h.rc,rfl,[],?_,zgk,.inl rfl⟩
  show s.kept++s.rest.take _=_
  rw [h.rest,h.kept,List.take_nil]
 ·obtain ⟨t,h1,h2,h3⟩:=h.kept
  rcases h3 with h3|⟨rfl,x,hx,hn,h3⟩
  ·refine .inl ⟨h.rc,rfl,t,?_,h2,.inl rfl⟩
   show s.kept++s.rest.take _=_
   rw [h3,h1,List.take_nil,List.append_nil]
  ·rw [List.append_nil] at h1
   by_cases hp:Jm.part s n < x.body.length+8
   ·refine .inl ⟨h.rc,rfl,(Fm.frm x.k x.body).take (Jm.part s n),?_,Fm.g1_cut hx.len hp,.inl rfl⟩
    show s.kept++s.rest.take _=_
    rw [h3,h1]
   ·refine .inr ⟨x,hx,hn,znp h.rc hx,rfl,[],?_,zgk,.inl rfl⟩
    show s.kept++s.rest.take _=_
    rw [h3,h1,List.take_of_length_le (by rw [Fm.zds];omega),zn7,List.append_nil]
theorem zq0 {xs:List Mm.Ms} (h:∀x∈xs,Rec x) {t:List Int} (ht:Fm.g1 t=none):Fm.al (Fm.cat (frs xs)++t)=frs xs:=by
 rw [Fm.al_cat _ _ (frs_len h),Fm.znh ht,List.append_nil]
theorem JI.open {z : Pm.Pl} {s : Jm.St} {xs : List Mm.Ms} {a : Ac} (h : JI z s xs a) :
  ((Jm.opn s).2.2=0∧(Jm.opn s).2.1=frs xs∧∀a':Ac,a'.co=KK z xs→JUp z (Jm.opn s).1 xs a')∨((Jm.opn s).2.2≠0∧JDn z (Jm.opn s).1 xs):=by
 obtain ⟨t,hr,h1,h2,h4⟩ : ∃t,(∀x∈xs,Rec x)∧s.kept=Fm.cat (frs xs)++t∧Fm.g1 t=none∧(s.off=false→t=[]):=by
  rcases h with h|h
  ·exact ⟨[],h.rc,by rw [h.kept,List.append_nil],zgk,fun _=>rfl⟩
  ·obtain ⟨t,h1,h2,-⟩:=h.kept
   exact ⟨t,h.rc,h1,h2,fun q=>by rw [h.off] at q;cases q⟩
 have ha:Fm.al s.kept=frs xs:=by rw [h1];exact zq0 hr h2
 have hw:Jm.whole s=(Fm.cat (frs xs)).length:=by unfold Jm.whole;rw [ha]
 by_cases hl:Jm.whole s < s.kept.length
 ·by_cases he:(Jm.eff (Jm.up s)).2=0
  ·rw [Jm.zkb hl he]
   refine .inl ⟨rfl,ha,fun a' hc=>⟨hr,?_,?_,?_,hc⟩⟩
   ·show (Jm.eff (Jm.up s)).1.off=false
    have:(Jm.eff (Jm.up s)).2=0→(Jm.eff (Jm.up s)).1.off=false:=by
     unfold Jm.eff
     rw [if_neg (by show ¬ false=true;decide)]
     split
     ·intro q;exact absurd q (by show ¬ (61:Int)=0;decide)
     ·split
      ·intro _;rfl
      ·intro _;rfl
    exact this he
   ·show s.kept.take (Jm.whole s)=_
    rw [hw,h1,List.take_left']
    rfl
   ·exact (Jm.zdl (Jm.up s)).2
  ·rw [Jm.zka hl he]
   refine .inr ⟨(by show (61:Int)≠0;decide),hr,?_,t,?_,h2,.inl (Jm.zdl (Jm.up s)).2⟩
   ·have : (Jm.eff (Jm.up s)).2 ≠ 0 → (Jm.eff (Jm.up s)).1.off = true := by
     unfold Jm.eff
     rw [if_neg (by show ¬ false=true;decide)]
     split
     ·intro _;rfl
     ·split
      ·intro q;exact absurd rfl q
      ·intro q;exact absurd rfl q
    exact this he
   ·rw [(Jm.zdl (Jm.up s)).1];exact h1
 ·rw [Jm.zmt hl]
  have ht:t=[]:=by
   have h5:s.kept.length=(Fm.cat (frs xs)).length+t.length:=by rw [h1,List.length_append]
   exact List.length_eq_zero_iff.1 (by omega)
  refine .inl ⟨rfl,ha,fun a' hc=>⟨hr,rfl,?_,rfl,hc⟩⟩
  show s.kept=_
  rw [h1,ht,List.append_nil]
theorem JUp.write {z : Pm.Pl} {s : Jm.St} {xs : List Mm.Ms} {a : Ac} (h : JUp z s xs a) {x : Mm.Ms} (hx : Rec x) (hn : Nxt (KK z xs) x) :
  ((keep s x).2=true∧∀a':Ac,a'.co=(KK z xs).rp x→JUp z (keep s x).1 (xs++[x]) a')∨((keep s x).2=false∧JDn z (keep s x).1 xs):=by
 have hl:¬ 8192 < x.body.length:=by have:=hx.len;omega
 have hk:keep s x=if (Jm.append s x.k x.body).2=0 then ((Jm.sync (Jm.append s x.k x.body).1).1,decide ((Jm.sync (Jm.append s x.k x.body).1).2=0)) else ((Jm.append s x.k x.body).1,false):=if_pos hx.2.1
 have hkept0:∃t,s.kept=Fm.cat (frs xs)++t∧Fm.g1 t=none∧t=[]:=⟨[],by rw [h.kept,List.append_nil],zgk,rfl⟩
 have hb:s.burn=0∨0 < s.burn∨s.burn < 0:=by omega
 rcases hb with hb|hb|hb
 ·
  have e1:=Jm.zkn h.off hb
  rw [Jm.zjw hl (by rw [e1];show (61:Int)≠0;decide),e1,if_neg (by show ¬ (61:Int)=0;decide)] at hk
  rw [hk]
  exact .inr ⟨rfl,h.rc,rfl,[],by show s.kept=_;rw [h.kept,List.append_nil],zgk,.inl h.rest⟩
 all_goals
  obtain ⟨s1,hs1,k1,k2,k3⟩ : ∃s1:Jm.St,Jm.eff s=(s1,0)∧s1.kept=s.kept∧s1.off=false∧s1.rest=[]:=by
   first
   |exact ⟨_,Jm.zko h.off hb,rfl,h.off,h.rest⟩
   |exact ⟨_,Jm.zgl h.off hb,rfl,h.off,h.rest⟩
  rw [Jm.ziw hl (by rw [hs1]),hs1,h.rest,List.nil_append,if_pos rfl] at hk
  rw [hk]
  dsimp only
  by_cases hz:s1.burn=0
  ·have e2:=Jm.zkn (s:={ s1 with rest:=Fm.frm x.k x.body }) k2 hz
   rw [Jm.zj4 (by rw [e2];show (61:Int)≠0;decide),e2]
   exact .inr ⟨rfl,h.rc,rfl,[],by show s1.kept=_;rw [k1,h.kept,List.append_nil],zgk,.inr ⟨rfl,x,hx,hn,rfl⟩⟩
  ·obtain ⟨s2, hs2, m1, m2⟩ : ∃ s2 : Jm.St, Jm.eff { s1 with rest := Fm.frm x.k x.body } = (s2, 0) ∧ s2.off = false ∧ s2.kept = s1.kept := by
    by_cases hz2:0 < s1.burn
    ·exact ⟨_,Jm.zko k2 hz2,k2,rfl⟩
    ·exact ⟨_,Jm.zgl k2 (by show s1.burn < 0;omega),k2,rfl⟩
   rw [Jm.zj3 (by rw [hs2]),hs2]
   refine .inl ⟨rfl,fun a' hc=>⟨znp h.rc hx,m1,?_,rfl,by rw [hc,zkw]⟩⟩
   show s1.kept++Fm.frm x.k x.body=_
   rw [k1,h.kept,zn7]
theorem zdp {s:Jm.St} {x:Mm.Ms} (hx:x.right=true):Jm.size (keep s x).1≤Jm.size s+8200:=by
 have h2:=Mm.ze5 hx
 have h1:Jm.size (Jm.append s x.k x.body).1≤Jm.size s+8200:=Nat.le_trans (Jm.size_append s x.k x.body).1 (by omega)
 have h3:=Jm.zp0 (Jm.append s x.k x.body).1
 unfold keep
 rw [if_pos hx]
 generalize Jm.sync (Jm.append s x.k x.body).1=sy at *
 generalize Jm.append s x.k x.body=ap at *
 by_cases h:ap.2=0
 ·rw [if_pos h]
  dsimp only
  rw [h3]
  exact h1
 ·rw [if_neg h]
  exact h1
end Go.Proofs.YtponpgcpmlcdpaaGreatDoor

namespace Go.Proofs.YtponpgcpmlcdpaaGreatDoor
open Go.RowKit Go.Shelf Km Kx Kc Kt
set_option linter.unusedVariables false
set_option linter.unusedSimpArgs false
inductive Stp (z:Pm.Pl) (F:Fz) (a:Ac) (s:Jm.St) (xs:List Mm.Ms) (m:Mm.Ms) (now:Int):Res→List Mm.Ms→Prop
 |quiet (i t:Int) (j:JI z s xs a):Stp z F a s xs m now ({ a with wi:=i,wt:=t },s,none) xs
 |told (y:Mm.Ms) (lo:Lo) (hk:y.k=9∨y.k=6) (j:JI z s xs a):Stp z F a s xs m now (a,s,some (y,lo)) xs
 |wr (hf:Fit s m now) (hm:1≤m.e∧a.e≤m.e) (hg:Grd a m) (j:JUp z s xs a):Stp z F a s xs m now ({ a with wr:=now },s,some (zgg a m 1,Lo.zero)) xs
 |ld (hf:Fit s m now) (hl:a.ld=m.f) (j:JUp z s xs a):Stp z F a s xs m now ({ a with ld:=m.f,lt:=now },s,some (zgg a m 2,Lo.zero)) xs
 |lost (s':Jm.St) (j:JDn z s' xs) (hz:Jm.size s'≤Jm.size s+8200):Stp z F a s xs m now (a,s',none) xs
 | pro (p : Pt) (s' : Jm.St) (lo : Lo) (hf : Fit s m now) (hp : PtOk F p) (hb : 1 ≤ m.b ∧ 1 ≤ m.e) (hn : (a.e < m.e ∧ ¬ MW a m now) ∨ (m.e = a.e ∧ a.pr < m.b)) (j0 : JUp z s xs a) (nx : Nxt (KK z xs) (rpro m p)) (j : JUp z s' (xs ++ [rpro m p]) (a.replay (rpro m p) p)) (hz : Jm.size s' ≤ Jm.size s + 8200) :
    Stp z F a s xs m now (a.replay (rpro m p) p,s',some (promised (a.replay (rpro m p) p) m,lo)) (xs++[rpro m p])
 | acc (p : Pt) (s' : Jm.St) (hf : Fit s m now) (hp : PtOk F p) (hn : m.e = a.e ∧ m.b = a.pr ∧ ¬ a.c.s < m.plan.st - now) (j0 : JUp z s xs a) (nx : Nxt (KK z xs) (racc m)) (j : JUp z s' (xs ++ [racc m]) (a.replay (racc m) p)) (hz : Jm.size s' ≤ Jm.size s + 8200) :
    Stp z F a s xs m now (a.replay (racc m) p,s',some (accepted (a.replay (racc m) p) m,Lo.zero)) (xs++[racc m])
 | lw (s' : Jm.St) (hf : Fit s m now) (hm : 1 ≤ m.e ∧ a.e ≤ m.e) (j0 : JUp z s xs a) (nx : Nxt (KK z xs) (rlw m)) (j : JUp z s' (xs ++ [rlw m]) { a.replay (rlw m) noPt with wr := now }) (hz : Jm.size s' ≤ Jm.size s + 8200) :
    Stp z F a s xs m now ({ a.replay (rlw m) noPt with wr:=now },s',some (zgg (a.replay (rlw m) noPt) m 1,Lo.zero)) (xs++[rlw m])
 | ll (s' : Jm.St) (hf : Fit s m now) (hn : ¬ a.ld = m.f ∧ ¬ NoL a m now) (j0 : JUp z s xs a) (nx : Nxt (KK z xs) (rll m)) (j : JUp z s' (xs ++ [rll m]) { a.replay (rll m) noPt with ld := m.f, lt := now }) (hz : Jm.size s' ≤ Jm.size s + 8200) :
    Stp z F a s xs m now ({ a.replay (rll m) noPt with ld:=m.f,lt:=now },s',some (zgg (a.replay (rll m) noPt) m 2,Lo.zero)) (xs++[rll m])
section
variable {z:Pm.Pl} {F:Fz} {node:Int} {a:Ac} {s:Jm.St} {xs xs':List Mm.Ms} {m:Mm.Ms} {lo:Lo} {now:Int} {R:Res}
theorem Stp.size (h:Stp z F a s xs m now R xs'):Jm.size R.2.1≤Jm.size s+8200:=by
 cases h
 case quiet=>exact Nat.le_add_right ..
 case told=>exact Nat.le_add_right ..
 case wr=>exact Nat.le_add_right ..
 case ld=>exact Nat.le_add_right ..
 all_goals assumption
theorem Stp.ji (h:Stp z F a s xs m now R xs'):JI z R.2.1 xs' R.1:=by
 cases h
 case quiet i t j=>exact j.imp (fun j=>⟨j.rc,j.off,j.kept,j.rest,j.co⟩) id
 case told j=>exact j
 case wr j=>exact .inl ⟨j.rc,j.off,j.kept,j.rest,j.co⟩
 case ld j=>exact .inl ⟨j.rc,j.off,j.kept,j.rest,j.co⟩
 case lost j _=>exact .inr j
 case pro j _=>exact .inl j
 case acc j _=>exact .inl j
 case lw j _=>exact .inl j
 case ll j _=>exact .inl j
theorem Stp.inv (h:Stp z F a s xs m now R xs') (hi:Inv F node a) (hb:Pm.I m.b):Inv F node R.1:=by
 cases h
 case quiet=>exact ⟨hi.kn,hi.pl,hi.pr,hi.ac,hi.node,hi.l,hi.m⟩
 case told=>exact hi
 case wr=>exact ⟨hi.kn,hi.pl,hi.pr,hi.ac,hi.node,hi.l,hi.m⟩
 case ld=>exact ⟨hi.kn,hi.pl,hi.pr,hi.ac,hi.node,hi.l,hi.m⟩
 case lost=>exact hi
 case pro hp _ _ _ _ _ _=>exact hi.pro hp hb
 case acc hp _ _ _ _ _=>exact hi.acc hp hb
 case lw=>have h:=hi.lw (m:=m) (p:=noPt);exact ⟨h.kn,h.pl,h.pr,h.ac,h.node,h.l,h.m⟩
 case ll=>have h:=hi.ll (m:=m) (p:=noPt);exact ⟨h.kn,h.pl,h.pr,h.ac,h.node,h.l,h.m⟩
theorem zez (a:Ac) (x:Mm.Ms) (p:Pt):(a.replay x p).c=a.c∧(a.replay x p).node=a.node∧(a.replay x p).wr=a.wr∧(a.replay x p).lt=a.lt:=by
 unfold Ac.replay Ac.enter Ac.widen
 repeat' split
 all_goals exact ⟨rfl,rfl,rfl,rfl⟩
theorem Stp.conf (h:Stp z F a s xs m now R xs'):R.1.c=a.c:=by
 cases h
 case pro=>exact (zez _ _ _).1
 case acc=>exact (zez _ _ _).1
 case lw=>exact (zez _ _ _).1
 case ll=>exact (zez _ _ _).1
 all_goals rfl
theorem pro_rec (hm:MsOk m lo) {p:Pt} (hp:PtOk F p):Rec (rpro m p) :=
 ⟨(zqx hp.1 (k:=5) (e:=m.e) (b:=m.b) (ac:=0) (n:=0) (co:=0) (has:=true) ⟨by decide,by decide⟩ hm.ok.e hm.ok.b I0 I0 I0).ok,zdz (f:=0) (t:=0) (has:=true) ⟨by decide,by decide⟩ ⟨by decide,by decide⟩ ⟨by decide,by decide⟩ ⟨by decide,by decide⟩ hp.2.2,fun _=>hp.2.2⟩
theorem acc_rec (hm:MsOk m lo) (hp:PtOk F (mpt m lo)):Rec (racc m) :=
 ⟨(zqx (p:=mpt m lo) hp.1 (k:=8) (e:=m.e) (b:=m.b) (ac:=0) (n:=0) (co:=0) (has:=true) ⟨by decide,by decide⟩ hm.ok.e hm.ok.b I0 I0 I0).ok,zdz (p:=mpt m lo) (f:=0) (t:=0) (has:=true) ⟨by decide,by decide⟩ ⟨by decide,by decide⟩ ⟨by decide,by decide⟩ ⟨by decide,by decide⟩ hp.2.2,fun _=>hp.2.2⟩
theorem lw_rec (hm:MsOk m lo) (hf:0≤m.f∧m.f≤255):Rec (rlw m) :=
 ⟨(rl_ok hm.ok hm.ok.e ⟨by decide,by decide⟩).ok,zdz (p:=noPt) (f:=m.f) (t:=0) (has:=false) ⟨by decide,by decide⟩ hf ⟨by decide,by decide⟩ ⟨by decide,by decide⟩ zdn,fun q=>by rcases q with q|q<;>cases q⟩
theorem ll_rec (hm:MsOk m lo) (hf:0≤m.f∧m.f≤255):Rec (rll m) :=
 ⟨(rl_ok hm.ok I0 ⟨by decide,by decide⟩).ok,zdz (p:=noPt) (f:=m.f) (t:=0) (has:=false) ⟨by decide,by decide⟩ hf ⟨by decide,by decide⟩ ⟨by decide,by decide⟩ zdn,fun q=>by rcases q with q|q<;>cases q⟩
theorem zcp (j:JI z s xs a):Stp z F a s xs m now (a,s,none) xs:=Stp.quiet a.wi a.wt j
theorem zjg (hi:Inv F node a) (j:JUp z s xs a) (hf:Fit s m now) (hm:MsOk m lo) {p:Pt} (hp:PtOk F p) (hb:1≤m.b∧1≤m.e) (hn:(a.e < m.e∧¬ MW a m now∧p.x.e=m.e - 1)∨(m.e=a.e∧a.pr < m.b∧p.x=a.kn.x)):∃xs',Stp z F a s xs m now (promise a s m p) xs':=by
 have hr:=pro_rec hm hp
 have nx:Nxt (KK z xs) (rpro m p):=by
  rw [←j.co]
  refine .inl ⟨rfl,hb.1,?_⟩
  rcases hn with h|h
  ·exact .inr ⟨h.1,hb.2,h.2.2⟩
  ·exact .inl h
 unfold promise
 rcases j.write hr nx with ⟨k1,k2⟩|⟨k1,k2⟩
 ·rw [if_pos k1]
  exact ⟨_,Stp.pro p _ _ hf hp hb (hn.imp (fun h=>⟨h.1,h.2.1⟩) (fun h=>⟨h.1,h.2.1⟩)) j nx (k2 _ (by rw [zfm (fun _=>rfl),j.co])) (zdp hr.2.1)⟩
 ·rw [if_neg (by rw [k1];decide)]
  exact ⟨_,Stp.lost _ k2 (zdp hr.2.1)⟩
theorem zq6 (hi:Inv F node a) (j:JI z s xs a) (hm:MsOk m lo) (hz:Within (mfz m lo) F):∃xs',Stp z F a s xs m now (handle a s m lo now) xs':=by
 by_cases hnf:¬ Fit s m now
 ·rw [zgx hnf];exact ⟨_,zcp j⟩
 have hfit:Fit s m now:=Classical.byContradiction hnf
 have hr:=Mm.zbr.1 hfit.1
 have hf:0≤m.f∧m.f≤255:=hr.2.2.1
 have hpr:m.zec=true:=hr.2.2.2.2.2.2.2.1
 have ju:JUp z s xs a:=j.resolve_right (fun q=>by have:=q.off;rw [hfit.2.2.2] at this;cases this)
 have hpt:∀e,Prp m e→PtOk F (mpt m lo):=fun e q=>⟨hm.pt,(fun z hz'=>by
  rcases List.mem_cons.1 hz' with rfl|hz'
  ·exact hz _ (List.mem_cons_self ..)
  ·rcases List.mem_cons.1 hz' with rfl|hz'
   ·exact hz _ (List.mem_cons_of_mem _ (List.mem_cons_self ..))
   ·cases hz'),by
  have h8:=hpr
  unfold Mm.Ms.zec at h8
  rwa [q.2.2.1] at h8⟩
 unfold handle
 rw [if_pos hfit]
 split
 ·rename_i hk
  split
  ·rename_i hp
   unfold prepare
   split
   ·exact ⟨_,Stp.told _ _ (.inl rfl) j⟩
   ·rename_i h1
    split
    ·rename_i h2
     split
     ·exact ⟨_,Stp.quiet _ _ j⟩
     ·rename_i h3
      exact zjg hi ju hfit hm (hpt _ hp) ⟨hp.2.1,hp.1⟩ (.inl ⟨h2,h3,hp.2.2.2⟩)
    ·rename_i h2
     split
     ·exact ⟨_,Stp.told _ _ (.inr rfl) j⟩
     ·rename_i h3
      exact zjg hi ju hfit hm hi.kn ⟨hp.2.1,hp.1⟩ (.inr ⟨by omega,by omega,rfl⟩)
  ·exact ⟨_,zcp j⟩
 ·split
  ·rename_i hk
   split
   ·rename_i hp
    unfold accept
    split
    ·exact ⟨_,zcp j⟩
    ·rename_i h1
     split
     ·exact ⟨_,Stp.told _ _ (.inl rfl) j⟩
     ·rename_i h2
      split
      ·exact ⟨_,Stp.told _ _ (.inr rfl) j⟩
      ·rename_i h3
       split
       ·exact ⟨_,zcp j⟩
       ·rename_i h4
        have h5:¬ a.pr < m.b:=fun q=>h4 (.inl q)
        have h6:¬ a.c.s < m.plan.st - now:=fun q=>h4 (.inr q)
        have hrc:=acc_rec hm (hpt _ hp)
        have nx:Nxt (KK z xs) (racc m):=by
         rw [←ju.co]
         exact .inr (.inl ⟨rfl,(by show m.e=a.e;omega),(by show m.b=a.pr;omega),hp.2.1,hp.2.2.2⟩)
        rcases ju.write hrc nx with ⟨k1,k2⟩|⟨k1,k2⟩
        ·rw [if_pos k1]
         exact ⟨_,Stp.acc _ _ hfit (hpt _ hp) ⟨by omega,by omega,h6⟩ ju nx (k2 _ (by rw [zfm (fun _=>rfl),ju.co])) (zdp hrc.2.1)⟩
        ·rw [if_neg (by rw [k1];decide)]
         exact ⟨_,Stp.lost _ k2 (zdp hrc.2.1)⟩
   ·exact ⟨_,zcp j⟩
  ·split
   ·rename_i hk
    split
    ·rename_i hc
     unfold zq8
     split
     ·exact ⟨_,zcp j⟩
     ·rename_i h1
      have h2:¬ m.e < 1:=fun q=>h1 (.inl q)
      have h3:¬ m.e < a.e:=fun q=>h1 (.inr (.inl q))
      split
      ·rename_i h4
       exact ⟨_,Stp.wr hfit ⟨by omega,by omega⟩ h4 ju⟩
      ·have hrc:=lw_rec hm hf
       have nx:Nxt (KK z xs) (rlw m):=by
        rw [←ju.co]
        exact .inr (.inr (.inl ⟨rfl,rfl,(by show 1≤m.e;omega),(by show a.e≤m.e;omega)⟩))
       rcases ju.write hrc nx with ⟨k1,k2⟩|⟨k1,k2⟩
       ·rw [if_pos k1]
        exact ⟨_,Stp.lw _ hfit ⟨by omega,by omega⟩ ju nx (k2 _ (by show (a.replay (rlw m) noPt).co=_;rw [zfm (fun q=>by rcases q with q|q<;>cases q),ju.co])) (zdp hrc.2.1)⟩
       ·rw [if_neg (by rw [k1];decide)]
        exact ⟨_,Stp.lost _ k2 (zdp hrc.2.1)⟩
    ·split
     ·rename_i hc
      unfold zq9
      split
      ·rename_i h1
       exact ⟨_,Stp.ld hfit h1 ju⟩
      ·rename_i h1
       split
       ·exact ⟨_,zcp j⟩
       ·rename_i h2
        have hrc:=ll_rec hm hf
        have nx:Nxt (KK z xs) (rll m):=.inr (.inr (.inr ⟨rfl,rfl⟩))
        rcases ju.write hrc nx with ⟨k1,k2⟩|⟨k1,k2⟩
        ·rw [if_pos k1]
         exact ⟨_,Stp.ll _ hfit ⟨h1,h2⟩ ju nx (k2 _ (by show (a.replay (rll m) noPt).co=_;rw [zfm (fun q=>by rcases q with q|q<;>cases q),ju.co])) (zdp hrc.2.1)⟩
        ·rw [if_neg (by rw [k1];decide)]
         exact ⟨_,Stp.lost _ k2 (zdp hrc.2.1)⟩
     ·exact ⟨_,zcp j⟩
   ·exact ⟨_,zcp j⟩
end
end Go.Proofs.YtponpgcpmlcdpaaGreatDoor

namespace Go.Proofs.YtponpgcpmlcdpaaGreatDoor
open Go.RowKit Go.Shelf Km Kx Kc Kt
set_option linter.unusedVariables false
set_option linter.unusedSimpArgs false
def Made (n:Nat) (w':World) (G:Fz):Prop:=∀q∈G,∀j u,q.2[j]? = some u→∃ad,q.1=some ad∧n≤ad.block∧ad.block < w'.heap.size∧w'.cell? (ad.add j)=some u
section
variable {w0 w w':World} {g:Nat} {s s':Jm.St} {l:List (Nat×List Value)} {r:List Rw} {F G:Fz} {KA RA KA' RA':Option Addr} {KC RC KC' RC':Nat}
theorem jbx_did0 (h : Bxs w0 w ((g, jcs s KA KC RA RC) :: l) (jrow KA KC s.kept :: jrow RA RC s.rest :: r) F) (k : JAt w' (Sx (jS g (jrow KA KC s.kept) (jrow RA RC s.rest)) w w') g s' (.slice KA' s'.kept.length KC') (.slice RA' s'.rest.length RC')) (o : Out (jS g (jrow KA KC s.kept) (jrow RA RC s.rest)) w w') :
  Bxs w0 w' ((g,jcs s' KA' KC' RA' RC')::l) (jrow KA' KC' s'.kept::jrow RA' RC' s'.rest::r) F:=by
 have hg:=h.each _ (List.mem_cons_self ..)
 have hK:=h.rows _ (List.mem_cons_self ..)
 have hR:=h.rows _ (List.mem_cons_of_mem _ (List.mem_cons_self ..))
 have hp1:=List.pairwise_cons.1 h.apart
 have hp2:=List.pairwise_cons.1 hp1.2
 have hnd:=List.nodup_cons.1 h.nodup
 have nl:∀p∈l,¬ jS g (jrow KA KC s.kept) (jrow RA RC s.rest) p.1:=fun p hp q=>by
  rcases q with q|q|q
  ·exact hnd.1 (by rw [←q];exact List.mem_map.2 ⟨p,hp,rfl⟩)
  ·exact hK.2 p (List.mem_cons_of_mem _ hp) q
  ·exact hR.2 p (List.mem_cons_of_mem _ hp) q
 have nr:∀x∈r,∀b,x.blk=some b→¬ jS g (jrow KA KC s.kept) (jrow RA RC s.rest) b:=fun x hx b e q=>by
  have hx':=h.rows x (List.mem_cons_of_mem _ (List.mem_cons_of_mem _ hx))
  rcases q with q|q|q
  ·exact hx'.2 _ (List.mem_cons_self ..) (by rw [e,q])
  ·exact hp1.1 x (List.mem_cons_of_mem _ hx) b q e
  ·exact hp2.1 x hx b q e
 have low:∀b,jS g (jrow KA KC s.kept) (jrow RA RC s.rest) b→w0.heap.size≤b:=fun b q=>by
  rcases q with rfl|q|q
  ·exact hg.1
  ·exact (hK.1.lt q).1
  ·exact (hR.1.lt q).1
 have sx:∀b,Sx (jS g (jrow KA KC s.kept) (jrow RA RC s.rest)) w w' b→w0.heap.size≤b:=fun b q=>q.elim (low b) (fun q=>Nat.le_trans h.size q.1)
 have bel:Below w0.heap.size w w':=o.to low h.size
 have rown : ∀ (A : Option Addr) (c : Nat) (xs : List Int), w'.ownsRow 0 5 1 (.slice A xs.length c) xs.length (u8s xs) → (∀ b, (Value.slice A xs.length c).ownBlock = some b → Sx (jS g (jrow KA KC s.kept) (jrow RA RC s.rest)) w w' b ∧ b ≠ g) →
   (jrow A c xs).own w0 w'∧∀p∈(g,jcs s' KA' KC' RA' RC')::l,(jrow A c xs).blk≠some p.1:=fun A c xs h1 h2=>by
  refine ⟨zk8 h1 fun b e=>sx b (h2 b e).1,fun p hp e => ?_⟩
  have h3:=h2 p.1 e
  rcases List.mem_cons.1 hp with rfl|hp
  ·exact h3.2 rfl
  ·rcases h3.1 with q|q
   ·exact nl p hp q
   ·have:=(h.each p (List.mem_cons_of_mem _ hp)).2.1;omega
 refine ⟨h.below.trans (bel.mono (Nat.le_refl _)),h.nodup,fun p hp => ?_,fun x hx => ?_,?_,fun q hq => ?_⟩
 ·rcases List.mem_cons.1 hp with rfl|hp
  ·exact ⟨hg.1,k.lt _ k.sg,k.rng,k.th⟩
  ·obtain ⟨h1,h2,h3,h4⟩:=h.each p (List.mem_cons_of_mem _ hp)
   have hb:w'.heap[p.1]? = w.heap[p.1]?:=o.block _ h2 (nl p hp)
   exact ⟨h1,Nat.lt_of_lt_of_le h2 o.size,fun j v hv=>(World.cell?_of_block hb).trans (h3 j v hv),fun j hj=>⟨by rw [World.cell?_of_block hb];exact (h4 j hj).1,by rw [World.frozen?_of_block hb];exact (h4 j hj).2⟩⟩
 ·rcases List.mem_cons.1 hx with rfl|hx
  ·exact rown _ _ _ k.kr k.kS
  ·rcases List.mem_cons.1 hx with rfl|hx
   ·exact rown _ _ _ k.rr k.rS
   ·have hx':=h.rows x (List.mem_cons_of_mem _ (List.mem_cons_of_mem _ hx))
    refine ⟨zjj hx'.1 fun b e=>o.block b (hx'.1.lt e).2 (nr x hx b e),fun p hp => ?_⟩
    rcases List.mem_cons.1 hp with rfl|hp
    ·exact hx'.2 (g,jcs s KA KC RA RC) (List.mem_cons_self ..)
    ·exact hx'.2 p (List.mem_cons_of_mem _ hp)
 ·refine List.pairwise_cons.2 ⟨fun x hx b e q => ?_,List.pairwise_cons.2 ⟨fun x hx b e q => ?_,hp2.2⟩⟩
  ·rcases List.mem_cons.1 hx with rfl|hx
   ·exact k.k2 b e q
   ·rcases (k.kS b e).1 with z|z
    ·exact nr x hx b q z
    ·have:=((h.rows x (List.mem_cons_of_mem _ (List.mem_cons_of_mem _ hx))).1.lt q).2;omega
  ·rcases (k.rS b e).1 with z|z
   ·exact nr x hx b q z
   ·have:=((h.rows x (List.mem_cons_of_mem _ (List.mem_cons_of_mem _ hx))).1.lt q).2;omega
 ·intro j u hj
  obtain ⟨ad,e,h1,h2,h3,h4⟩:=h.stay q hq j u hj
  have nS:¬ jS g (jrow KA KC s.kept) (jrow RA RC s.rest) ad.block:=fun z=>by
   rcases z with z|z|z
   ·exact h3 _ (List.mem_cons_self ..) z.symm
   ·exact h4 _ (List.mem_cons_self ..) z
   ·exact h4 _ (List.mem_cons_of_mem _ (List.mem_cons_self ..)) z
  have hb:w'.heap[ad.block]? = w.heap[ad.block]?:=o.block _ h1 nS
  refine ⟨ad,e,Nat.lt_of_lt_of_le h1 o.size,by rw [World.cell?_of_block (show w'.heap[(ad.add j).block]? = w.heap[(ad.add j).block]? by rw [zd0];exact hb)];exact h2,fun p hp => ?_,fun x hx => ?_⟩
  ·rcases List.mem_cons.1 hp with rfl|hp
   ·exact h3 (g,jcs s KA KC RA RC) (List.mem_cons_self ..)
   ·exact h3 p (List.mem_cons_of_mem _ hp)
  ·rcases List.mem_cons.1 hx with rfl|hx
   ·intro z
    rcases (k.kS _ z).1 with y|y
    ·exact nS y
    ·omega
   ·rcases List.mem_cons.1 hx with rfl|hx
    ·intro z
     rcases (k.rS _ z).1 with y|y
     ·exact nS y
     ·omega
    ·exact h4 x (List.mem_cons_of_mem _ (List.mem_cons_of_mem _ hx))
theorem zob (h:Bxs w0 w' l r F) {n:Nat} (hl:∀p∈l,p.1 < n) (hr:∀x∈r,∀b,x.blk=some b→b < n) (hG:Made n w' G):Bxs w0 w' l r (G++F) :=
 ⟨h.below,h.nodup,h.each,h.rows,h.apart,fun q hq=>by
  rcases List.mem_append.1 hq with hq|hq
  ·intro j u hj
   obtain ⟨ad,e,h1,h2,h3⟩:=hG q hq j u hj
   exact ⟨ad,e,h2,h3,fun p hp z=>by have:=hl p hp;omega,fun x hx z=>by have:=hr x hx _ z;omega⟩
  ·exact h.stay q hq⟩
theorem crash_x (h : Jbx w0 w g s l r F) (n : Int) (hz : Jm.size s ≤ 16777216) :
  Calls Tryz.prog 11 #[.pointer (some ⟨g,0,none⟩),.int .i64 n] w fun e w'=>e = .returned (.tuple #[])∧Jbx w0 w' g (Jm.crash s n) l r F:=by
 obtain ⟨ok,KA,KC,RA,RC,h⟩:=h
 refine (zrr (zil h ok) n hz).mono ?_
 rintro e w' ⟨rfl,d⟩
 exact ⟨rfl,zm3 h d⟩
def vaddr:Value→Option Addr
 |.slice A _ _=>A
 |_=>none
def Tl (F:Fz) (kk bb:Value) (fs:List (Int×List Int)):Prop :=
 ∃A1 c1 A2 c2 vs,kk = .slice A1 fs.length c1∧bb = .slice A2 fs.length c2∧fs.length≤c2∧c2≤maxLen∧(A1,u8s (fs.map (·.1)))∈F∧(A2,vs)∈F∧vs.length=fs.length ∧
  ∀(j:Nat) v q,vs[j]? = some v→fs[j]? = some q→∃A c,v = .slice A q.2.length c∧q.2.length≤c∧c≤maxLen∧(A,u8s q.2)∈F
theorem zny {e:TypeId} {n k:Nat} {A:Option Addr} {c m:Nat} {xs:List Value} (h:w'.ownsRow n e 1 (.slice A k c) m xs):∀j u,xs[j]? = some u→∃ad,A=some ad∧n≤ad.block∧ad.block < w'.heap.size∧w'.cell? (ad.add j)=some u:=fun j u hj=>by
 obtain ⟨A2,c2,e2,-,-,hr⟩:=za4 h
 cases e2
 obtain ⟨ad,rfl,hb,hc⟩:=hr j u hj
 exact ⟨ad,rfl,(h.lt ad.block rfl).1,hb,hc⟩
theorem zpw {n:Nat} {kk bb:Value} {fs:List (Int×List Int)} (h:Told n w' kk bb fs):∃G:Fz,Made n w' G∧Tl G kk bb fs:=by
 obtain ⟨vs,h1,h2,h3,h4,h5⟩:=h
 obtain ⟨A1,c1,rfl,q1,q2,q3⟩:=za4 h1
 obtain ⟨A2,c2,rfl,p1,p2,p3⟩:=za4 h2
 have hvl:vs.length=fs.length:=by have:=h2.1;simpa using this
 rw [List.length_map] at p1
 refine ⟨(A1,u8s (fs.map (·.1)))::(A2,vs)::(vs.zip fs).map (fun x=>(vaddr x.1,u8s x.2.2)),?_,A1,c1,A2,c2,vs,by rw [List.length_map],by rw [List.length_map],p1,p2,List.mem_cons_self ..,List.mem_cons_of_mem _ (List.mem_cons_self ..),hvl,?_⟩
 ·intro q hq
  rcases List.mem_cons.1 hq with rfl|hq
  ·exact zny h1
  ·rcases List.mem_cons.1 hq with rfl|hq
   ·exact zny h2
   ·obtain ⟨x,hx,rfl⟩:=List.mem_map.1 hq
    obtain ⟨i,hi⟩:=List.mem_iff_getElem?.1 hx
    obtain ⟨k1,k2⟩:=List.getElem?_zip_eq_some.1 hi
    obtain ⟨A,c,hv,-,-,hc⟩:=h5 i x.1 x.2.2 k1 (by rw [List.getElem?_map,k2];rfl)
    intro j u hj
    obtain ⟨ad,e,ho,hcell⟩:=hc j u hj
    exact ⟨ad,by show vaddr x.1=some ad;rw [hv];exact e,ho.1,ho.2.1,hcell⟩
 ·intro j v q hv hq
  obtain ⟨A,c,e,m1,m2,-⟩:=h5 j v q.2 hv (by rw [List.getElem?_map,hq];rfl)
  refine ⟨A,c,e,m1,m2,List.mem_cons_of_mem _ (List.mem_cons_of_mem _ (List.mem_map.2 ⟨(v,q),?_,by rw [e];rfl⟩))⟩
  exact List.mem_iff_getElem?.2 ⟨j,List.getElem?_zip_eq_some.2 ⟨hv,hq⟩⟩
theorem Tl.more {F F':Fz} {kk bb:Value} {fs:List (Int×List Int)} (h:Tl F kk bb fs) (hs:∀q∈F,q∈F'):Tl F' kk bb fs:=by
 obtain ⟨A1,c1,A2,c2,vs,h1,h2,h3,h4,h5,h6,h7,h8⟩:=h
 exact ⟨A1,c1,A2,c2,vs,h1,h2,h3,h4,hs _ h5,hs _ h6,h7,fun j v q a b=>by
  obtain ⟨A,c,k1,k2,k3,k4⟩:=h8 j v q a b
  exact ⟨A,c,k1,k2,k3,hs _ k4⟩⟩
theorem open_x (h : Jbx w0 w g s l r F) (ht : HTab w0) (hz : Jm.size s ≤ 4194304) :
  Calls Tryz.prog 32 #[.pointer (some ⟨g,0,none⟩)] w fun e w'=>∃kk bb F',e = .returned (.tuple #[kk,bb,.int .i64 (Jm.opn s).2.2])∧Jbx w0 w' g (Jm.opn s).1 l r F'∧(∀q∈F,q∈F')∧Tl F' kk bb (Jm.opn s).2.1:=by
 obtain ⟨ok,KA,KC,RA,RC,h⟩:=h
 have hj:=zil h ok
 have hg:=h.each _ (List.mem_cons_self ..)
 have nT:¬ jS g (jrow KA KC s.kept) (jrow RA RC s.rest) 1:=fun q=>by
  have h0:=ht 0 (by decide)
  have hlt:=World.block_lt_of_cell? w0 _ h0
  have hlt2:1 < w0.heap.size:=hlt
  rcases q with q|q|q
  ·have:=hg.1;omega
  ·have:=((h.rows _ (List.mem_cons_self ..)).1.lt q).1;omega
  ·have:=((h.rows _ (List.mem_cons_of_mem _ (List.mem_cons_self ..))).1.lt q).1;omega
 refine (open_any hj (ht.below h.below (Nat.le_refl _)) nT hz).mono ?_
 rintro e w' ⟨kk,bb,rfl,ht,⟨kv,rv,k⟩,o⟩
 obtain ⟨KA',KC',rfl⟩:=zd5 k.kr
 obtain ⟨RA',RC',rfl⟩:=zd5 k.rr
 obtain ⟨G,hG,hT⟩:=zpw ht
 have hB:=jbx_did0 h k.sx o
 have hB2:=zob hB (n:=w.heap.size) (fun p hp=>by
  rcases List.mem_cons.1 hp with rfl|hp
  ·exact hg.2.1
  ·exact (h.each p (List.mem_cons_of_mem _ hp)).2.1) (fun x hx b e=>by
  rcases List.mem_cons.1 hx with rfl|hx
  ·exact hj.lt _ (k.kS b e).1
  ·rcases List.mem_cons.1 hx with rfl|hx
   ·exact hj.lt _ (k.rS b e).1
   ·exact ((h.rows x (List.mem_cons_of_mem _ (List.mem_cons_of_mem _ hx))).1.lt e).2) hG
 exact ⟨kk,bb,G++F,rfl,⟨k.ok,_,_,_,_,hB2⟩,fun q hq=>List.mem_append.2 (.inr hq),hT.more fun q hq=>List.mem_append.2 (.inl hq)⟩
end
end Go.Proofs.YtponpgcpmlcdpaaGreatDoor

namespace Go.Proofs.YtponpgcpmlcdpaaGreatDoor
open Go.RowKit Go.Shelf Km Kx Kc Kt
set_option linter.unusedVariables false
set_option linter.unusedSimpArgs false
theorem PtOk.more {F F':Fz} {p:Pt} (h:PtOk F p) (hs:∀q∈F,q∈F'):PtOk F' p:=⟨h.1,h.2.1.more hs,h.2.2⟩
theorem Inv.more {F F':Fz} {node:Int} {a:Ac} (h:Inv F node a) (hs:∀q∈F,q∈F'):Inv F' node a:=⟨h.kn.more hs,h.pl.imp id (·.more hs),h.pr,h.ac,h.node,h.l,h.m⟩
theorem Inv.rp {F:Fz} {node:Int} {a:Ac} (h:Inv F node a) {x:Mm.Ms} {p:Pt} (hb:Pm.I x.b) (hp:(x.k=5∨x.k=8)→PtOk F p):Inv F node (a.replay x p):=by
 unfold Ac.replay
 split
 ·rename_i h5
  have hp:=hp (.inl h5)
  split
  ·exact ⟨hp,h.pl,hb,h.ac,h.node,h.l,h.m⟩
  ·unfold Ac.enter
   split
   ·exact ⟨hp,.inl rfl,hb,I0,h.node,h.l,h.m⟩
   ·exact ⟨hp,.inl rfl,hb,I0,h.node,h.l,h.m⟩
 ·split
  ·rename_i h8
   exact ⟨h.kn,.inr (hp (.inr h8)),hb,hb,h.node,h.l,h.m⟩
  ·split
   ·unfold Ac.widen
    split<;>exact ⟨h.kn,h.pl,h.pr,h.ac,h.node,h.l,h.m⟩
   ·split
    ·exact ⟨h.kn,h.pl,h.pr,h.ac,h.node,h.l,h.m⟩
    ·exact h
theorem zp8 (a:Ac) (x:Mm.Ms) (p:Pt) (h:a.ld = -1):(a.replay x p).ld = -1:=by
 unfold Ac.replay Ac.enter Ac.widen
 repeat' split
 all_goals first|exact h|rfl
section
variable {w0 w w':World} {ga g:Nat} {a:Ac} {s:Jm.St} {l:List (Nat×List Value)} {r:List Rw} {F:Fz} {node:Int}
theorem bxs_msg (h:Bxs w0 w l r F) (hb:Below w.heap.size w w') {x:Mm.Ms} {lo:Lo} (hm:MsAt w' w'.heap.size x lo) (hf:LoFr w.heap.size lo):Bxs w0 w' l r (mfz x lo++F):=by
 have mk:∀ {A:Option Addr} {xs:List Value},Rd w' w'.heap.size A xs→Fr w.heap.size A→∀j u,xs[j]? = some u→∃ad,A=some ad∧w.heap.size≤ad.block∧ad.block < w'.heap.size∧w'.cell? (ad.add j)=some u:=fun hr hf j u hj=>by
  obtain ⟨ad,e,h1,h2⟩:=hr j u hj
  exact ⟨ad,e,hf ad e,h1,h2⟩
 refine zob (h.call hb) (n:=w.heap.size) (fun p hp=>(h.each p hp).2.1) (fun x hx b e=>((h.rows x hx).1.lt e).2) fun q hq => ?_
 rcases List.mem_cons.1 hq with rfl|hq
 ·exact mk hm.pl.r1 hf.f1
 ·rcases List.mem_cons.1 hq with rfl|hq
  ·exact mk hm.pl.r2 hf.f2
  ·rcases List.mem_cons.1 hq with rfl|hq
   ·exact mk hm.r3 hf.f3
   ·rcases List.mem_cons.1 hq with rfl|hq
    ·exact mk hm.r4 hf.f4
    ·rcases List.mem_cons.1 hq with rfl|hq
     ·exact mk hm.r5 hf.f5
     ·cases hq
theorem MsAt.msOk {B:Nat} {x:Mm.Ms} {lo:Lo} (h:MsAt w B x lo):MsOk x lo:=⟨h.ok,h.pl.l1,h.pl.c1,h.pl.m1,h.pl.l2,h.pl.c2,h.pl.m2,h.l3,h.c3,h.m3,h.l4,h.c4,h.m4,h.l5,h.c5,h.m5⟩
theorem mpt_ok {x : Mm.Ms} {lo : Lo} {G : Fz} (hm : MsOk x lo) (hs : ∀ q ∈ mfz x lo, q ∈ G) (hr : x.plan.right = true) : PtOk G (mpt x lo) := ⟨hm.pt, (fun z hz' => by
  rcases List.mem_cons.1 hz' with rfl|hz'
  ·exact .inr (hs _ (List.mem_cons_self ..))
  ·rcases List.mem_cons.1 hz' with rfl|hz'
   ·exact .inr (hs _ (List.mem_cons_of_mem _ (List.mem_cons_self ..)))
   ·cases hz'),hr⟩
structure Rdd (F F':Fz) (node:Int) (a a':Ac):Prop where
 inv:Inv F' node a'
 c:a'.c=a.c
 wr:a'.wr=a.wr
 lt:a'.lt=a.lt
 ld:a'.ld = -1
 more:∀q∈F,q∈F'
set_option maxHeartbeats 2000000 in
theorem zqc (h : Bxs w0 w ((ga, a.cells g) :: l) r F) (hi : Inv F node a) (hld : a.ld = -1) (xs : List Mm.Ms) (hx : ∀ x ∈ xs, Rec x) {kk bb : Value} (ht : Tl F kk bb (frs xs)) (hT : Tab w0) :
  Calls Tryz.prog 33 #[kk,bb,.func (.func 34) #[.pointer (some ⟨ga,32,none⟩)] #[]] w fun e w'=>∃(a':Ac) (F':Fz),e = .returned (.tuple #[])∧Bxs w0 w' ((ga,a'.cells g)::l) r F'∧Rdd F F' node a a'∧a'.co=xs.foldl Co.rp a.co:=by
 obtain ⟨A1,c1,A2,c2,vs,rfl,rfl,hc2,hm2,hk1,hk2,hvl,hq⟩:=ht
 have hfl:(frs xs).length=xs.length:=List.length_map ..
 rw [hfl] at hc2 hvl ⊢
 have HB:=Lib.hid h
 have HX:=Lib.hid hx
 have HK1:=Lib.hid hk1
 have HK2:=Lib.hid hk2
 have HQ:=Lib.hid hq
 have HV:=Lib.hid hvl
 have HTb:=Lib.hid hT
 obtain ⟨n,hn⟩ : ∃n,xs.length=n:=⟨_,rfl⟩
 have HN:=Lib.hid hn
 rw [hn] at hc2 ⊢
 have hnm:n≤maxLen:=Nat.le_trans hc2 hm2
 have hnm2:n≤9223372036854775807:=by unfold maxLen at hnm;omega
 have HI0:Hid (Rdd F F node a a):=⟨hi,rfl,rfl,rfl,hld,fun _ h=>h⟩
 clear h hx hk1 hk2 hq hvl hT hn hfl hi hld hc2 hm2 hnm
 go_enter Tryz.func33,Tryz.ntmps33
 go_wp2_with fail
 go_loopg [12] n (fun gh ix wr=>∃(k:Nat) (a1:Ac) (F1:Fz),gh+k=n∧ix = .int .i64 (k:Int)∧Hid (Rdd F F1 node a a1)∧Hid (a1.co=(xs.take k).foldl Co.rp a.co)∧Hid (Bxs w0 wr ((ga,a1.cells g)::l) r F1))
 case atStart=>exact ⟨0,a,F,by omega,rfl,HI0,Lib.hid rfl,HB⟩
 case round =>
  clear HB HI0
  obtain ⟨k,a1,F1,hk,rfl,HI,HC,HB⟩:=hrel
  by_cases hlt:k < n
  ·obtain ⟨x,hxk⟩ : ∃x,xs[k]? = some x:=⟨xs[k]'(by rw [HN.out];exact hlt),List.getElem?_eq_getElem _⟩
   have hrc:=HX.out x (List.mem_of_getElem? hxk)
   have hfk:(frs xs)[k]? = some (x.k,x.body):=by unfold frs;rw [List.getElem?_map,hxk];rfl
   obtain ⟨v,hv⟩ : ∃v,vs[k]? = some v:=⟨vs[k]'(by rw [HV.out,HN.out];exact hlt),List.getElem?_eq_getElem _⟩
   obtain ⟨A,c,rfl,m1,m2,m3⟩:=HQ.out k v _ hv hfk
   dsimp only at m1 m3 hv
   have d1:(k:Int) < (n:Int):=by omega
   obtain ⟨ad2,rfl,-,hc2⟩:=HB.out.zfc (HI.out.more _ HK2.out) k _ hv
   obtain ⟨ad1,rfl,-,hc1⟩:=HB.out.zfc (HI.out.more _ HK1.out) k (.int .u8 x.k) (by unfold u8s;rw [List.getElem?_map,List.getElem?_map,hfk];rfl)
   have hkk:0≤x.k∧x.k≤255:=by have h:=Mm.zbr.1 hrc.2.1;have h1:=h.1;have h2:=h.2.1;omega
   have HOf:Hid (Calls Tryz.prog 56 #[.int .u8 x.k,.slice A x.body.length c] wr fun e w'=>∃lo,e = .returned (.tuple #[.agg (mvs x lo).toArray,.int .i64 0])∧MsAt w' w'.heap.size x lo∧LoFr wr.heap.size lo∧Below wr.heap.size wr w'):=Lib.hid (by
    have:=MOf_any x.k A x.body.length c wr.heap.size x.body wr hkk (HB.out.zfc (HI.out.more _ m3)) rfl m1 m2 (Nat.le_refl _) (Mm.znb hrc.1 hrc.2.1) (HTb.out.below HB.out.below (Nat.le_refl _))
    rw [Mm.of_put hrc.1 hrc.2.1] at this
    exact this)
   have HS:Hid (xs.take (k+1)=xs.take k++[x]):=Lib.hid (by rw [List.take_add_one,hxk];rfl)
   have HR:=Lib.hid hrc
   clear hxk hrc hfk hv m1 m2 m3 hkk HX HQ HK1 HK2 HV HTb hlt
   go_wp2_with (go_at_call 56;fail)
   refine HOf.out.mono ?_
   rintro e w3 ⟨lo,rfl,hms,hfr,hb3⟩
   have HB2:=Lib.hid (bxs_msg HB.out hb3 hms hfr)
   have hmo:=hms.msOk
   have HP:Hid ((x.k=5∨x.k=8)→PtOk (mfz x lo++F1) (mpt x lo)):=Lib.hid (fun q=>mpt_ok hmo (fun q hq=>List.mem_append.2 (.inl hq)) (HR.out.2.2 q))
   have hin:∀W,(callFunc 34 #[.pointer (some ⟨ga,32,none⟩),.agg (mvs x lo).toArray]).run Tryz.prog W = .ok (.enter 34 #[.pointer (some ⟨ga,32,none⟩),.agg (mvs x lo).toArray]) W:=fun W=>zcv Tryz.func34 rfl rfl _ _
   clear HB hms hfr hb3 hmo HOf hc1 hc2
   have HB:=HB2
   clear HB2
   go_wp2_with (first|(go_at_call 34;fail)|(first|((with_reducible refine zah HB ?_);clear HB;intro w_ HB)|((with_reducible refine zae ?_);(first|refine boxa HB rfl ?_|refine boxt HB rfl rfl ?_|refine box1 HB rfl rfl ?_);clear HB;intro b_ w_ HB;refine Kx.fr ?_)|((with_reducible refine zaa ?_);(first|refine ala HB ?_|refine al1 HB ?_);clear HB;intro b_ w_ HB;refine Kx.fr ?_)|((with_reducible refine zab ?_);first|refine Kx.l1 HB rfl rfl ?_|refine Kx.la HB rfl ?_|refine Kx.lo HB rfl HC.out ?_)|((with_reducible refine zac ?_);first|refine l1g HB rfl rfl rfl ?_|refine Kx.lag HB rfl rfl ?_|refine Kx.log HB rfl HC.out rfl ?_)|((with_reducible refine zad ?_);(first|refine stwa HB rfl rfl ?_|refine sta HB rfl rfl ?_|refine Kx.stc HB rfl rfl ?_|refine Kx.stt HB rfl rfl rfl ?_|refine Kx.st1 HB rfl rfl rfl ?_);clear HB;intro w_ HB)))
   refine (zjd HB.out.swap x lo).mono ?_
   rintro e w5 ⟨rfl,HB5⟩
   have HB6:=Lib.hid HB5.swap.tail
   clear HB5 HB
   have HB:=HB6
   clear HB6
   go_wp2_with fail
   go_roundg (gk - 1)
   case measure=>omega
   case rel =>
    have hI:=HI.out
    refine ⟨k+1,a1.replay x (mpt x lo),mfz x lo++F1,by omega,by go_num,Lib.hid ⟨(hI.inv.more fun q hq=>List.mem_append.2 (.inr hq)).rp HR.out.1.b HP.out,(zez _ _ _).1.trans hI.c,(zez _ _ _).2.2.1.trans hI.wr,(zez _ _ _).2.2.2.trans hI.lt,zp8 _ _ _ hI.ld,fun q hq=>List.mem_append.2 (.inr (hI.more q hq))⟩,Lib.hid ?_,HB⟩
    rw [zfm (fun _=>rfl),HC.out,HS.out,List.foldl_append]
    rfl
  ·obtain rfl:k=n:=by omega
   have d1:decide ((k:Int) < (k:Int))=false:=by simp
   have HE:Hid (xs.take k=xs):=Lib.hid (List.take_of_length_le (by rw [HN.out];exact Nat.le_refl _))
   go_wp2_with fail
   go_end0
   exact ⟨a1,F1,rfl,HB.out,HI.out,by rw [HC.out,HE.out]⟩
end
end Go.Proofs.YtponpgcpmlcdpaaGreatDoor

namespace Go.Proofs.YtponpgcpmlcdpaaGreatDoor
open Go.RowKit Go.Shelf Km Kx Kc Kt
set_option linter.unusedVariables false
set_option linter.unusedSimpArgs false
@[simp] theorem Ac.take_c {g:Nat} {a:Ac}:(a.cells g).take 30=cf a.c:=rfl
instance:Kx.AggC Tryz.prog 80 67:=⟨Tryz.isAgg80,Tryz.sizeOf80⟩
instance:Kx.OneC Tryz.prog 43:=⟨Tryz.isAgg43⟩
theorem zqu (c:Cf) (node:Int) (p:Pt):(newA c node p).co=Co.ini p.x:=rfl
section
variable {w0 w w':World} {ga g:Nat} {a:Ac} {s:Jm.St} {l:List (Nat×List Value)} {r:List Rw} {F:Fz} {node:Int}
structure Rst (z:Pm.Pl) (F F':Fz) (node:Int) (s:Jm.St) (rs:List Mm.Ms) (now er:Int) (a a':Ac):Prop where
 inv:Inv F' node a'
 more:∀q∈F,q∈F'
 c:a'.c=a.c
 ld:a'.ld = -1
 yes:er=0→JUp z (Jm.opn s).1 rs a'∧(a'.lo≠0→a'.wr=now)∧(a'.led=true→a'.lt=now)
 no:er≠0→JDn z (Jm.opn s).1 rs∧a'.co=Co.ini z
theorem Rst.ji {z:Pm.Pl} {F F':Fz} {s:Jm.St} {rs:List Mm.Ms} {now er:Int} {a a':Ac} (h:Rst z F F' node s rs now er a a'):JI z (Jm.opn s).1 rs a':=by
 by_cases q:er=0
 ·exact .inl (h.yes q).1
 ·exact .inr (h.no q).1
set_option maxHeartbeats 4000000 in
theorem zr5 (h : Jbx w0 w g s ((ga, a.cells g) :: l) r F) (hi : Inv F node a) (xs : List Int) (N : Nat) (hF : Within [(a.c.ta, i64s xs)] F) (hl : xs.length = a.c.tn) (hc : zfa a.c xs) (hN : a.c.targets = (N : Int)) (rs : List Mm.Ms) (hj : JI (zp N) s rs a) (hz : Jm.size s ≤ 4194304) (hT : Tab w0) (hH : HTab w0) (now : Int) :
  Calls Tryz.prog 12 #[.pointer (some ⟨ga,0,none⟩),.int .i64 now] w fun e w'=>∃(a':Ac) (F':Fz) (er:Int),e = .returned (.int .i64 er)∧Jbx w0 w' g (Jm.opn s).1 ((ga,a'.cells g)::l) r F'∧Rst (zp N) F F' node s rs now er a a':=by
 obtain ⟨ok,KA,KC,RA,RC,HB0⟩:=h
 have HB:=Lib.hid HB0.swap
 have HOk:=Lib.hid ok
 have HIn:Hid (∀ {W:World} {L:List (Nat×List Value)} {r':List Rw},Bxs w0 W L r' F→Calls Tryz.prog 29 #[.agg (cf a.c).toArray] W fun e w'=>∃p:Pt,e = .returned (.agg (stc p).toArray)∧Below W.heap.size W w'∧New W w' [] p.A (i64s p.x.pen)∧p.x=zp N∧p.Fine):=Lib.hid (fun q=>zlk a.c xs N (hF.rd q (List.mem_cons_self ..)) hl hc hN)
 have H16:Hid (N≤16):=Lib.hid (by have:=hc.targets.2;omega)
 have HOp:Hid (∀ {W:World} {L:List (Nat×List Value)} {r':List Rw} {F':Fz},Jbx w0 W g s L r' F'→Calls Tryz.prog 32 #[.pointer (some ⟨g,0,none⟩)] W fun e w'=>∃kk bb F2,e = .returned (.tuple #[kk,bb,.int .i64 (Jm.opn s).2.2])∧Jbx w0 w' g (Jm.opn s).1 L r' F2∧(∀q∈F',q∈F2)∧Tl F2 kk bb (Jm.opn s).2.1):=Lib.hid (fun q=>open_x q hH hz)
 have hop:=hj.open
 have HTb:=Lib.hid hT
 have HIv:Hid (∀(p:Pt) (F':Fz),p.x=zp N→p.Fine→Within p.fz F'→Inv F' node (newA a.c a.node p)):=Lib.hid (fun p F' h1 h2 h3=>⟨⟨h2,h3,by show p.x.right=true;rw [h1];exact znm H16.out ⟨by decide,by decide⟩ ⟨by decide,by decide⟩⟩,.inl rfl,I0,I0,hi.node,hi.l,hi.m⟩)
 have hrec:∀x∈rs,Rec x:=hj.elim (·.rc) (·.rc)
 have HRc:=Lib.hid hrec
 clear HB0 ok hi hF hl hc hN hj hz hT hH hrec
 obtain ⟨⟨s1,fs,er⟩,hs1⟩ : ∃q,Jm.opn s=q:=⟨_,rfl⟩
 have HE:=Lib.hid hs1
 rw [hs1] at hop HOp
 dsimp only at hop HOp
 clear hs1
 go_enter Tryz.func12,Tryz.ntmps12
 go_upto_region 1 with fail
 have hsub:∀w',Bxs w0 w' ((ga,a.cells g)::(g,jcs s KA KC RA RC)::l) (jrow KA KC s.kept::jrow RA RC s.rest::r) F→∃(a':Ac) (F':Fz),a'.c=a.c∧a'.node=a.node∧Bxs w0 w' ((ga,a'.cells g)::(g,jcs s KA KC RA RC)::l) (jrow KA KC s.kept::jrow RA RC s.rest::r) F':=fun w' q=>⟨a,F,rfl,rfl,q⟩
 refine Kx.zc5 (fun w'=>∃(a':Ac) (F':Fz),a'.c=a.c∧a'.node=a.node∧Bxs w0 w' ((ga,a'.cells g)::(g,jcs s KA KC RA RC)::l) (jrow KA KC s.kept::jrow RA RC s.rest::r) F') (fun w'=>Bxs w0 w' ((ga,a.cells g)::(g,jcs s KA KC RA RC)::l) (jrow KA KC s.kept::jrow RA RC s.rest::r) F) (fun i=>false) (by kernel_rfl) HB.out.drew ?_
 refine tkS 0 rfl hsub ?_
 refine tkS 1 rfl hsub ?_
 refine tkS 2 rfl hsub ?_
 refine tkS 3 rfl hsub ?_
 refine tkS 4 rfl hsub ?_ (v:=.agg (cf a.c).toArray) (hy:=fun w1 ⟨a',F',e1,e2,hB⟩=>Kx.zch hB ga 0 rfl (a'.cells g) inferInstance 30 (Tryz.isAgg24 _) (Tryz.sizeOf24 _) (cf a.c) (by rw [←e1];rfl) rfl rfl)
 refine tkS 5 rfl hsub ?_
 refine tkS 6 rfl hsub ?_
 refine tkS 7 rfl hsub ?_
 refine tkS 8 rfl hsub ?_ (v:=.int .i64 a.node) (hy:=fun w1 ⟨a',F',e1,e2,hB⟩=>Kx.zbg hB ga 30 rfl (a'.cells g) inferInstance (Tryz.isAgg3 _) (by rw [←e2];rfl))
 refine tkS 9 rfl hsub ?_
 refine tkS 10 rfl hsub ?_
 refine tkS 11 rfl hsub ?_
 refine tkS 12 rfl hsub ?_ (v:=.pointer (some ⟨g,0,none⟩)) (hy:=fun w1 ⟨a',F',e1,e2,hB⟩=>Kx.zbg hB ga 31 rfl (a'.cells g) inferInstance (Tryz.isAgg40 _) rfl)
 refine tkS 13 rfl hsub ?_
 refine tkS 14 rfl hsub ?_
 refine tkS 15 rfl hsub ?_
 refine tkS 16 rfl hsub ?_ (v:=.agg (cf a.c).toArray) (hy:=fun w1 ⟨a',F',e1,e2,hB⟩=>Kx.zch hB ga 0 rfl (a'.cells g) inferInstance 30 (Tryz.isAgg24 _) (Tryz.sizeOf24 _) (cf a.c) (by rw [←e1];rfl) rfl rfl)
 refine Kx.zfn (ι:={p:Pt // p.x=zp N∧p.Fine}) 17 (fun y => .agg (stc y.1).toArray) (fun y w'=>Bxs w0 w' ((ga,a.cells g)::(g,jcs s KA KC RA RC)::l) (jrow KA KC s.kept::jrow RA RC s.rest::r) ((y.1.A,i64s y.1.x.pen)::F)) ⟨_,rfl,zjz H16.out none⟩ rfl (fun _=>za7) (fun _ _ q=>⟨a,_,rfl,rfl,q⟩) ?e2 (fun w hw=>(HIn.out hw).mono fun e w' k=>by
  obtain ⟨p,rfl,hb,hn,hx,hf⟩:=k
  exact ⟨⟨p,hx,hf⟩,rfl,hw.zh1 hb hn (fun _ q=>by cases q)⟩) ?h2
 case e2=>(intro w hw;go_simp;try (first|(refine ⟨?_,?_⟩<;>with_reducible rfl)|with_reducible rfl))
 rintro ⟨p,hx,hf⟩
 have HP:=Lib.hid (And.intro hx hf)
 dsimp only
 refine lsS 18 rfl (fun w' q=>⟨a,_,rfl,rfl,q⟩) ?_ (v:=.agg ((newA a.c a.node p).cells g).toArray) (hy:=fun w hw=>zcr 80 _ rfl #[(0,.agg (cf a.c).toArray),(1,.int .i64 a.node),(2,.pointer (some ⟨g,0,none⟩)),(3,.agg (stc p).toArray)] (by go_simp;try rfl) _ (zoi _ a.node g p))
 refine lsS 19 rfl (fun w' q=>⟨a,_,rfl,rfl,q⟩) ?_
 refine Kx.staS 20 rfl rfl rfl (fun w' q=>⟨newA a.c a.node p,_,rfl,rfl,q⟩) ?_
 refine zan (by kernel_rfl) ?_
 clear HB hsub
 intro w_ HB_
 have HB:=Lib.hid HB_
 clear HB_
 have HFn:Hid (Inv ((p.A,i64s p.x.pen)::F) node (newA a.c a.node p)):=Lib.hid (HIv.out p _ HP.out.1 HP.out.2 (zpo HP.out.1 (List.mem_cons_self ..)))
 have HCo:Hid ((newA a.c a.node p).co=Co.ini (zp N)):=Lib.hid (by rw [zqu,HP.out.1])
 have HOp2:=Lib.hid (HOp.out ⟨HOk.out,KA,KC,RA,RC,HB.out.swap⟩)
 obtain ⟨a0,ha0⟩ : ∃a0,newA a.c a.node p=a0:=⟨_,rfl⟩
 have HA0:Hid (a0.c=a.c∧a0.wr=0∧a0.lt=0∧a0.ld = -1):=Lib.hid (by rw [←ha0];exact ⟨rfl,rfl,rfl,rfl⟩)
 rw [ha0] at HFn HCo HOp2 HB
 clear hx hf HP HIn HIv HOp HOk H16 ha0
 go_wp2_with (first|(go_at_call 32;fail)|(first|((with_reducible refine zah HB ?_);clear HB;intro w_ HB)|((with_reducible refine zae ?_);(first|refine boxa HB rfl ?_|refine boxt HB rfl rfl ?_|refine box1 HB rfl rfl ?_);clear HB;intro b_ w_ HB;refine Kx.fr ?_)|((with_reducible refine zaa ?_);(first|refine ala HB ?_|refine al1 HB ?_);clear HB;intro b_ w_ HB;refine Kx.fr ?_)|((with_reducible refine zab ?_);first|refine Kx.l1 HB rfl rfl ?_|refine Kx.la HB rfl ?_)|((with_reducible refine zac ?_);first|refine l1g HB rfl rfl rfl ?_|refine Kx.lag HB rfl rfl ?_)|((with_reducible refine zad ?_);(first|refine stwa HB rfl rfl ?_|refine sta HB rfl rfl ?_|refine Kx.stc HB rfl rfl ?_|refine Kx.stt HB rfl rfl rfl ?_|refine Kx.st1 HB rfl rfl rfl ?_);clear HB;intro w_ HB)))
 refine HOp2.out.mono ?_
 rintro e w2 ⟨kk,bb,F2,rfl,⟨ok2,KA2,KC2,RA2,RC2,HB2⟩,hmore,hTl⟩
 have HOk2:=Lib.hid ok2
 have HM:=Lib.hid hmore
 have HT:=Lib.hid hTl
 have HB3:=Lib.hid HB2.swap
 clear HB ok2 hmore hTl HB2 HOp2
 have HB:=HB3
 clear HB3
 rcases hop with ⟨rfl,rfl,hup⟩|⟨hne,hdn⟩
 ·have HUp:=Lib.hid hup
  have HRA:=Lib.hid (zqc HB.out (HFn.out.more HM.out) HA0.out.2.2.2 rs HRc.out HT.out HTb.out)
  clear hup
  go_wp2_with (first|(go_at_call 33;fail)|(first|((with_reducible refine zah HB ?_);clear HB;intro w_ HB)|((with_reducible refine zae ?_);(first|refine boxa HB rfl ?_|refine boxt HB rfl rfl ?_|refine box1 HB rfl rfl ?_);clear HB;intro b_ w_ HB;refine Kx.fr ?_)|((with_reducible refine zaa ?_);(first|refine ala HB ?_|refine al1 HB ?_);clear HB;intro b_ w_ HB;refine Kx.fr ?_)|((with_reducible refine zab ?_);first|refine Kx.l1 HB rfl rfl ?_|refine Kx.la HB rfl ?_)|((with_reducible refine zac ?_);first|refine l1g HB rfl rfl rfl ?_|refine Kx.lag HB rfl rfl ?_)|((with_reducible refine zad ?_);(first|refine stwa HB rfl rfl ?_|refine sta HB rfl rfl ?_|refine Kx.stc HB rfl rfl ?_|refine Kx.stt HB rfl rfl rfl ?_|refine Kx.st1 HB rfl rfl rfl ?_);clear HB;intro w_ HB)))
  refine HRA.out.mono ?_
  rintro e w3 ⟨a1,F3,rfl,HB4,hrd,hco⟩
  have HD:=Lib.hid hrd
  have HC1:Hid (a1.co=KK (zp N) rs):=Lib.hid (by rw [hco,HCo.out];rfl)
  have HBn:=Lib.hid HB4
  clear HB HRA HB4 hrd hco
  have HB:=HBn
  clear HBn
  have fin:∀a2:Ac,Inv F3 node a2→a2.co=a1.co→a2.c=a1.c→a2.ld=a1.ld→(a2.lo≠0→a2.wr=now)→(a2.led=true→a2.lt=now)→Rst (zp N) F F3 node s rs now 0 a a2:=fun a2 h1 h2 h3 h4 h5 h6=>⟨h1,fun q hq=>HD.out.more q (HM.out q (List.mem_cons_of_mem _ hq)),h3.trans (HD.out.c.trans HA0.out.1),h4.trans HD.out.ld,fun _=>⟨by rw [HE.out];exact HUp.out a2 (h2.trans HC1.out),h5,h6⟩,fun q=>absurd rfl q⟩
  have HFin:=Lib.hid fin
  clear fin
  by_cases hlo:a1.lo=0
  ·have e1:(a1.lo != 0)=false:=by rw [hlo];rfl
   have HLo:=Lib.hid hlo
   clear hlo
   go_wp2_with (first|((with_reducible refine zah HB ?_);clear HB;intro w_ HB)|((with_reducible refine zae ?_);(first|refine boxa HB rfl ?_|refine boxt HB rfl rfl ?_|refine box1 HB rfl rfl ?_);clear HB;intro b_ w_ HB;refine Kx.fr ?_)|((with_reducible refine zaa ?_);(first|refine ala HB ?_|refine al1 HB ?_);clear HB;intro b_ w_ HB;refine Kx.fr ?_)|((with_reducible refine zab ?_);first|refine Kx.l1 HB rfl rfl ?_|refine Kx.la HB rfl ?_)|((with_reducible refine zac ?_);first|refine l1g HB rfl rfl rfl ?_|refine Kx.lag HB rfl rfl ?_)|((with_reducible refine zad ?_);(first|refine stwa HB rfl rfl ?_|refine sta HB rfl rfl ?_|refine Kx.stc HB rfl rfl ?_|refine Kx.stt HB rfl rfl rfl ?_|refine Kx.st1 HB rfl rfl rfl ?_);clear HB;intro w_ HB))
   ·rename_i hled
    go_ret
    exact ⟨{ a1 with lt:=now },F3,0,rfl,by rw [HE.out];exact ⟨HOk2.out,_,_,_,_,HB.out.swap⟩,HFin.out { a1 with lt:=now } ⟨HD.out.inv.kn,HD.out.inv.pl,HD.out.inv.pr,HD.out.inv.ac,HD.out.inv.node,HD.out.inv.l,HD.out.inv.m⟩ rfl rfl rfl (fun q=>absurd HLo.out q) (fun _=>rfl)⟩
   ·rename_i hled
    go_ret
    exact ⟨a1,F3,0,rfl,by rw [HE.out];exact ⟨HOk2.out,_,_,_,_,HB.out.swap⟩,HFin.out a1 HD.out.inv rfl rfl rfl (fun q=>absurd HLo.out q) (fun q=>by have q2:a1.led=true:=q;rw [hled] at q2;cases q2)⟩
  ·have e1:(a1.lo != 0)=true:=by simpa using hlo
   have HLo:=Lib.hid hlo
   clear hlo
   go_wp2_with (first|((with_reducible refine zah HB ?_);clear HB;intro w_ HB)|((with_reducible refine zae ?_);(first|refine boxa HB rfl ?_|refine boxt HB rfl rfl ?_|refine box1 HB rfl rfl ?_);clear HB;intro b_ w_ HB;refine Kx.fr ?_)|((with_reducible refine zaa ?_);(first|refine ala HB ?_|refine al1 HB ?_);clear HB;intro b_ w_ HB;refine Kx.fr ?_)|((with_reducible refine zab ?_);first|refine Kx.l1 HB rfl rfl ?_|refine Kx.la HB rfl ?_)|((with_reducible refine zac ?_);first|refine l1g HB rfl rfl rfl ?_|refine Kx.lag HB rfl rfl ?_)|((with_reducible refine zad ?_);(first|refine stwa HB rfl rfl ?_|refine sta HB rfl rfl ?_|refine Kx.stc HB rfl rfl ?_|refine Kx.stt HB rfl rfl rfl ?_|refine Kx.st1 HB rfl rfl rfl ?_);clear HB;intro w_ HB))
   ·rename_i hled
    go_ret
    exact ⟨{ a1 with wr:=now,lt:=now },F3,0,rfl,by rw [HE.out];exact ⟨HOk2.out,_,_,_,_,HB.out.swap⟩,HFin.out { a1 with wr:=now,lt:=now } ⟨HD.out.inv.kn,HD.out.inv.pl,HD.out.inv.pr,HD.out.inv.ac,HD.out.inv.node,HD.out.inv.l,HD.out.inv.m⟩ rfl rfl rfl (fun _=>rfl) (fun _=>rfl)⟩
   ·rename_i hled
    go_ret
    exact ⟨{ a1 with wr:=now },F3,0,rfl,by rw [HE.out];exact ⟨HOk2.out,_,_,_,_,HB.out.swap⟩,HFin.out { a1 with wr:=now } ⟨HD.out.inv.kn,HD.out.inv.pl,HD.out.inv.pr,HD.out.inv.ac,HD.out.inv.node,HD.out.inv.l,HD.out.inv.m⟩ rfl rfl rfl (fun _=>rfl) (fun q=>by have q2:a1.led=true:=q;rw [hled] at q2;cases q2)⟩
 ·have e1:(er != 0)=true:=by simpa using hne
  have HR:Hid (Rst (zp N) F F2 node s rs now er a a0):=Lib.hid ⟨HFn.out.more HM.out,fun q hq=>HM.out q (List.mem_cons_of_mem _ hq),HA0.out.1,HA0.out.2.2.2,fun q=>absurd q hne,fun _=>⟨by rw [HE.out];exact hdn,HCo.out⟩⟩
  clear hne hdn
  go_wp2_with (first|((with_reducible refine zah HB ?_);clear HB;intro w_ HB)|((with_reducible refine zae ?_);(first|refine boxa HB rfl ?_|refine boxt HB rfl rfl ?_|refine box1 HB rfl rfl ?_);clear HB;intro b_ w_ HB;refine Kx.fr ?_)|((with_reducible refine zaa ?_);(first|refine ala HB ?_|refine al1 HB ?_);clear HB;intro b_ w_ HB;refine Kx.fr ?_)|((with_reducible refine zab ?_);first|refine Kx.l1 HB rfl rfl ?_|refine Kx.la HB rfl ?_)|((with_reducible refine zac ?_);first|refine l1g HB rfl rfl rfl ?_|refine Kx.lag HB rfl rfl ?_)|((with_reducible refine zad ?_);(first|refine stwa HB rfl rfl ?_|refine sta HB rfl rfl ?_|refine Kx.stc HB rfl rfl ?_|refine Kx.stt HB rfl rfl rfl ?_|refine Kx.st1 HB rfl rfl rfl ?_);clear HB;intro w_ HB))
  go_ret
  exact ⟨a0,F2,er,rfl,by rw [HE.out];exact ⟨HOk2.out,_,_,_,_,HB.out.swap⟩,HR.out⟩
end
end Go.Proofs.YtponpgcpmlcdpaaGreatDoor

namespace Go.Proofs.YtponpgcpmlcdpaaGreatDoor
open Go.RowKit Go.Shelf Km Kx Kc Kt
set_option linter.unusedVariables false
set_option linter.unusedSimpArgs false
structure LI (z:Pm.Pl) (node:Int) (c1:Cf) (n:Nat) (F0 F:Fz) (rs:List Mm.Ms) (a:Ac) (s:Jm.St):Prop where
 inv:Inv F node a
 ji:JI z s rs a
 sz:Jm.size s≤n
 c:a.c=c1
 more:∀q∈F0,q∈F
section
variable {z:Pm.Pl} {node:Int} {c1:Cf} {n:Nat} {F0 F F':Fz} {rs rs':List Mm.Ms} {a a':Ac} {s:Jm.St} {m:Mm.Ms} {now:Int} {R:Res}
theorem LI.handle (h:LI z node c1 n F0 F rs a s) (hb:Pm.I m.b) (k:Stp z F a s rs m now R rs'):LI z node c1 (n+8200) F0 F rs' R.1 R.2.1 :=
 ⟨k.inv h.inv hb,k.ji,Nat.le_trans k.size (Nat.add_le_add_right h.sz _),k.conf.trans h.c,h.more⟩
theorem LI.fuse (h:LI z node c1 n F0 F rs a s) (k:Int):LI z node c1 (n+8200) F0 F rs a (Jm.fuse s k):=⟨h.inv,h.ji.fuse k,Nat.le_trans h.sz (Nat.le_add_right ..),h.c,h.more⟩
theorem LI.crash (h:LI z node c1 n F0 F rs a s) (k:Int) (hk:JDn z (Jm.crash s k) rs'):LI z node c1 (n+8200) F0 F rs' a (Jm.crash s k):=⟨h.inv,.inr hk,Nat.le_trans (Nat.le_trans (Jm.zgr s k) h.sz) (Nat.le_add_right ..),h.c,h.more⟩
theorem LI.rst {er:Int} (h:LI z node c1 n F0 F rs a s) (k:Rst z F F' node s rs now er a a'):LI z node c1 (n+8200) F0 F' rs a' (Jm.opn s).1 :=
 ⟨k.inv,k.ji,Nat.le_trans (Nat.le_trans (Jm.znq s) h.sz) (Nat.le_add_right ..),k.c.trans h.c,fun q hq=>k.more q (h.more q hq)⟩
theorem zri (C:Co) (e:Int):(C.enter e).e=e∧(C.enter e).ac=0∧(C.enter e).led=C.led:=by unfold Co.enter;split<;>exact ⟨rfl,rfl,rfl⟩
theorem zpr (C:Co) (e:Int):(C.widen e).e=C.e∧(C.widen e).ac=C.ac∧(C.widen e).pr=C.pr∧(C.widen e).pl=C.pl∧(C.widen e).led=C.led:=by unfold Co.widen;split<;>exact ⟨rfl,rfl,rfl,rfl,rfl⟩
theorem rp_5 {C:Co} {x:Mm.Ms} (h:x.k=5):C.rp x={ (if x.e=C.e then C else C.enter x.e) with kn:=x.plan,pr:=x.b }:=if_pos h
theorem rp_8 {C:Co} {x:Mm.Ms} (h:x.k=8):C.rp x={ C with ac:=x.b,pl:=x.plan,pr:=x.b }:=by unfold Co.rp;rw [if_neg (by rw [h];decide),if_pos h]
theorem rp_w {C:Co} {x:Mm.Ms} (h:x.k=11) (hc:x.co=1):C.rp x=C.widen x.e:=by unfold Co.rp;rw [if_neg (by rw [h];decide),if_neg (by rw [h];decide),if_pos ⟨h,hc⟩]
theorem rp_l {C:Co} {x:Mm.Ms} (h:x.k=11) (hc:x.co=2):C.rp x={ C with led:=true }:=by unfold Co.rp;rw [if_neg (by rw [h];decide),if_neg (by rw [h];decide),if_neg (fun q=>by rw [hc] at q;exact absurd q.2 (by decide)),if_pos ⟨h,hc⟩]
structure KInv (E B:Int) (C:Co):Prop where
 lex:E < C.e∨(E=C.e∧B≤C.pr)
 ac:C.ac=0∨(C.ac≤C.pr∧C.pl.e=C.e)
theorem KInv.next {E B:Int} {C:Co} (h:KInv E B C) {x:Mm.Ms} (hn:Nxt C x):KInv E B (C.rp x):=by
 rcases hn with ⟨hk,hb,h1⟩|⟨hk,he,hb,-,hp⟩|⟨hk,hc,-⟩|⟨hk,hc⟩
 ·rw [rp_5 hk]
  rcases h1 with ⟨he,hpr,-⟩|⟨he,-⟩
  ·rw [if_pos he]
   refine ⟨?_,?_⟩
   ·rcases h.lex with q|q
    ·exact .inl q
    ·exact .inr ⟨q.1,by have:=q.2;show B≤x.b;omega⟩
   ·rcases h.ac with q|q
    ·exact .inl q
    ·exact .inr ⟨by have:=q.1;show C.ac≤x.b;omega,q.2⟩
  ·rw [if_neg (by omega)]
   have h2:=zri C x.e
   refine ⟨.inl ?_,.inl h2.2.1⟩
   show E < (C.enter x.e).e
   rw [h2.1]
   rcases h.lex with q|q<;>omega
 ·rw [rp_8 hk]
  refine ⟨?_,.inr ⟨Int.le_refl _,by show x.plan.e=C.e;rw [hp,he]⟩⟩
  rcases h.lex with q|q
  ·exact .inl q
  ·exact .inr ⟨q.1,by have:=q.2;show B≤x.b;omega⟩
 ·rw [rp_w hk hc]
  have h2:=zpr C x.e
  refine ⟨?_,?_⟩
  ·rw [h2.1,h2.2.2.1];exact h.lex
  ·rw [h2.1,h2.2.1,h2.2.2.1,h2.2.2.2.1];exact h.ac
 ·rw [rp_l hk hc]
  exact ⟨h.lex,h.ac⟩
structure LInv (at_ who now:Int) (C:Co) (a:Ac) (s:Jm.St):Prop where
 lo : -1≤at_
 hi:at_≤now
 led:0≤at_→C.led=true
 up:s.off=false→(a.ld ≠ -1→C.led=true)∧(0≤at_→at_≤a.lt∧(a.ld=who∨a.ld = -1))
theorem LInv.later {at_ who now now':Int} {C:Co} (h:LInv at_ who now C a s) (hn:now≤now'):LInv at_ who now' C a s:=⟨h.lo,Int.le_trans h.hi hn,h.led,h.up⟩
theorem LInv.down {at_ who now:Int} {C C':Co} {s':Jm.St} (h:LInv at_ who now C a s) (hc:C.led=true→C'.led=true) (hs:s'.off=true):LInv at_ who now C' a' s':=⟨h.lo,h.hi,fun q=>hc (h.led q),fun q=>by rw [hs] at q;cases q⟩
theorem LInv.fuse {at_ who now:Int} {C:Co} (h:LInv at_ who now C a s) (k:Int):LInv at_ who now C a (Jm.fuse s k):=⟨h.lo,h.hi,h.led,h.up⟩
theorem LInv.rst {at_ who:Int} {er:Int} (h:LInv at_ who now (KK z rs) a s) (k:Rst z F F' node s rs now er a a'):LInv at_ who now (KK z rs) a' (Jm.opn s).1:=by
 refine ⟨h.lo,h.hi,h.led,fun q => ?_⟩
 by_cases he:er=0
 ·obtain ⟨j,-,h2⟩:=k.yes he
  refine ⟨fun u=>absurd k.ld u,fun u => ?_⟩
  have hl:a'.led=true:=by
   have:=congrArg Co.led j.co
   exact this.trans (h.led u)
  rw [h2 hl]
  exact ⟨h.hi,.inr k.ld⟩
 ·have:=(k.no he).1.off
  rw [this] at q;cases q
end
end Go.Proofs.YtponpgcpmlcdpaaGreatDoor

namespace Go.Proofs.YtponpgcpmlcdpaaGreatDoor
open Go.RowKit Go.Shelf Km Kx Kc Kt
set_option linter.unusedVariables false
set_option linter.unusedSimpArgs false
instance:Kx.AggC Tryz.prog 39 29:=⟨Tryz.isAgg39,Tryz.sizeOf39⟩
instance:Kx.ZAgg Tryz.prog 39 Op.zero.cells:=⟨Tryz.zeroValue39⟩
@[simp] theorem Op.len' (o:Op):o.cells.length=29:=rfl
@[simp] theorem Op.take_m (o:Op):((o.cells).drop 1).take 26=o.m.cells:=rfl
theorem zfa.re {c:Cf} {xs:List Int} {A:Option Addr} {k:Nat} (h:zfa c xs):zfa { c with ta:=A,tn:=c.tn,tc:=k } xs:=by
 cases h
 constructor<;>assumption
section
variable {w0 w:World} {ga g:Nat} {a:Ac} {s:Jm.St} {l:List (Nat×List Value)} {r:List Rw} {F:Fz}
end
end Go.Proofs.YtponpgcpmlcdpaaGreatDoor

namespace Go.Proofs.YtponpgcpmlcdpaaGreatDoor
open Go.RowKit Go.Shelf Km Kx Kc Kt
set_option linter.unusedVariables false
set_option linter.unusedSimpArgs false
theorem zn6 (n:Int) (j:Nat) (hj:j < 64) (c:Int) (hc:(BitVec.ofInt 64 c).toNat=2 ^ j - 1):bits .and .i64 n c=n % ((2 ^ j:Nat):Int)∨j=63:=by
 refine if h63:j=63 then .inr h63 else .inl ?_
 have hp:2 ^ j≤2 ^ 62:=Nat.pow_le_pow_right (by decide) (by omega)
 have h0:0 < 2 ^ j:=Nat.two_pow_pos j
 have hd:(2 ^ j:Nat) ∣ 2 ^ 64:=Nat.pow_dvd_pow 2 (by omega)
 have key:(BitVec.ofInt 64 n &&& BitVec.ofInt 64 c).toNat=(n % ((2 ^ 64:Nat):Int)).toNat % 2 ^ j:=by
  rw [BitVec.toNat_and,BitVec.toNat_ofInt,hc,Nat.and_two_pow_sub_one_eq_mod]
 show IntKind.i64.wrap ((BitVec.ofInt 64 n &&& BitVec.ofInt 64 c).toNat:Nat)=_
 rw [key]
 have h1:(((n % ((2 ^ 64:Nat):Int)).toNat % 2 ^ j:Nat):Int)=n % ((2 ^ j:Nat):Int):=by
  rw [Int.natCast_emod,Int.toNat_of_nonneg (Int.emod_nonneg _ (by decide))]
  exact Int.emod_emod_of_dvd n (Int.natCast_dvd_natCast.2 hd)
 have h2:n % ((2 ^ j:Nat):Int) < ((2 ^ j:Nat):Int):=Int.emod_lt_of_pos _ (by omega)
 have h3:0≤n % ((2 ^ j:Nat):Int):=Int.emod_nonneg _ (by omega)
 have h4:2 ^ j≤4611686018427387904:=Nat.le_trans hp (by decide)
 rw [h1,IntKind.wrap_i64]
 generalize 2 ^ j=z at *
 omega
theorem and1 (n:Int):bits .and .i64 n 1=n % 2:=(zn6 n 1 (by decide) 1 (by decide)).resolve_right (by decide)
theorem and255 (n:Int):bits .and .i64 n 255=n % 256:=(zn6 n 8 (by decide) 255 (by decide)).resolve_right (by decide)
theorem Kx.Bxs.permR {w0 w:World} {l:List (Nat×List Value)} {r r':List Rw} {F:Fz} (h:Bxs w0 w l r F) (hp:r.Perm r'):Bxs w0 w l r' F :=
 ⟨h.below,h.nodup,h.each,fun z hz=>h.rows z (hp.mem_iff.2 hz),(hp.pairwise_iff (fun {x y} k g e q=>k g q e)).1 h.apart,fun q hq=>(h.stay q hq).to fun _ g1 g2 g3=>⟨rfl,g1,g2,fun z hz=>g3 z (hp.mem_iff.2 hz)⟩⟩
structure A1 where
 ga:Nat
 g:Nat
 a:Ac
 s:Jm.St
 KA:Option Addr
 KC:Nat
 RA:Option Addr
 RC:Nat
def A1.bx (t:A1):List (Nat×List Value):=[(t.g,jcs t.s t.KA t.KC t.RA t.RC),(t.ga,t.a.cells t.g)]
def A1.rw (t:A1):List Rw:=[jrow t.KA t.KC t.s.kept,jrow t.RA t.RC t.s.rest]
def A1.ptr (t:A1):Value:=.pointer (some ⟨t.ga,0,none⟩)
def abx (T:List A1):List (Nat×List Value):=T.flatMap A1.bx
def arw (T:List A1):List Rw:=T.flatMap A1.rw
theorem zg9 {α:Type}:∀ {l:List α} {i:Nat} {t:α},l[i]? = some t→(t::l.eraseIdx i).Perm l
 | [],i,t,h=>by simp at h
 |x::l,0,t,h=>by simp at h;subst h;exact List.Perm.refl _
 | x :: l, i + 1, t, h => by
   rw [List.getElem?_cons_succ] at h
   exact (List.Perm.swap x t _).trans (List.Perm.cons x (zg9 h))
theorem set_perm {α:Type}:∀ {l:List α} {i:Nat} {t u:α},l[i]? = some t→(u::l.eraseIdx i).Perm (l.set i u)
 | [],i,t,u,h=>by simp at h
 |x::l,0,t,u,h=>List.Perm.refl _
 | x :: l, i + 1, t, u, h => by
   rw [List.getElem?_cons_succ] at h
   exact (List.Perm.swap x u _).trans (List.Perm.cons x (set_perm h))
theorem zls {α β:Type} (f:α→List β) {l l':List α} (h:l.Perm l'):(l.flatMap f).Perm (l'.flatMap f):=by
 induction h with
 |nil=>exact List.Perm.refl _
 |cons x _ ih=>rw [List.flatMap_cons,List.flatMap_cons];exact List.Perm.append_left _ ih
 |swap x y l=>rw [List.flatMap_cons,List.flatMap_cons,List.flatMap_cons,List.flatMap_cons,←List.append_assoc,←List.append_assoc];exact List.Perm.append_right _ List.perm_append_comm
 |trans _ _ i1 i2=>exact i1.trans i2
theorem zkt {T T':List A1} (h:T.Perm T'):(abx T).Perm (abx T'):=zls _ h
theorem zkq {T T':List A1} (h:T.Perm T'):(arw T).Perm (arw T'):=zls _ h
theorem zku (t:A1) (T:List A1):abx (t::T)=t.bx++abx T:=List.flatMap_cons
theorem zkr (t:A1) (T:List A1):arw (t::T)=t.rw++arw T:=List.flatMap_cons
section
variable {w0 w:World} {T:List A1} {i:Nat} {t:A1} {l:List (Nat×List Value)} {r:List Rw} {F F':Fz}
theorem zoh (h : Bxs w0 w (l ++ abx T) (r ++ arw T) F) (ok : ∀ t ∈ T, Jm.Ok t.s) (hi : T[i]? = some t) :
  Jbx w0 w t.g t.s ((t.ga,t.a.cells t.g)::(l++abx (T.eraseIdx i))) (r++arw (T.eraseIdx i)) F:=by
 have hp:=zg9 hi
 have p1:(l++abx T).Perm ((t.g,jcs t.s t.KA t.KC t.RA t.RC)::(t.ga,t.a.cells t.g)::(l++abx (T.eraseIdx i))):=by
  refine (List.Perm.append_left l (zkt hp.symm)).trans ?_
  rw [zku]
  show (l++(t.bx++abx (T.eraseIdx i))).Perm (t.bx++(l++abx (T.eraseIdx i)))
  rw [←List.append_assoc,←List.append_assoc]
  exact List.Perm.append_right _ List.perm_append_comm
 have p2:(r++arw T).Perm (jrow t.KA t.KC t.s.kept::jrow t.RA t.RC t.s.rest::(r++arw (T.eraseIdx i))):=by
  refine (List.Perm.append_left r (zkq hp.symm)).trans ?_
  rw [zkr]
  show (r++(t.rw++arw (T.eraseIdx i))).Perm (t.rw++(r++arw (T.eraseIdx i)))
  rw [←List.append_assoc,←List.append_assoc]
  exact List.Perm.append_right _ List.perm_append_comm
 exact ⟨ok t (List.mem_of_getElem? hi),t.KA,t.KC,t.RA,t.RC,(h.perm p1).permR p2⟩
theorem ze6 {a' : Ac} {s' : Jm.St} (h : Jbx w0 w t.g s' ((t.ga, a'.cells t.g) :: (l ++ abx (T.eraseIdx i))) (r ++ arw (T.eraseIdx i)) F') (ok : ∀ t ∈ T, Jm.Ok t.s) (hi : T[i]? = some t) :
  ∃t':A1,t'.ga=t.ga∧t'.g=t.g∧t'.a=a'∧t'.s=s'∧(∀u∈T.set i t',Jm.Ok u.s)∧Bxs w0 w (l++abx (T.set i t')) (r++arw (T.set i t')) F':=by
 obtain ⟨ok',KA,KC,RA,RC,hB⟩:=h
 refine ⟨⟨t.ga,t.g,a',s',KA,KC,RA,RC⟩,rfl,rfl,rfl,rfl,fun u hu => ?_,?_⟩
 ·rcases List.mem_or_eq_of_mem_set hu with q|q
  ·exact ok u q
  ·rw [q];exact ok'
 have hp:=set_perm (u:=(⟨t.ga,t.g,a',s',KA,KC,RA,RC⟩ : A1)) hi
 obtain ⟨u,hu⟩ : ∃u,u=(⟨t.ga,t.g,a',s',KA,KC,RA,RC⟩ : A1):=⟨_,rfl⟩
 have hbx:u.bx=[(t.g,jcs s' KA KC RA RC),(t.ga,a'.cells t.g)]:=by rw [hu];rfl
 have hrw:u.rw=[jrow KA KC s'.kept,jrow RA RC s'.rest]:=by rw [hu];rfl
 rw [←hu] at hp ⊢
 refine (hB.perm ?_).permR ?_
 ·refine List.Perm.trans ?_ (List.Perm.append_left l (zkt hp))
  rw [zku,hbx]
  show ([(t.g,jcs s' KA KC RA RC),(t.ga,a'.cells t.g)]++(l++abx (T.eraseIdx i))).Perm _
  rw [←List.append_assoc,←List.append_assoc]
  exact List.Perm.append_right _ List.perm_append_comm
 ·refine List.Perm.trans ?_ (List.Perm.append_left r (zkq hp))
  rw [zkr,hrw]
  show ([jrow KA KC s'.kept,jrow RA RC s'.rest]++(r++arw (T.eraseIdx i))).Perm _
  rw [←List.append_assoc,←List.append_assoc]
  exact List.Perm.append_right _ List.perm_append_comm
theorem acs_more {ga g : Nat} {a : Ac} {s : Jm.St} (h : Jbx w0 w g s ((ga, a.cells g) :: (l ++ abx T)) (r ++ arw T) F) (ok : ∀ t ∈ T, Jm.Ok t.s) :
  ∃t':A1,t'.ga=ga∧t'.a=a∧t'.s=s∧(∀u∈T++[t'],Jm.Ok u.s)∧Bxs w0 w (l++abx (T++[t'])) (r++arw (T++[t'])) F:=by
 obtain ⟨ok',KA,KC,RA,RC,hB⟩:=h
 refine ⟨⟨ga,g,a,s,KA,KC,RA,RC⟩,rfl,rfl,rfl,fun u hu => ?_,?_⟩
 ·rcases List.mem_append.1 hu with q|q
  ·exact ok u q
  ·rw [List.mem_singleton.1 q];exact ok'
 have hp:((⟨ga,g,a,s,KA,KC,RA,RC⟩ : A1)::T).Perm (T++[⟨ga,g,a,s,KA,KC,RA,RC⟩]):=(List.perm_append_singleton _ _).symm
 obtain ⟨u,hu⟩ : ∃u,u=(⟨ga,g,a,s,KA,KC,RA,RC⟩ : A1):=⟨_,rfl⟩
 have hbx:u.bx=[(g,jcs s KA KC RA RC),(ga,a.cells g)]:=by rw [hu];rfl
 have hrw:u.rw=[jrow KA KC s.kept,jrow RA RC s.rest]:=by rw [hu];rfl
 rw [←hu] at hp ⊢
 refine (hB.perm ?_).permR ?_
 ·refine List.Perm.trans ?_ (List.Perm.append_left l (zkt hp))
  rw [zku,hbx]
  show ([(g,jcs s KA KC RA RC),(ga,a.cells g)]++(l++abx T)).Perm _
  rw [←List.append_assoc,←List.append_assoc]
  exact List.Perm.append_right _ List.perm_append_comm
 ·refine List.Perm.trans ?_ (List.Perm.append_left r (zkq hp))
  rw [zkr,hrw]
  show ([jrow KA KC s.kept,jrow RA RC s.rest]++(r++arw T)).Perm _
  rw [←List.append_assoc,←List.append_assoc]
  exact List.Perm.append_right _ List.perm_append_comm
end
def ptrs (T:List A1):List Value:=T.map A1.ptr
theorem zdx {T:List A1} {i:Nat} {t t':A1} (hi:T[i]? = some t) (h:t'.ga=t.ga):ptrs (T.set i t')=ptrs T:=by
 unfold ptrs
 rw [List.map_set]
 refine List.ext_getElem? fun j => ?_
 rw [List.getElem?_set]
 by_cases hj:i=j
 ·rw [if_pos hj,List.length_map]
  have h4:=(List.getElem?_eq_some_iff.1 hi).1
  rw [if_pos h4,←hj,List.getElem?_map,hi]
  show some (A1.ptr t')=some (A1.ptr t)
  unfold A1.ptr
  rw [h]
 ·rw [if_neg hj]
theorem PtOk.wide {F F':Fz} {p:Pt} (h:PtOk F p) (hF:∀q∈F,q∈F'):PtOk F' p:=⟨h.1,fun q hq=>(h.2.1 q hq).imp id (hF q),h.2.2⟩
theorem Inv.wide {F F':Fz} {node:Int} {a:Ac} (h:Inv F node a) (hF:∀q∈F,q∈F'):Inv F' node a:=⟨h.kn.wide hF,h.pl.imp id (·.wide hF),h.pr,h.ac,h.node,h.l,h.m⟩
structure Nb (xs:List Int) (N:Nat) (F:Fz) (i:Nat) (n:Nat) (rs:List Mm.Ms) (a:Ac) (s:Jm.St):Prop where
 inv:Inv F (i:Int) a
 ji:JI (zp N) s rs a
 sz:Jm.size s≤n
 cl:a.c.l=20
 cm:a.c.m=5
 tg:a.c.targets=(N:Int)
 cf:zfa a.c xs
 tl:xs.length=a.c.tn
 ta:(a.c.ta,i64s xs)∈F
section
variable {xs:List Int} {N:Nat} {F F':Fz} {i n n':Nat} {rs rs':List Mm.Ms} {a a':Ac} {s s':Jm.St} {m:Mm.Ms} {now:Int} {R:Res}
theorem Nb.wide (h:Nb xs N F i n rs a s) (hF:∀q∈F,q∈F') (hn:n≤n'):Nb xs N F' i n' rs a s:=⟨h.inv.wide hF,h.ji,Nat.le_trans h.sz hn,h.cl,h.cm,h.tg,h.cf,h.tl,hF _ h.ta⟩
theorem Nb.handle (h:Nb xs N F i n rs a s) (hb:Pm.I m.b) (k:Stp (zp N) F a s rs m now R rs'):Nb xs N F i (n+8200) rs' R.1 R.2.1:=by
 have e:=k.conf
 exact ⟨k.inv h.inv hb,k.ji,Nat.le_trans k.size (Nat.add_le_add_right h.sz _),by rw [e];exact h.cl,by rw [e];exact h.cm,by rw [e];exact h.tg,by rw [e];exact h.cf,by rw [e];exact h.tl,by rw [e];exact h.ta⟩
theorem Nb.crash (h:Nb xs N F i n rs a s) (k:Int) (hk:JDn (zp N) (Jm.crash s k) rs'):Nb xs N F i n rs' a (Jm.crash s k):=⟨h.inv,.inr hk,Nat.le_trans (Jm.zgr s k) h.sz,h.cl,h.cm,h.tg,h.cf,h.tl,h.ta⟩
theorem Nb.rst {er:Int} (h:Nb xs N F i n rs a s) (k:Rst (zp N) F F' (i:Int) s rs now er a a'):Nb xs N F' i n rs a' (Jm.opn s).1:=by
 have e:=k.c
 exact ⟨k.inv,k.ji,Nat.le_trans (Jm.znq s) h.sz,by rw [e];exact h.cl,by rw [e];exact h.cm,by rw [e];exact h.tg,by rw [e];exact h.cf,by rw [e];exact h.tl,by rw [e];exact k.more _ h.ta⟩
end
end Go.Proofs.YtponpgcpmlcdpaaGreatDoor
