import Derived.Test.YtponpgcpmlcdpaaGreatDoorAvm
import Derived.Test.YtponpgcpmlcdpaaGreatDoorOxx
namespace Go.Proofs.YtponpgcpmlcdpaaGreatDoor
open Go.RowKit Go.Shelf Km Kx Kc Kt
set_option linter.unusedVariables false
set_option linter.unusedSimpArgs false
structure Acp (va:Int→Option Pm.Pl) (C:Co) (vt:Int→Prop):Prop where
 e:(C.e=0∧C.pr=0∧C.ac=0∧∀b,¬ vt b)∨C.e=1
 ac:C.ac=0∨(vt C.ac∧1≤C.ac∧va C.ac=some C.pl)
 pr:0≤C.pr∧C.ac≤C.pr∧0≤C.ac
 le:∀b,vt b→1≤b∧b≤C.ac∧va b≠none
def vadd (vt:Int→Prop) (b:Int):Int→Prop:=fun x=>vt x∨x=b
section
variable {va va':Int→Option Pm.Pl} {C:Co} {vt:Int→Prop}
theorem Acp.ini (z:Pm.Pl):Acp va (Co.ini z) (fun _=>False):=⟨.inl ⟨rfl,rfl,rfl,fun _ h=>h⟩,.inl rfl,⟨Int.le_refl _,Int.le_refl _,Int.le_refl _⟩,fun _ h=>h.elim⟩
theorem Acp.val (h:Acp va C vt) (hv:∀b x,va b=some x→va' b=some x):Acp va' C vt :=
 ⟨h.e,h.ac.imp id (fun q=>⟨q.1,q.2.1,hv _ _ q.2.2⟩),h.pr,fun b hb=>by
  obtain ⟨h1,h2,h3⟩:=h.le b hb
  refine ⟨h1,h2,fun q => ?_⟩
  cases e:va b with
  |none=>exact h3 e
  |some x=>rw [hv b x e] at q;cases q⟩
theorem Acp.pro (h:Acp va C vt) {x:Mm.Ms} (hk:x.k=5) (he:x.e=1) (hb:1≤x.b) (hn:C.e < 1∨C.pr < x.b):Acp va (C.rp x) vt∧(C.rp x).e=1∧(C.rp x).pr=x.b∧(C.rp x).ac=C.ac∧(C.ac≠0→(C.rp x).pl=C.pl)∧C.pr < x.b:=by
 rw [rp_5 hk]
 rcases h.e with ⟨e0,e1,e2,e3⟩|e1
 ·rw [if_neg (by omega)]
  have h2:=zri C x.e
  refine ⟨⟨.inr ?_,.inl h2.2.1,⟨by show 0≤x.b;omega,by show (C.enter x.e).ac≤x.b;rw [h2.2.1];omega,by show 0≤(C.enter x.e).ac;rw [h2.2.1];exact Int.le_refl _⟩,fun b hv=>absurd hv (e3 b)⟩,?_,rfl,?_,fun q=>absurd e2 q,by omega⟩
  ·show (C.enter x.e).e=1;rw [h2.1,he]
  ·show (C.enter x.e).e=1;rw [h2.1,he]
  ·show (C.enter x.e).ac=C.ac;rw [h2.2.1,e2]
 ·rw [if_pos (by omega)]
  have hp:=h.pr
  have hn2:C.pr < x.b:=by omega
  exact ⟨⟨.inr e1,h.ac,⟨by show 0≤x.b;omega,by show C.ac≤x.b;omega,hp.2.2⟩,h.le⟩,e1,rfl,rfl,fun _=>rfl,hn2⟩
theorem Acp.vote (h:Acp va C vt) {x:Mm.Ms} (hk:x.k=8) (he:C.e=1) (hb:x.b=C.pr) (h1:1≤x.b) (hv:va x.b=some x.plan):Acp va (C.rp x) (vadd vt x.b)∧(C.rp x).pr=x.b∧(C.rp x).e=1:=by
 rw [rp_8 hk]
 have hp:=h.pr
 refine ⟨⟨.inr he,.inr ⟨.inr rfl,h1,hv⟩,⟨by show 0≤x.b;omega,by show x.b≤x.b;exact Int.le_refl _,by show 0≤x.b;omega⟩,fun b hb2 => ?_⟩,rfl,he⟩
 rcases hb2 with hb2|rfl
 ·obtain ⟨k1,k2,k3⟩:=h.le b hb2
  exact ⟨k1,by show b≤x.b;omega,k3⟩
 ·exact ⟨h1,Int.le_refl _,by rw [hv];exact fun q=>by cases q⟩
theorem Acp.wide (h:Acp va C vt) {x:Mm.Ms} (hk:x.k=11):Acp va (C.rp x) vt∧(C.rp x).pr=C.pr:=by
 by_cases h1:x.co=1
 ·rw [rp_w hk h1]
  have h2:=zpr C x.e
  exact ⟨⟨by rw [h2.1,h2.2.2.1,h2.2.1];exact h.e,by rw [h2.2.1,h2.2.2.2.1];exact h.ac,by rw [h2.2.1,h2.2.2.1];exact h.pr,by rw [h2.2.1];exact h.le⟩,h2.2.2.1⟩
 ·by_cases h2:x.co=2
  ·rw [rp_l hk h2]
   exact ⟨⟨h.e,h.ac,h.pr,h.le⟩,rfl⟩
  ·have:C.rp x=C:=by unfold Co.rp;rw [if_neg (by rw [hk];decide),if_neg (by rw [hk];decide),if_neg (fun q=>h1 q.2),if_neg (fun q=>h2 q.2)]
   rw [this]
   exact ⟨h,rfl⟩
end
theorem meet {f A B:Nat} (ha:Om.most f A=true) (hb:Om.most f B=true):∃i,i < 2 * f+1∧A.testBit i=true∧B.testBit i=true:=by
 obtain ⟨i,h1,h2⟩:=Om.most_two ha hb
 rw [Nat.testBit_and,Bool.and_eq_true] at h2
 exact ⟨i,h1,h2.1,h2.2⟩
abbrev Pr:=Nat→Int
abbrev Vt:=Nat→Int→Prop
def Safe (f:Nat) (va:Int→Option Pm.Pl) (pr:Pr) (vt:Vt):Prop:=∀b v,va b=some v→∀c,1≤c→c < b→∃Q:Nat,Om.most f Q=true∧∀i,i < 2 * f+1→Q.testBit i=true→(vt i c∧va c=some v)∨(c < pr i∧¬ vt i c)
def zhg (f:Nat) (vt:Vt) (b:Int):Prop:=∃Q:Nat,Om.most f Q=true∧∀i,i < 2 * f+1→Q.testBit i=true→vt i b
theorem zju {f:Nat} {va:Int→Option Pm.Pl} {pr:Pr} {vt:Vt} (hs:Safe f va pr vt) {b c:Int} {v u:Pm.Pl} (hb:va b=some v) (hc:va c=some u) (h1:1≤c) (hcb:c < b) (hch:zhg f vt c):v=u:=by
 obtain ⟨Q,q1,q2⟩:=hs b v hb c h1 hcb
 obtain ⟨R,r1,r2⟩:=hch
 obtain ⟨i,h2,h3,h4⟩:=meet q1 r1
 rcases q2 i h2 h3 with ⟨-,k⟩|⟨-,k⟩
 ·rw [hc] at k;cases k;rfl
 ·exact absurd (r2 i h2 h4) k
theorem zpe {f:Nat} {va:Int→Option Pm.Pl} {pr:Pr} {vt:Vt} (hs:Safe f va pr vt) {b c:Int} {v u:Pm.Pl} (hb:va b=some v) (hc:va c=some u) (h1:1≤c) (h2:1≤b) (hch:zhg f vt c) (hbh:zhg f vt b):v=u:=by
 rcases Int.lt_trichotomy b c with h|h|h
 ·exact (zju hs hc hb h2 h hbh).symm
 ·subst h;rw [hb] at hc;cases hc;rfl
 ·exact zju hs hb hc h1 h hch
section
variable {f:Nat} {va:Int→Option Pm.Pl} {pr pr':Pr} {vt vt':Vt}
theorem Safe.more (h:Safe f va pr vt) (hp:∀i,pr i≤pr' i) (hv:∀i c,vt i c→vt' i c) (hn:∀i c,vt' i c→vt i c∨pr i≤c):Safe f va pr' vt':=fun b v hb c h1 hc=>by
 obtain ⟨Q,q1,q2⟩:=h b v hb c h1 hc
 refine ⟨Q,q1,fun i hi hq => ?_⟩
 rcases q2 i hi hq with ⟨k1,k2⟩|⟨k1,k2⟩
 ·exact .inl ⟨hv i c k1,k2⟩
 ·refine .inr ⟨Int.lt_of_lt_of_le k1 (hp i),fun q => ?_⟩
  rcases hn i c q with z|z
  ·exact k2 z
  ·omega
theorem zhg.more {b:Int} (h:zhg f vt b) (hv:∀i c,vt i c→vt' i c):zhg f vt' b:=by
 obtain ⟨Q,q1,q2⟩:=h
 exact ⟨Q,q1,fun i hi hq=>hv i b (q2 i hi hq)⟩
def vput (va:Int→Option Pm.Pl) (b:Int) (v:Pm.Pl):Int→Option Pm.Pl:=fun x=>if x=b then some v else va x
theorem zhl {b:Int} {v:Pm.Pl} (hn:va b=none) (c:Int) (x:Pm.Pl) (h:va c=some x):vput va b v c=some x:=by
 unfold vput
 rw [if_neg (fun q=>by rw [q,hn] at h;cases h)]
 exact h
theorem Safe.put (h : Safe f va pr vt) {b best : Int} {v : Pm.Pl} (hn : va b = none) {Q : Nat} (hq : Om.most f Q = true) (hp : ∀ i, i < 2 * f + 1 → Q.testBit i = true → b ≤ pr i ∧ ∀ c, c < b → vt i c → c ≤ best)
  (hb:best=0∨(1≤best∧best < b∧va best=some v)) (hvv:∀i:Nat,∀c:Int,vt i c→True):Safe f (vput va b v) pr vt:=fun b' v' hb' c h1 hc=>by
 by_cases e:b'=b
 ·rw [e] at hb' hc
  have hv:v'=v:=by unfold vput at hb';rw [if_pos rfl] at hb';cases hb';rfl
  subst hv
  by_cases hcb:best < c
  ·refine ⟨Q,hq,fun i hi hbi => .inr ⟨Int.lt_of_lt_of_le hc (hp i hi hbi).1,fun q => ?_⟩⟩
   have:=(hp i hi hbi).2 c hc q
   omega
  ·rcases hb with hb|⟨k1,k2,k3⟩
   ·omega
   by_cases hcb2:c=best
   ·refine ⟨Q,hq,fun i hi hbi => ?_⟩
    by_cases hv:vt i c
    ·exact .inl ⟨hv,by rw [hcb2];exact zhl hn _ _ k3⟩
    ·exact .inr ⟨Int.lt_of_lt_of_le hc (hp i hi hbi).1,hv⟩
   ·obtain ⟨R,r1,r2⟩:=h best v' k3 c h1 (by omega)
    refine ⟨R,r1,fun i hi hbi => ?_⟩
    rcases r2 i hi hbi with ⟨q1,q2⟩|q
    ·exact .inl ⟨q1,zhl hn _ _ q2⟩
    ·exact .inr q
 ·have hb2:va b'=some v':=by unfold vput at hb';rwa [if_neg e] at hb'
  obtain ⟨R,r1,r2⟩:=h b' v' hb2 c h1 hc
  refine ⟨R,r1,fun i hi hbi => ?_⟩
  rcases r2 i hi hbi with ⟨q1,q2⟩|q
  ·exact .inl ⟨q1,zhl hn _ _ q2⟩
  ·exact .inr q
end
end Go.Proofs.YtponpgcpmlcdpaaGreatDoor

namespace Go.Proofs.YtponpgcpmlcdpaaGreatDoor
open Go.RowKit Go.Shelf Km Kx Kc Kt
set_option linter.unusedVariables false
set_option linter.unusedSimpArgs false
structure Ax (F:Fz) (i n:Nat) (va:Int→Option Pm.Pl) (vt:Int→Prop) (pr:Int) (rs:List Mm.Ms) (a:Ac) (s:Jm.St):Prop where
 nb:Nb [1,0] 2 F i n rs a s
 lv:Live s n
 up:JUp (zp 2) s rs a
 acp:Acp va (KK (zp 2) rs) vt
 pr:(KK (zp 2) rs).pr=pr
def zpm (va:Int→Option Pm.Pl) (vt':Int→Prop) (pr':Int) (m y:Mm.Ms):Prop :=
 (y.k≠5∧y.k≠8) ∨
 (y.k=5∧y.e=1∧y.b=m.b∧m.b≤pr'∧((y.has=false∧∀c,¬ vt' c)∨(y.has=true∧1≤y.a∧y.a < m.b∧va y.a=some y.plan∧∀c,vt' c→c≤y.a))) ∨
 (y.k=8∧y.e=1∧y.b=m.b∧vt' m.b)
section
variable {F F':Fz} {i n n':Nat} {va va':Int→Option Pm.Pl} {vt:Int→Prop} {pr now:Int} {rs:List Mm.Ms} {a a':Ac} {s:Jm.St} {m:Mm.Ms} {lo:Lo}
theorem Ax.wide (h:Ax F i n va vt pr rs a s) (hF:∀q∈F,q∈F') (hn:n≤n') (hv:∀b x,va b=some x→va' b=some x):Ax F' i n' va' vt pr rs a s:=⟨h.nb.wide hF hn,h.lv.more hn,h.up,h.acp.val hv,h.pr⟩
theorem Ax.step (h : Ax F i n va vt pr rs a s) (hi : i ≤ 255) (hm : MsOk m lo) (hz : Within (mfz m lo) F) (he : m.e = 1) (hk : m.k = 4 ∨ (m.k = 7 ∧ va m.b = some m.plan)) :
  ∃(rs':List Mm.Ms) (vt':Int→Prop) (pr':Int),Ax F i (n+8200) va vt' pr' rs' (handle a s m lo now).1 (handle a s m lo now).2.1∧pr≤pr'∧(∀c,vt c→vt' c)∧(∀c,vt' c→vt c∨pr≤c) ∧
   ∀y lo',(handle a s m lo now).2.2=some (y,lo')→zhj F (i:Int) m y lo'∧zpm va vt' pr' m y:=by
 have hok:=zq7 (now:=now) h.nb.inv h.lv hm hz ⟨Int.natCast_nonneg _,by omega⟩
 obtain ⟨rs',hst⟩:=zq6 (now:=now) h.nb.inv h.nb.ji hm hz
 have hnb:=h.nb.handle hm.ok.b hst
 have hji:=hst.ji
 obtain ⟨R,hR⟩ : ∃R,handle a s m lo now=R:=⟨_,rfl⟩
 rw [hR] at hok hst hnb hji ⊢
 have hup:JUp (zp 2) R.2.1 rs' R.1:=hji.resolve_right (fun q=>by have:=q.off;rw [hok.2.1.off] at this;cases this)
 have hA:=fun y lo' (q:R.2.2=some (y,lo'))=>hok.2.2 (y,lo') q
 have hpr:=h.pr
 have hC:a.co=KK (zp 2) rs:=h.up.co
 have same : rs' = rs → (∀ y lo', R.2.2 = some (y, lo') → y.k ≠ 5 ∧ y.k ≠ 8) → ∃ (rs' : List Mm.Ms) (vt' : Int → Prop) (pr' : Int), Ax F i (n + 8200) va vt' pr' rs' R.1 R.2.1 ∧ pr ≤ pr' ∧ (∀ c, vt c → vt' c) ∧ (∀ c, vt' c → vt c ∨ pr ≤ c) ∧
   ∀y lo',R.2.2=some (y,lo')→zhj F (i:Int) m y lo'∧zpm va vt' pr' m y:=fun e hn=>by
  subst e
  exact ⟨rs',vt,pr,⟨hnb,hok.2.1,hup,h.acp,hpr⟩,Int.le_refl _,fun _ q=>q,fun _ q => .inl q,fun y lo' q=>⟨hA y lo' q,.inl (hn y lo' q)⟩⟩
 have more : ∀ x, rs' = rs ++ [x] → x.k = 11 → (∀ y lo', R.2.2 = some (y, lo') → y.k ≠ 5 ∧ y.k ≠ 8) → ∃ (rs' : List Mm.Ms) (vt' : Int → Prop) (pr' : Int), Ax F i (n + 8200) va vt' pr' rs' R.1 R.2.1 ∧ pr ≤ pr' ∧ (∀ c, vt c → vt' c) ∧ (∀ c, vt' c → vt c ∨ pr ≤ c) ∧
   ∀y lo',R.2.2=some (y,lo')→zhj F (i:Int) m y lo'∧zpm va vt' pr' m y:=fun x e hx hn=>by
  have hw:=h.acp.wide hx
  rw [←zkw,←e] at hw
  exact ⟨rs',vt,pr,⟨hnb,hok.2.1,hup,hw.1,hw.2.trans hpr⟩,Int.le_refl _,fun _ q=>q,fun _ q => .inl q,fun y lo' q=>⟨hA y lo' q,.inl (hn y lo' q)⟩⟩
 cases hst with
 |quiet i t j=>exact same rfl (fun y lo' q=>by cases q)
 |told y lo' hk9 j=>exact same rfl (fun y' lo'' q=>by cases q;exact ⟨by rcases hk9 with q|q<;>rw [q]<;>decide,by rcases hk9 with q|q<;>rw [q]<;>decide⟩)
 |wr hf hm' hg j=>exact same rfl (fun y' lo'' q=>by cases q;exact ⟨(by show (11:Int)≠5;decide),(by show (11:Int)≠8;decide)⟩)
 |ld hf hl j=>exact same rfl (fun y' lo'' q=>by cases q;exact ⟨(by show (11:Int)≠5;decide),(by show (11:Int)≠8;decide)⟩)
 |lost s' j hz'=>have:=j.off;rw [hok.2.1.off] at this;cases this
 |lw s' hf hm' j0 nx j hz'=>exact more (rlw m) rfl rfl (fun y' lo'' q=>by cases q;exact ⟨(by show (11:Int)≠5;decide),(by show (11:Int)≠8;decide)⟩)
 |ll s' hf hn j0 nx j hz'=>exact more (rll m) rfl rfl (fun y' lo'' q=>by cases q;exact ⟨(by show (11:Int)≠5;decide),(by show (11:Int)≠8;decide)⟩)
 | acc p s' hf hp hn j0 nx j hz' =>
   have hy:=hA _ _ rfl
   have h7:m.k=7∧va m.b=some m.plan:=by
    rcases hk with q|q
    ·rcases hy.k with ⟨-,z⟩|⟨z,-⟩|⟨z,-⟩
     ·exact absurd z (by show ¬ ((8:Int)=9∨(8:Int)=5∨(8:Int)=6);decide)
     ·omega
     ·omega
    ·exact q
   have hCe:(KK (zp 2) rs).e=1:=by rw [←hC];show a.e=1;rw [←hn.1,he]
   have hCp:m.b=(KK (zp 2) rs).pr:=by rw [←hC];exact hn.2.1
   have h1:1≤m.b:=by
    rcases nx with ⟨q,-⟩|⟨-,-,-,q,-⟩|⟨q,-⟩|⟨q,-⟩
    ·exact absurd q (by show ¬ (8:Int)=5;decide)
    ·exact q
    ·exact absurd q (by show ¬ (8:Int)=11;decide)
    ·exact absurd q (by show ¬ (8:Int)=11;decide)
   have hv:=h.acp.vote (x:=racc m) rfl hCe hCp h1 h7.2
   rw [←zkw] at hv
   refine ⟨_,vadd vt m.b,m.b,⟨hnb,hok.2.1,hup,hv.1,hv.2.1⟩,by rw [←hpr,←hCp];exact Int.le_refl _,fun _ q => .inl q,fun c q=>q.imp id (fun e=>by rw [e,hCp,hpr];exact Int.le_refl _),fun y' lo'' q => ?_⟩
   cases q
   exact ⟨hy,.inr (.inr ⟨rfl,he,rfl,.inr rfl⟩)⟩
 | pro p s' lo' hf hp hb hn j0 nx j hz' =>
   have hy:=hA _ _ rfl
   have hn2:(KK (zp 2) rs).e < 1∨(KK (zp 2) rs).pr < m.b:=by
    rw [←hC]
    rcases hn with q|q
    ·exact .inl (by show a.e < 1;have:=q.1;omega)
    ·exact .inr q.2
   have hv:=h.acp.pro (x:=rpro m p) rfl he hb.1 hn2
   rw [←zkw] at hv
   obtain ⟨v1,v2,v3,v4,v5,v6⟩:=hv
   have hC':(a.replay (rpro m p) p).co=KK (zp 2) (rs++[rpro m p]):=j.co
   have c1:(a.replay (rpro m p) p).pr=m.b:=by have:=congrArg Co.pr hC';exact this.trans v3
   have c2:(a.replay (rpro m p) p).ac=(KK (zp 2) rs).ac:=by have:=congrArg Co.ac hC';exact this.trans v4
   have c3:(a.replay (rpro m p) p).pl.x=(KK (zp 2) (rs++[rpro m p])).pl:=by have:=congrArg Co.pl hC';exact this
   refine ⟨_,vt,m.b,⟨hnb,hok.2.1,hup,v1,v3⟩,by rw [←hpr];exact Int.le_of_lt v6,fun _ q=>q,fun _ q => .inl q,fun y' lo'' q => ?_⟩
   cases q
   refine ⟨hy,.inr (.inl ⟨rfl,he,c1,Int.le_refl _,?_⟩)⟩
   show (((a.replay (rpro m p) p).ac != 0)=false∧_)∨(((a.replay (rpro m p) p).ac != 0)=true∧1≤(a.replay (rpro m p) p).ac∧(a.replay (rpro m p) p).ac < m.b∧va (a.replay (rpro m p) p).ac=some (a.replay (rpro m p) p).spl.x∧∀c,vt c→c≤(a.replay (rpro m p) p).ac)
   by_cases h0:(KK (zp 2) rs).ac=0
   ·refine .inl ⟨by rw [c2,h0];rfl,fun c q => ?_⟩
    have:=(h.acp.le c q)
    omega
   ·refine .inr ⟨by rw [c2];exact bne_iff_ne.2 h0,?_⟩
    rcases h.acp.ac with q|⟨q1,q2,q3⟩
    ·exact absurd q h0
    have hp3:=h.acp.pr
    have v7:(KK (zp 2) rs).pr < m.b:=v6
    refine ⟨by rw [c2];exact q2,by rw [c2];omega,?_,fun c q=>by rw [c2];exact (h.acp.le c q).2.1⟩
    have hs:(a.replay (rpro m p) p).spl=(a.replay (rpro m p) p).pl:=if_neg (by rw [c2];exact h0)
    rw [hs,c3,c2,v5 h0]
    exact q3
theorem up_again (h:Ax F i n va vt pr rs a s):(Jm.opn (Jm.crash s 0)).1.off=false∧Live (Jm.opn (Jm.crash s 0)).1 n:=by
 have hk:(Jm.crash s 0).kept=s.kept:=by
  show s.kept++s.rest.take _=_
  rw [h.up.rest,List.take_nil,List.append_nil]
 have hw:¬ Jm.whole (Jm.crash s 0) < (Jm.crash s 0).kept.length:=by
  unfold Jm.whole
  rw [hk,h.up.kept]
  have:=zq0 h.up.rc zgk
  rw [List.append_nil] at this
  rw [this]
  exact Nat.lt_irrefl _
 rw [Jm.zmt hw]
 refine ⟨rfl,rfl,rfl,?_⟩
 have h1:=h.lv.len
 show ((Jm.crash s 0).kept).length+([]:List Int).length≤n
 rw [hk]
 unfold Jm.size at h1
 simp only [List.length_nil]
 omega
theorem Ax.again (h:Ax F i n va vt pr rs a s) {er:Int} (k:Rst (zp 2) F F' (i:Int) (Jm.crash s 0) rs now er a a'):Ax F' i n va vt pr rs a' (Jm.opn (Jm.crash s 0)).1:=by
 have hd:JDn (zp 2) (Jm.crash s 0) rs:=⟨h.up.rc,rfl,[],by show s.kept++s.rest.take _=_;rw [h.up.rest,h.up.kept,List.take_nil],zgk,.inl rfl⟩
 obtain ⟨u1,u2⟩:=up_again h
 have hnb:=(h.nb.crash 0 hd).rst k
 refine ⟨hnb,u2,?_,h.acp,h.pr⟩
 rcases hnb.ji with q|q
 ·exact q
 ·have:=q.off;rw [u1] at this;cases this
theorem Ax.dn (h:Ax F i n va vt pr rs a s):Nb [1,0] 2 F i n rs a (Jm.crash s 0) :=
 h.nb.crash 0 ⟨h.up.rc,rfl,[],by show s.kept++s.rest.take _=_;rw [h.up.rest,h.up.kept,List.take_nil],zgk,.inl rfl⟩
end
def Ks.Sl.of (A:Option Addr) (n k:Nat) (xs:List Int):Ks.Sl:=⟨A,n,k,xs⟩
def toMx (y:Mm.Ms) (l:Lo):Mg:=⟨y.k,y.f,y.t,y.e,y.b,y.a,y.n,y.ti,y.up,y.co,y.has,⟨y.plan.e,y.plan.t,y.plan.p,y.plan.s,y.plan.c,y.plan.st,y.plan.si,y.plan.ra,y.plan.up,y.plan.su,⟨l.A1,l.n1,l.c1,y.plan.pen⟩,⟨l.A2,l.n2,l.c2,y.plan.ch⟩⟩,⟨l.A3,l.n3,l.c3,[]⟩,⟨l.A4,l.n4,l.c4,[]⟩,⟨l.A5,l.n5,l.c5,[]⟩⟩
def Pq.pt (q:Pq):Pt:=⟨q.pl,q.pen.A,q.pen.n,q.pen.k,q.ch.A,q.ch.n,q.ch.k⟩
structure PqOk (F:Fz) (q:Pq):Prop where
 fine:q.pt.Fine
 fz:Within q.pt.fz F
 few:q.pen.n≤9000000∧q.ch.n≤9000000
theorem PqOk.wide {F F':Fz} {q:Pq} (h:PqOk F q) (hF:∀x∈F,x∈F'):PqOk F' q:=⟨h.fine,fun x hx=>(h.fz x hx).imp id (hF x),h.few⟩
theorem toMx_pl {F:Fz} {y:Mm.Ms} {lo:Lo} (h:MsOk y lo) (hz:Within (mfz y lo) F) (hr:y.right=true) (hh:y.has=true):PqOk F (toMx y lo).pl∧(toMx y lo).pl.pl=y.plan:=by
 have h8:=(Mm.zbr.1 hr).2.2.2.2.2.2.2.1
 have h9:y.plan.right=true:=by have h7:=h8;unfold Mm.Ms.zec at h7;rwa [if_pos hh] at h7
 replace h9:=Pm.zeo h9
 refine ⟨⟨h.pt,fun x hx => ?_,by show lo.n1≤_;rw [←h.l1];exact Nat.le_trans h9.1 (by decide),by show lo.n2≤_;rw [←h.l2];exact Nat.le_trans h9.2.1 (by decide)⟩,rfl⟩
 rcases List.mem_cons.1 hx with rfl|hx
 ·exact hz _ (List.mem_cons_self ..)
 ·rcases List.mem_cons.1 hx with rfl|hx
  ·exact hz _ (List.mem_cons_of_mem _ (List.mem_cons_self ..))
  ·cases hx
structure PI (f:Nat) (F:Fz) (va:Int→Option Pm.Pl) (pr:Pr) (vt:Vt) (bal:Int) (p:Pp):Prop where
 bits:∃G A:Nat,p.pr=(G:Int)∧G < 18446744073709551616∧p.ac=(A:Int)∧A < 18446744073709551616 ∧
  ((p.ph=0∧p.b=0) ∨
   (p.ph=1∧va p.b=none∧A=0∧1≤p.b∧(∀i,i < 2 * f+1→G.testBit i=true→p.b≤pr i∧∀c,c < p.b→vt i c→c≤p.best)∧(p.best=0∨(1≤p.best∧p.best < p.b∧va p.best=some p.val.pl))) ∨
   ((p.ph=2∨p.ph=3)∧1≤p.b∧va p.b=some p.val.pl∧(∀i,i < 2 * f+1→A.testBit i=true→vt i p.b)∧(p.ph=3→zhg f vt p.b)))
 b:0≤p.b∧p.b≤bal
 e:p.ph=0∨p.e=1
 own:PqOk F p.own
 val:PqOk F p.val
section
variable {f:Nat} {F F':Fz} {va va':Int→Option Pm.Pl} {pr pr':Pr} {vt vt':Vt} {bal bal':Int} {p:Pp}
theorem PI.more (h:PI f F va pr vt bal p) (hF:∀q∈F,q∈F') (hp:∀i,pr i≤pr' i) (hv:∀i c,vt i c→vt' i c) (hn:∀i c,vt' i c→vt i c∨pr i≤c) (hb:bal≤bal') (hva:∀b x,va b=some x→va' b=some x) (hno:va p.b=none→va' p.b=none):PI f F' va' pr' vt' bal' p:=by
 obtain ⟨G,A,g1,g2,a1,a2,h3⟩:=h.bits
 refine ⟨⟨G,A,g1,g2,a1,a2,?_⟩,⟨h.b.1,Int.le_trans h.b.2 hb⟩,h.e,h.own.wide hF,h.val.wide hF⟩
 rcases h3 with q|⟨q1,q2,q3,q4,q5,q6⟩|⟨q1,q2,q3,q4,q5⟩
 ·exact .inl q
 ·refine .inr (.inl ⟨q1,hno q2,q3,q4,fun i hi hb => ?_,q6.imp id (fun z=>⟨z.1,z.2.1,hva _ _ z.2.2⟩)⟩)
  obtain ⟨z1,z2⟩:=q5 i hi hb
  refine ⟨Int.le_trans z1 (hp i),fun c hc hvt => ?_⟩
  rcases hn i c hvt with z|z
  ·exact z2 c hc z
  ·omega
 ·exact .inr (.inr ⟨q1,q2,hva _ _ q3,fun i hi hb=>hv i _ (q4 i hi hb),fun z=>(q5 z).more hv⟩)
end
end Go.Proofs.YtponpgcpmlcdpaaGreatDoor

namespace Go.Proofs.YtponpgcpmlcdpaaGreatDoor
open Go.RowKit Go.Shelf Km Kx Kc Kt
set_option linter.unusedVariables false
set_option linter.unusedSimpArgs false
structure GJ (f:Nat) (F:Fz) (n:Nat) (bal:Int) (T:List A1) (p q:Pp) (D:List Pm.Pl) (va:Int→Option Pm.Pl) (pr:Pr) (vt:Vt):Prop where
 ax:∀i t,T[i]? = some t→∃rs,Ax F i n va (vt i) (pr i) rs t.a t.s
 safe:Safe f va pr vt
 vb:∀b,va b≠none→1≤b∧b≤bal
 pp:PI f F va pr vt bal p
 qq:PI f F va pr vt bal q
 ne:p.b=q.b→p.b=0
 dec:∀x∈D,∃b,1≤b∧va b=some x∧zhg f vt b
def GI (f:Nat) (F:Fz) (n:Nat) (bal:Int) (T:List A1) (p q:Pp) (D:List Pm.Pl):Prop:=∃va pr vt,GJ f F n bal T p q D va pr vt
section
variable {f:Nat} {F F':Fz} {n n':Nat} {bal:Int} {T:List A1} {p q:Pp} {D:List Pm.Pl} {va:Int→Option Pm.Pl} {pr:Pr} {vt:Vt}
theorem GI.swap (h:GI f F n bal T p q D):GI f F n bal T q p D:=by
 obtain ⟨va,pr,vt,h⟩:=h
 exact ⟨va,pr,vt,h.ax,h.safe,h.vb,h.qq,h.pp,fun e=>by have:=h.ne e.symm;rw [e];exact this,h.dec⟩
theorem GI.one (h:GI f F n bal T p q D) {x y:Pm.Pl} (hx:x∈D) (hy:y∈D):x=y:=by
 obtain ⟨va,pr,vt,h⟩:=h
 obtain ⟨b,b1,b2,b3⟩:=h.dec x hx
 obtain ⟨c,c1,c2,c3⟩:=h.dec y hy
 exact zpe h.safe b2 c2 c1 b1 c3 b3
theorem GI.decide (h:GI f F n bal T p q D) (h3:p.ph=3):GI f F n bal T p q (D++[p.val.pl]):=by
 obtain ⟨va,pr,vt,h⟩:=h
 refine ⟨va,pr,vt,h.ax,h.safe,h.vb,h.pp,h.qq,h.ne,fun x hx => ?_⟩
 rcases List.mem_append.1 hx with hx|hx
 ·exact h.dec x hx
 ·rw [List.mem_singleton.1 hx]
  obtain ⟨G,A,-,-,-,-,h4⟩:=h.pp.bits
  rcases h4 with k|k|⟨-,k2,k3,-,k5⟩
  ·omega
  ·have:=k.1;omega
  ·exact ⟨p.b,k2,k3,k5 h3⟩
theorem zl9 (F:Fz):PqOk F Pq.zero:=by
 refine ⟨zfi,fun x hx => .inl ?_,by decide,by decide⟩
 rcases List.mem_cons.1 hx with rfl|hx
 ·rfl
 ·rcases List.mem_cons.1 hx with rfl|hx
  ·rfl
  ·cases hx
theorem GI.begin {own:Pq} (h:GI f F n bal T p q D) (ho:PqOk F' { own with e:=1 }) (hF:∀x∈F,x∈F') (hb0:0≤bal):GI f F' n (bal+1) T (start 1 (bal+1) own) q D:=by
 obtain ⟨va,pr,vt,h⟩:=h
 have hno:va (bal+1)=none:=by
  cases e:va (bal+1) with
  |none=>rfl
  |some x=>have:=(h.vb (bal+1) (by rw [e];exact fun z=>by cases z)).2;omega
 refine ⟨va,pr,vt,fun i t hi => ?_,h.safe,fun b hb=>⟨(h.vb b hb).1,by have:=(h.vb b hb).2;omega⟩,?_,h.qq.more hF (fun _=>Int.le_refl _) (fun _ _ z=>z) (fun _ _ z => .inl z) (by omega) (fun _ _ z=>z) id,fun e => ?_,h.dec⟩
 ·obtain ⟨rs,k⟩:=h.ax i t hi
  exact ⟨rs,k.wide hF (Nat.le_refl _) (fun _ _ z=>z)⟩
 ·exact ⟨⟨0,0,rfl,by decide,rfl,by decide,.inr (.inl ⟨rfl,hno,rfl,by show 1≤bal+1;omega,fun i _ hb=>(by rw [Nat.zero_testBit] at hb;cases hb),.inl rfl⟩)⟩,⟨by show 0≤bal+1;omega,Int.le_refl _⟩,.inr rfl,ho,zl9 F'⟩
 ·have e2:bal+1=q.b:=e
  have:=h.qq.b.2
  omega
theorem GJ.hand (h : GJ f F n bal T p q D va pr vt) {i : Nat} {t t' : A1} (hi : T[i]? = some t) (hi2 : i ≤ 255) {m : Mm.Ms} {lo : Lo} {now : Int} (hm : MsOk m lo) (hz : Within (mfz m lo) F) (he : m.e = 1) (hk : m.k = 4 ∨ (m.k = 7 ∧ va m.b = some m.plan))
  (ha:t'.a=(handle t.a t.s m lo now).1) (hs:t'.s=(handle t.a t.s m lo now).2.1) :
  ∃(pr':Pr) (vt':Vt),GJ f F (n+8200) bal (T.set i t') p q D va pr' vt'∧(∀y lo',(handle t.a t.s m lo now).2.2=some (y,lo')→zhj F (i:Int) m y lo'∧zpm va (vt' i) (pr' i) m y):=by
 obtain ⟨rs,hx⟩:=h.ax i t hi
 obtain ⟨rs',v',r',k1,k2,k3,k4,k5⟩:=hx.step (now:=now) hi2 hm hz he hk
 have q1:∀j,pr j≤(fun j=>if j=i then r' else pr j) j:=fun j=>by dsimp only;split;(· rename_i e;rw [e];exact k2);(· exact Int.le_refl _)
 have q2:∀j c,vt j c→(fun j=>if j=i then v' else vt j) j c:=fun j c hv=>by dsimp only;split;(· rename_i e;rw [e] at hv;exact k3 c hv);(· exact hv)
 have q3:∀j c,(fun j=>if j=i then v' else vt j) j c→vt j c∨pr j≤c:=fun j c hv=>by
  dsimp only at hv;split at hv
  ·rename_i e;rw [e];exact k4 c hv
  ·exact .inl hv
 refine ⟨fun j=>if j=i then r' else pr j,fun j=>if j=i then v' else vt j,⟨fun j u hj => ?_,h.safe.more q1 q2 q3,h.vb,h.pp.more (fun _ z=>z) q1 q2 q3 (Int.le_refl _) (fun _ _ z=>z) id,h.qq.more (fun _ z=>z) q1 q2 q3 (Int.le_refl _) (fun _ _ z=>z) id,h.ne,fun x hx => ?_⟩,fun y lo' hy => ?_⟩
 ·rw [List.getElem?_set] at hj
  by_cases e:i=j
  ·rw [if_pos e] at hj
   split at hj
   ·cases hj;subst e
    rw [if_pos rfl,if_pos rfl]
    exact ⟨rs',by rw [ha,hs];exact k1⟩
   ·cases hj
  ·rw [if_neg e] at hj
   obtain ⟨rs2,k⟩:=h.ax j u hj
   rw [if_neg (fun z=>e z.symm),if_neg (fun z=>e z.symm)]
   exact ⟨rs2,k.wide (fun _ z=>z) (Nat.le_add_right ..) (fun _ _ z=>z)⟩
 ·obtain ⟨b,b1,b2,b3⟩:=h.dec x hx
  exact ⟨b,b1,b2,b3.more q2⟩
 ·obtain ⟨z1,z2⟩:=k5 y lo' hy
  dsimp only
  rw [if_pos rfl,if_pos rfl]
  exact ⟨z1,z2⟩
theorem zqp {G i j:Nat} (h:(G ||| 2 ^ i).testBit j=true):j=i∨G.testBit j=true:=by
 rw [Nat.testBit_or,Nat.testBit_two_pow,Bool.or_eq_true] at h
 rcases h with h|h
 ·exact .inr h
 ·exact .inl (of_decide_eq_true h).symm
theorem GJ.prom (h:GJ f F n bal T p q D va pr vt) (hf:f≤3) {i:Nat} (hi:i < 2 * f+1) {m y:Mm.Ms} {lo:Lo} (hmb:m.b=p.b) (hA:zhj F (i:Int) m y lo) (hT:zpm va (vt i) (pr i) m y):GI f F n bal T (ppro f p (toMx y lo)) q D:=by
 by_cases hno:p.ph≠1∨¬ Ans f p (toMx y lo) 5∨((toMx y lo).has=true∧(toMx y lo).pl.e≠p.e)
 ·rw [zgv hno]
  exact ⟨va,pr,vt,h⟩
 have h1:p.ph=1:=Decidable.byContradiction fun z=>hno (.inl z)
 have hans:Ans f p (toMx y lo) 5:=Decidable.byContradiction fun z=>hno (.inr (.inl z))
 rw [zib hno]
 have hk5:y.k=5:=hans.1
 obtain ⟨G,A,g1,g2,a1,a2,h3⟩:=h.pp.bits
 have hph:=h3.resolve_left (fun z=>by omega)
 obtain ⟨-,hv,hA0,hb1,hbits,hbest⟩:=hph.resolve_right (fun z=>by have:=z.1;omega)
 have hpt:m.b≤pr i∧((y.has=false∧∀c,¬ vt i c)∨(y.has=true∧1≤y.a∧y.a < m.b∧va y.a=some y.plan∧∀c,vt i c→c≤y.a)):=by
  rcases hT with z|⟨-,-,-,z4,z5⟩|z
  ·exact absurd hk5 z.1
  ·exact ⟨z4,z5⟩
  ·have:=z.1;omega
 have hfi:(toMx y lo).f=(i:Int):=hA.f
 have hpl:=toMx_pl hA.ok hA.fz hA.rt
 have hbi:(zb8 p (toMx y lo)).pr=((G ||| 2 ^ i:Nat):Int):=by
  unfold zb8
  rw [hfi,g1]
  split<;>rfl
 have hP : (zb8 p (toMx y lo)).ph = p.ph ∧ (zb8 p (toMx y lo)).b = p.b ∧ (zb8 p (toMx y lo)).e = p.e ∧ (zb8 p (toMx y lo)).own = p.own ∧ (zb8 p (toMx y lo)).ac = p.ac ∧ PqOk F (zb8 p (toMx y lo)).val ∧
   p.best≤(zb8 p (toMx y lo)).best∧((zb8 p (toMx y lo)).best=0∨(1≤(zb8 p (toMx y lo)).best∧(zb8 p (toMx y lo)).best < p.b∧va (zb8 p (toMx y lo)).best=some (zb8 p (toMx y lo)).val.pl))∧(y.has=true→y.a≤(zb8 p (toMx y lo)).best):=by
  unfold zb8
  by_cases hc:(toMx y lo).has=true∧p.best < (toMx y lo).a
  ·rw [if_pos hc]
   have h2:y.has=true:=hc.1
   have h4:p.best < y.a:=hc.2
   rcases hpt.2 with ⟨z,-⟩|⟨-,z1,z2,z3,-⟩
   ·rw [z] at h2;cases h2
   ·exact ⟨rfl,rfl,rfl,rfl,rfl,(hpl h2).1,Int.le_of_lt h4,.inr ⟨z1,by rw [←hmb];exact z2,by rw [(hpl h2).2];exact z3⟩,fun _=>Int.le_refl _⟩
  ·rw [if_neg hc]
   exact ⟨rfl,rfl,rfl,rfl,rfl,h.pp.val,Int.le_refl _,hbest,fun z=>Int.not_lt.1 (fun w=>hc ⟨z,w⟩)⟩
 obtain ⟨P,hPe⟩ : ∃P,zb8 p (toMx y lo)=P:=⟨_,rfl⟩
 rw [hPe] at hbi hP ⊢
 obtain ⟨e1,e2,e3,e4,e5,e6,e7,e8,e9⟩:=hP
 have hG64:=zht g2 (show i < 64 by omega)
 have hbits2:∀j,j < 2 * f+1→(G ||| 2 ^ i).testBit j=true→p.b≤pr j∧∀c,c < p.b→vt j c→c≤P.best:=fun j hj hb=>by
  rcases zqp hb with rfl|hb
  ·refine ⟨by rw [←hmb];exact hpt.1,fun c hc hvt => ?_⟩
   rcases hpt.2 with ⟨-,z⟩|⟨z1,-,-,-,z⟩
   ·exact absurd hvt (z c)
   ·exact Int.le_trans (z c hvt) (e9 z1)
  ·obtain ⟨z1,z2⟩:=hbits j hj hb
   exact ⟨z1,fun c hc hvt=>Int.le_trans (z2 c hc hvt) e7⟩
 rw [hbi,Int.toNat_natCast]
 by_cases hmo:Om.most f (G ||| 2 ^ i)=true
 ·rw [if_pos hmo]
  have put:∀v:Pq,PqOk F v→(P.best=0∨(1≤P.best∧P.best < p.b∧va P.best=some v.pl))→GI f F n bal T { P with ph:=2,val:=v } q D:=fun v hv1 hv2=>by
   have hva:∀b x,va b=some x→vput va p.b v.pl b=some x:=zhl hv
   have hvb:va p.b=none:=hv
   refine ⟨vput va p.b v.pl,pr,vt,fun j t hj => ?_,h.safe.put hvb hmo hbits2 hv2 (fun j c hvt => ?_),fun b hb => ?_,?_,h.qq.more (fun _ z=>z) (fun _=>Int.le_refl _) (fun _ _ z=>z) (fun _ _ z => .inl z) (Int.le_refl _) hva (fun z => ?_),fun z => ?_,fun x hx => ?_⟩
   ·obtain ⟨rs,k⟩:=h.ax j t hj
    exact ⟨rs,k.wide (fun _ z=>z) (Nat.le_refl _) hva⟩
   ·trivial
   ·by_cases hb2:b=p.b
    ·rw [hb2];exact ⟨hb1,h.pp.b.2⟩
    ·refine h.vb b ?_
     unfold vput at hb
     rwa [if_neg hb2] at hb
   ·refine ⟨⟨G ||| 2 ^ i,A,hbi,hG64,e5.trans a1,a2,.inr (.inr ⟨.inl rfl,by show 1≤P.b;rw [e2];exact hb1,?_,fun j _ hb => ?_,fun z=>absurd z (by show ¬ (2:Int)=3;decide)⟩)⟩,by show 0≤P.b∧P.b≤bal;rw [e2];exact h.pp.b,.inr (by show P.e=1;rw [e3];rcases h.pp.e with z|z;(· omega);(· exact z)),by show PqOk F P.own;rw [e4];exact h.pp.own,hv1⟩
    ·show vput va p.b v.pl P.b=some v.pl
     rw [e2];exact if_pos rfl
    ·rw [hA0,Nat.zero_testBit] at hb;cases hb
   ·have hqb:q.b≠p.b:=fun w=>by have:=h.ne w.symm;omega
    unfold vput
    rw [if_neg hqb]
    exact z
   ·have z2:p.b=q.b:=by rw [←e2];exact z
    show P.b=0
    rw [e2];exact h.ne z2
   ·obtain ⟨b,b1,b2,b3⟩:=h.dec x hx
    exact ⟨b,b1,hva _ _ b2,b3⟩
  by_cases hb0:P.best=0
  ·rw [if_pos hb0]
   exact put P.own (by rw [e4];exact h.pp.own) (.inl hb0)
  ·rw [if_neg hb0]
   exact put P.val e6 (.inr (e8.resolve_left hb0))
 ·rw [if_neg hmo]
  refine ⟨va,pr,vt,h.ax,h.safe,h.vb,?_,h.qq,fun z=>by rw [e2] at z ⊢;exact h.ne z,h.dec⟩
  exact ⟨⟨G ||| 2 ^ i,A,hbi,hG64,e5.trans a1,a2,.inr (.inl ⟨e1.trans h1,by rw [e2];exact hv,hA0,by rw [e2];exact hb1,by rw [e2];exact hbits2,by rw [e2];exact e8⟩)⟩,by rw [e2];exact h.pp.b,by rw [e1,e3];exact h.pp.e,by rw [e4];exact h.pp.own,e6⟩
theorem GJ.accd (h:GJ f F n bal T p q D va pr vt) (hf:f≤3) {i:Nat} (hi:i < 2 * f+1) {m y:Mm.Ms} {lo:Lo} (hmb:m.b=p.b) (hA:zhj F (i:Int) m y lo) (hT:zpm va (vt i) (pr i) m y):GI f F n bal T (pacc f p (toMx y lo)) q D:=by
 by_cases hno:p.ph≠2∨¬ Ans f p (toMx y lo) 8
 ·rw [ziy hno]
  exact ⟨va,pr,vt,h⟩
 have h1:p.ph=2:=Decidable.byContradiction fun z=>hno (.inl z)
 have hans:Ans f p (toMx y lo) 8:=Decidable.byContradiction fun z=>hno (.inr z)
 rw [zhe hno]
 have hk8:y.k=8:=hans.1
 obtain ⟨G,A,g1,g2,a1,a2,h3⟩:=h.pp.bits
 have hph:=(h3.resolve_left (fun z=>by omega)).resolve_left (fun z=>by have:=z.1;omega)
 obtain ⟨-,hb1,hv,hbits,-⟩:=hph
 have hpt:vt i p.b:=by
  rcases hT with z|z|⟨-,-,-,z⟩
  ·exact absurd hk8 z.2
  ·have:=z.1;omega
  ·rw [←hmb];exact z
 have hfi:(toMx y lo).f=(i:Int):=hA.f
 have hbi:ziu p.ac (toMx y lo).f=((A ||| 2 ^ i:Nat):Int):=by rw [hfi,a1];rfl
 have hA64:=zht a2 (show i < 64 by omega)
 have hbits2:∀j,j < 2 * f+1→(A ||| 2 ^ i).testBit j=true→vt j p.b:=fun j hj hb=>by
  rcases zqp hb with rfl|hb
  ·exact hpt
  ·exact hbits j hj hb
 rw [hbi,Int.toNat_natCast]
 by_cases hmo:Om.most f (A ||| 2 ^ i)=true
 ·rw [if_pos hmo]
  exact ⟨va,pr,vt,h.ax,h.safe,h.vb,⟨⟨G,A ||| 2 ^ i,g1,g2,rfl,hA64,.inr (.inr ⟨.inr rfl,hb1,hv,hbits2,fun _=>⟨A ||| 2 ^ i,hmo,hbits2⟩⟩)⟩,h.pp.b,.inr (by show p.e=1;rcases h.pp.e with z|z;(· omega);(· exact z)),h.pp.own,h.pp.val⟩,h.qq,h.ne,h.dec⟩
 ·rw [if_neg hmo]
  exact ⟨va,pr,vt,h.ax,h.safe,h.vb,⟨⟨G,A ||| 2 ^ i,g1,g2,rfl,hA64,.inr (.inr ⟨.inl h1,hb1,hv,hbits2,fun z=>by have z2:p.ph=3:=z;omega⟩)⟩,h.pp.b,h.pp.e,h.pp.own,h.pp.val⟩,h.qq,h.ne,h.dec⟩
theorem GI.again {i:Nat} {t t':A1} {er now:Int} {a':Ac} (h:GI f F n bal T p q D) (hi:T[i]? = some t) (k:Rst (zp 2) F F' (i:Int) (Jm.crash t.s 0) (Classical.choose (h.choose_spec.choose_spec.choose_spec.ax i t hi)) now er t.a a') (ha:t'.a=a') (hs:t'.s=(Jm.opn (Jm.crash t.s 0)).1):GI f F' n bal (T.set i t') p q D:=by
 obtain ⟨va,pr,vt,hh⟩ : ∃va pr vt,va=h.choose∧pr=h.choose_spec.choose∧vt=h.choose_spec.choose_spec.choose:=⟨_,_,_,rfl,rfl,rfl⟩
 have hJ:=h.choose_spec.choose_spec.choose_spec
 have hx:=Classical.choose_spec (hJ.ax i t hi)
 refine ⟨_,_,_,fun j u hj => ?_,hJ.safe,hJ.vb,hJ.pp.more k.more (fun _=>Int.le_refl _) (fun _ _ z=>z) (fun _ _ z => .inl z) (Int.le_refl _) (fun _ _ z=>z) id,hJ.qq.more k.more (fun _=>Int.le_refl _) (fun _ _ z=>z) (fun _ _ z => .inl z) (Int.le_refl _) (fun _ _ z=>z) id,hJ.ne,hJ.dec⟩
 rw [List.getElem?_set] at hj
 by_cases e:i=j
 ·rw [if_pos e] at hj
  split at hj
  ·cases hj;subst e
   exact ⟨_,by rw [ha,hs];exact hx.again k⟩
  ·cases hj
 ·rw [if_neg e] at hj
  obtain ⟨rs2,k2⟩:=hJ.ax j u hj
  exact ⟨rs2,k2.wide k.more (Nat.le_refl _) (fun _ _ z=>z)⟩
theorem GI.asked (h : GI f F n bal T p q D) (hf : f ≤ 3) {i : Nat} (hi : i < 2 * f + 1) {t : A1} (hti : T[i]? = some t) {m : Mm.Ms} {lo : Lo} {now : Int} (hm : MsOk m lo) (hz : Within (mfz m lo) F) (he : m.e = 1) (hk : m.k = 4) (hmb : m.b = p.b) {R : Res} (hR : handle t.a t.s m lo now = R) :
  (R.2.2=none→∀t':A1,t'.a=R.1→t'.s=R.2.1→GI f F (n+8200) bal (T.set i t') p q D)∧∀y lo',R.2.2=some (y,lo')→∀t':A1,t'.a=R.1→t'.s=R.2.1→GI f F (n+8200) bal (T.set i t') (ppro f p (toMx y lo')) q D:=by
 subst hR
 obtain ⟨va,pr,vt,hJ⟩:=h
 refine ⟨fun _ t' ha hs => ?_,fun y lo' hy t' ha hs => ?_⟩
 ·obtain ⟨pr',vt',k,-⟩:=hJ.hand hti (by omega) hm hz he (.inl hk) ha hs
  exact ⟨va,pr',vt',k⟩
 ·obtain ⟨pr',vt',k,k2⟩:=hJ.hand hti (by omega) hm hz he (.inl hk) ha hs
  obtain ⟨z1,z2⟩:=k2 y lo' hy
  exact k.prom hf hi hmb z1 z2
theorem GI.voted (h : GI f F n bal T p q D) (hf : f ≤ 3) {i : Nat} (hi : i < 2 * f + 1) {t : A1} (hti : T[i]? = some t) {m : Mm.Ms} {lo : Lo} {now : Int} (hm : MsOk m lo) (hz : Within (mfz m lo) F) (he : m.e = 1) (hk : m.k = 7) (hmb : m.b = p.b) (hpl : m.plan = p.val.pl) (hph : ¬ p.ph < 2) {R : Res} (hR : handle t.a t.s m lo now = R) :
  (R.2.2=none→∀t':A1,t'.a=R.1→t'.s=R.2.1→GI f F (n+8200) bal (T.set i t') p q D)∧∀y lo',R.2.2=some (y,lo')→∀t':A1,t'.a=R.1→t'.s=R.2.1→GI f F (n+8200) bal (T.set i t') (pacc f p (toMx y lo')) q D:=by
 subst hR
 obtain ⟨va,pr,vt,hJ⟩:=h
 have hv:va m.b=some m.plan:=by
  obtain ⟨G,A,-,-,-,-,h3⟩:=hJ.pp.bits
  rcases h3 with z|z|⟨-,-,z,-⟩
  ·have:=z.1;omega
  ·have:=z.1;omega
  ·rw [hmb,hpl];exact z
 refine ⟨fun _ t' ha hs => ?_,fun y lo' hy t' ha hs => ?_⟩
 ·obtain ⟨pr',vt',k,-⟩:=hJ.hand hti (by omega) hm hz he (.inr ⟨hk,hv⟩) ha hs
  exact ⟨va,pr',vt',k⟩
 ·obtain ⟨pr',vt',k,k2⟩:=hJ.hand hti (by omega) hm hz he (.inr ⟨hk,hv⟩) ha hs
  obtain ⟨z1,z2⟩:=k2 y lo' hy
  exact k.accd hf hi hmb z1 z2
theorem GI.of (h:GI f F n bal T p q D) {i:Nat} {t:A1} (hi:T[i]? = some t):∃rs,Nb [1,0] 2 F i n rs t.a t.s∧Nb [1,0] 2 F i n rs t.a (Jm.crash t.s 0)∧(∀(F':Fz) (er now:Int) (a':Ac),Rst (zp 2) F F' (i:Int) (Jm.crash t.s 0) rs now er t.a a'→∀t':A1,t'.a=a'→t'.s=(Jm.opn (Jm.crash t.s 0)).1→GI f F' n bal (T.set i t') p q D):=by
 have hJ:=h.choose_spec.choose_spec.choose_spec
 have hx:=Classical.choose_spec (hJ.ax i t hi)
 exact ⟨_,hx.nb,hx.dn,fun _ _ _ _ k t' ha hs=>h.again hi k ha hs⟩
theorem GI.oks (h:GI f F n bal T p q D):PqOk F p.val∧PqOk F p.own∧Ks.zj1 p.pr∧Ks.zj1 p.ac∧0≤p.b∧p.b≤bal:=by
 obtain ⟨va,pr,vt,hJ⟩:=h
 obtain ⟨G,A,g1,g2,a1,a2,-⟩:=hJ.pp.bits
 exact ⟨hJ.pp.val,hJ.pp.own,⟨by omega,by omega⟩,⟨by omega,by omega⟩,hJ.pp.b⟩
theorem GI.le (h:GI f F n bal T p q D) (hn:n≤n'):GI f F n' bal T p q D:=by
 obtain ⟨va,pr,vt,h⟩:=h
 refine ⟨va,pr,vt,fun i t hi => ?_,h.safe,h.vb,h.pp,h.qq,h.ne,h.dec⟩
 obtain ⟨rs,k⟩:=h.ax i t hi
 exact ⟨rs,k.wide (fun _ z=>z) hn (fun _ _ z=>z)⟩
theorem GI.live (h:GI f F n bal T p q D) {i:Nat} {t:A1} (hi:T[i]? = some t):t.s.off=false:=by
 obtain ⟨va,pr,vt,hJ⟩:=h
 obtain ⟨rs,hx⟩:=hJ.ax i t hi
 exact hx.lv.off
end
end Go.Proofs.YtponpgcpmlcdpaaGreatDoor
