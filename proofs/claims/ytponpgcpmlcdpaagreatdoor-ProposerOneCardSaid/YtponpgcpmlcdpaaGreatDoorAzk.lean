import Derived.Test.YtponpgcpmlcdpaaGreatDoorKitX
import Derived.Test.YtponpgcpmlcdpaaGreatDoorKX
import Derived.Test.YtponpgcpmlcdpaaGreatDoorAn
import Derived.Test.YtponpgcpmlcdpaaGreatDoorKpm
import Derived.Test.YtponpgcpmlcdpaaGreatDoorGe
set_option maxRecDepth 100000
namespace Go.Proofs.YtponpgcpmlcdpaaGreatDoor
open Go.RowKit Go.Shelf Km Kx Kc
set_option linter.unusedVariables false
set_option linter.unusedSimpArgs false
def zc8 (A:Option Addr) (w hit f s t:Int):Cf:=⟨1,2,2,1,3,A,2,2,5,3,2,2,20,20,5,10,3,w,3,hit,1500,700,30,f,s,t,10,5,10,4,3,5⟩
theorem zmp (A:Option Addr):Tryz.prog.built 24 [(0,.int .i64 1),(1,.int .i64 2),(2,.int .i64 2),(3,.int .i64 1),(4,.int .i64 3),(5,.slice A 2 2),(6,.int .i64 5),(7,.int .i64 3),(8,.int .i64 2),(9,.int .i64 2),(10,.int .i64 20),(11,.int .i64 20),(12,.int .i64 5),(13,.int .i64 10),(14,.int .i64 3),(15,.int .i64 50),(16,.int .i64 3),(17,.int .i64 1000),(18,.int .i64 1500),(19,.int .i64 700),(20,.int .i64 30),(21,.int .i64 20),(22,.int .i64 40),(23,.int .i64 5),(24,.int .i64 10),(25,.int .i64 5),(26,.int .i64 10),(27,.int .i64 4),(28,.int .i64 3),(29,.int .i64 5)]=some (cf (zc8 A 50 1000 20 40 5)).toArray:=by kernel_rfl
set_option maxHeartbeats 1000000 in
theorem zl7 (w:World):Calls Tryz.prog 16 #[] w fun e w'=>∃A,e = .returned (.agg (cf (zc8 A 50 1000 20 40 5)).toArray)∧Below w.heap.size w w'∧New w w' [] A (i64s [1,0]):=by
 have HB:=Lib.hid (Bxs.start w)
 go_enter Tryz.func16,Tryz.ntmps16
 go_wp2_with (first|((with_reducible refine Kx.zeg ?_);refine Kx.zfu 2 1 rfl (by decide) HB ?_;clear HB;intro w_ HB)|((with_reducible refine Kx.zbk ?_);refine Km.wpList_build rfl 24 _ rfl #[(0,.int .i64 1),(1,.int .i64 2),(2,.int .i64 2),(3,.int .i64 1),(4,.int .i64 3),(5,.slice (some ⟨_,0,none⟩) 2 2),(6,.int .i64 5),(7,.int .i64 3),(8,.int .i64 2),(9,.int .i64 2),(10,.int .i64 20),(11,.int .i64 20),(12,.int .i64 5),(13,.int .i64 10),(14,.int .i64 3),(15,.int .i64 50),(16,.int .i64 3),(17,.int .i64 1000),(18,.int .i64 1500),(19,.int .i64 700),(20,.int .i64 30),(21,.int .i64 20),(22,.int .i64 40),(23,.int .i64 5),(24,.int .i64 10),(25,.int .i64 5),(26,.int .i64 10),(27,.int .i64 4),(28,.int .i64 3),(29,.int .i64 5)] (by simp only [List.map_toArray,List.map_cons,List.map_nil];rfl) (cf (zc8 (some ⟨_,0,none⟩) 50 1000 20 40 5)).toArray (zmp _) ?_;refine Kx.framed ?_ (by rfl))|(first|((with_reducible refine zah HB ?_);clear HB;intro w_ HB)|((with_reducible refine zae ?_);first|(refine Kx.zcn HB rfl _ _ rfl _ rfl ?_;clear HB;intro b_ w_ HB;refine Kx.framed ?_ (by simp only [Act.put,List.setIfInBounds_toArray,List.set_cons_succ,List.set_cons_zero]<;>rfl))|(refine Kx.zcm HB rfl _ _ rfl _ rfl rfl ?_;clear HB;intro b_ w_ HB;refine Kx.framed ?_ (by simp only [Act.put,List.setIfInBounds_toArray,List.set_cons_succ,List.set_cons_zero]<;>rfl))|(refine Kx.zca HB rfl _ _ rfl _ rfl rfl ?_;clear HB;intro b_ w_ HB;refine Kx.framed ?_ (by simp only [Act.put,List.setIfInBounds_toArray,List.set_cons_succ,List.set_cons_zero]<;>rfl)))|((with_reducible refine zaa ?_);first|(refine Kx.zb5 HB rfl _ rfl _ (Tryz.zeroValue24 _) ?_;clear HB;intro b_ w_ HB;refine Kx.framed ?_ (by simp only [Act.put,List.setIfInBounds_toArray,List.set_cons_succ,List.set_cons_zero]<;>rfl))|(refine Kx.zbt HB rfl _ rfl _ (Tryz.zeroValue3 _) rfl ?_;clear HB;intro b_ w_ HB;refine Kx.framed ?_ (by simp only [Act.put,List.setIfInBounds_toArray,List.set_cons_succ,List.set_cons_zero]<;>rfl)))|((with_reducible refine zab ?_);first|(refine zai HB rfl _ _ rfl _ rfl _ (Tryz.isAgg3 _) _ rfl (Kx.framed ?_ (by simp only [Act.put,List.setIfInBounds_toArray,List.set_cons_succ,List.set_cons_zero]<;>rfl)))|(refine zam HB rfl _ _ rfl _ rfl _ _ (Tryz.isAgg24 _) (Tryz.sizeOf24 _) _ (by first|exact Kx.whole (by rfl)|(simp<;>rfl)) (by rfl) (Kx.framed ?_ (by simp only [Act.put,List.setIfInBounds_toArray,List.set_cons_succ,List.set_cons_zero]<;>rfl)))|(refine Kx.zc1 HB rfl _ _ rfl _ rfl (Tryz.isAgg3 _) _ HC.out (Kx.framed ?_ (by simp only [Act.put,List.setIfInBounds_toArray,List.set_cons_succ,List.set_cons_zero]<;>rfl))))|((with_reducible refine zac ?_);first|(refine zaj HB _ _ rfl _ rfl _ (Tryz.isAgg3 _) _ rfl rfl (Kx.framed ?_ (by simp only [Act.put,List.setIfInBounds_toArray,List.set_cons_succ,List.set_cons_zero]<;>rfl)))|(refine Kx.zb4 HB _ _ rfl _ rfl _ _ (Tryz.isAgg24 _) (Tryz.sizeOf24 _) _ (by first|exact Kx.whole (by rfl)|(simp<;>rfl)) (by rfl) rfl (Kx.framed ?_ (by simp only [Act.put,List.setIfInBounds_toArray,List.set_cons_succ,List.set_cons_zero]<;>rfl)))|(refine Kx.zcl HB _ _ rfl _ rfl (Tryz.isAgg3 _) _ HC.out rfl (Kx.framed ?_ (by simp only [Act.put,List.setIfInBounds_toArray,List.set_cons_succ,List.set_cons_zero]<;>rfl))))|((with_reducible refine zad ?_);first|(refine Kx.zay HB rfl rfl _ _ _ rfl _ rfl _ rfl _ (by rfl) (by simp<;>rfl) (by rfl) ?_;clear HB;intro w_ HB)|(refine Kx.za0 HB rfl rfl _ _ _ rfl _ rfl _ rfl _ _ (by simp [Kx.splice]<;>rfl) (by simp) (by simp<;>rfl) (by rfl) ?_;clear HB;intro w_ HB)|(refine Kx.zcg HB rfl rfl _ _ _ rfl _ rfl rfl _ _ (by simp<;>rfl) (by simp) (by simp<;>rfl) ?_;clear HB;intro w_ HB)|(refine Kx.zaz HB rfl rfl _ _ _ rfl _ rfl _ rfl rfl _ _ (by simp<;>rfl) (by simp) (by simp<;>rfl) ?_;clear HB;intro w_ HB)|(refine Kx.zaw HB rfl rfl _ _ _ rfl _ rfl _ rfl rfl _ _ (by simp<;>rfl) (by simp) (by simp<;>rfl) ?_;clear HB;intro w_ HB))))
 refine bodyPost_ret (Kx.zbh HB rfl _ _ _ rfl (by first|(simp<;>rfl)|rfl) (by first|(simp<;>rfl)|rfl)) rfl ?_;exact ⟨_,rfl,HB.out.below,HB.out.zmw⟩
end Go.Proofs.YtponpgcpmlcdpaaGreatDoor

namespace Go.Proofs.YtponpgcpmlcdpaaGreatDoor
open Go.RowKit Go.Shelf Km Kx Kc Kt
set_option linter.unusedVariables false
set_option linter.unusedSimpArgs false
theorem znm {N:Nat} (hN:N≤16) {e st:Int} (he:0≤e∧e≤9223372036854775807) (hs:0≤st∧st≤1099511627776):({ zp N with e:=e,st:=st }:Pm.Pl).right=true:=by
 refine Pm.zbp ⟨fun k hk => ?_,⟨?_,fun n hn => ?_⟩,⟨Nat.zero_le _,fun n hn=>by cases hn⟩,fun k hk=>by have h:k+1 < 0:=hk;omega⟩
 ·have h:k=0∨k=1∨k=2∨k=3∨k=4∨k=5∨k=6∨k=7∨k=8∨k=9:=by omega
  rcases h with rfl|rfl|rfl|rfl|rfl|rfl|rfl|rfl|rfl|rfl<;>first|exact he|exact hs|exact (show (-1:Int) ≤ -1∧(-1:Int)≤15 from ⟨by decide,by decide⟩)|exact (show (0:Int)≤0∧(0:Int)≤100 from ⟨by decide,by decide⟩)|exact (show (0:Int)≤0∧(0:Int)≤1099511627776 from ⟨by decide,by decide⟩)|exact (show (0:Int)≤0∧(0:Int)≤65535 from ⟨by decide,by decide⟩)
 ·show (List.replicate N (0:Int)).length≤16
  rw [List.length_replicate];exact hN
 ·rw [(List.mem_replicate.1 hn).2];exact ⟨by decide,by decide⟩
def pm (k f t e b:Int) (p:Pm.Pl):Mm.Ms:=⟨k,f,t,e,b,0,0,0,0,0,true,p,[],[],[]⟩
structure Live (s:Jm.St) (n:Nat):Prop where
 off:s.off=false
 burn:s.burn = -1
 len:Jm.size s≤n
theorem live_new:Live Jm.new 0:=⟨rfl,rfl,Nat.le_refl _⟩
theorem zgh {s:Jm.St} {n:Nat} (h:Live s n) {x:Mm.Ms} (hx:x.right=true):(keep s x).2=true∧Live (keep s x).1 (n+8200):=by
 have hbl:=Mm.ze5 hx
 have e1:Jm.eff s=(s,0):=Jm.zgl h.off (by rw [h.burn];decide)
 have a1:Jm.append s x.k x.body=({ s with rest:=s.rest++Fm.frm x.k x.body },0):=by rw [Jm.ziw (by omega) (by rw [e1]),e1]
 have e2:Jm.eff ({ s with rest:=s.rest++Fm.frm x.k x.body }:Jm.St)=({ s with rest:=s.rest++Fm.frm x.k x.body },0):=Jm.zgl h.off (by show s.burn < 0;rw [h.burn];decide)
 have b1:Jm.sync ({ s with rest:=s.rest++Fm.frm x.k x.body }:Jm.St)=({ s with kept:=s.kept++(s.rest++Fm.frm x.k x.body),rest:=[] },0):=by rw [Jm.zj3 (by rw [e2]),e2]
 have hk:keep s x=({ s with kept:=s.kept++(s.rest++Fm.frm x.k x.body),rest:=[] },true):=by
  unfold keep
  rw [if_pos hx,a1]
  dsimp only
  rw [if_pos rfl,b1]
  rfl
 rw [hk]
 refine ⟨rfl,h.off,h.burn,?_⟩
 have:=h.len
 unfold Jm.size at this ⊢
 simp only [List.length_append,Fm.zds,List.length_nil]
 omega
end Go.Proofs.YtponpgcpmlcdpaaGreatDoor

namespace Go.Proofs.YtponpgcpmlcdpaaGreatDoor
open Go.RowKit Go.Shelf Km Kx Kc Kt
set_option linter.unusedVariables false
set_option linter.unusedSimpArgs false
def PtOk (F:Fz) (p:Pt):Prop:=p.Fine∧Within p.fz F∧p.x.right=true
structure Inv (F:Fz) (node:Int) (a:Ac):Prop where
 kn:PtOk F a.kn
 pl:a.ac=0∨PtOk F a.pl
 pr:Pm.I a.pr
 ac:Pm.I a.ac
 node:a.node=node
 l:0≤a.c.l∧a.c.l≤1048576
 m:0≤a.c.m∧a.c.m≤1048576
theorem Inv.ok {F:Fz} {node:Int} {a:Ac} (h:Inv F node a):AcOk a F:=⟨h.kn.1,h.kn.2.1,h.l,h.m⟩
theorem Inv.pro {F:Fz} {node:Int} {a:Ac} (h:Inv F node a) {m:Mm.Ms} {p:Pt} (hp:PtOk F p) (hb:Pm.I m.b):Inv F node (a.replay (rpro m p) p):=by
 unfold Ac.replay
 rw [if_pos (show (rpro m p).k=5 from rfl)]
 split
 ·exact ⟨hp,h.pl,hb,h.ac,h.node,h.l,h.m⟩
 ·unfold Ac.enter
  split
  ·exact ⟨hp,.inl rfl,hb,I0,h.node,h.l,h.m⟩
  ·exact ⟨hp,.inl rfl,hb,I0,h.node,h.l,h.m⟩
theorem Inv.acc {F:Fz} {node:Int} {a:Ac} (h:Inv F node a) {m:Mm.Ms} {p:Pt} (hp:PtOk F p) (hb:Pm.I m.b):Inv F node (a.replay (racc m) p):=by
 unfold Ac.replay
 rw [if_neg (show ¬ (racc m).k=5 by show ¬ (8:Int)=5;decide),if_pos (show (racc m).k=8 from rfl)]
 exact ⟨h.kn,.inr hp,hb,hb,h.node,h.l,h.m⟩
theorem Inv.lw {F:Fz} {node:Int} {a:Ac} (h:Inv F node a) {m:Mm.Ms} {p:Pt}:Inv F node (a.replay (rlw m) p):=by
 unfold Ac.replay
 rw [if_neg (show ¬ (rlw m).k=5 by show ¬ (11:Int)=5;decide),if_neg (show ¬ (rlw m).k=8 by show ¬ (11:Int)=8;decide),if_pos (show (rlw m).k=11∧(rlw m).co=1 from ⟨rfl,rfl⟩)]
 unfold Ac.widen
 split<;>exact ⟨h.kn,h.pl,h.pr,h.ac,h.node,h.l,h.m⟩
theorem Inv.ll {F:Fz} {node:Int} {a:Ac} (h:Inv F node a) {m:Mm.Ms} {p:Pt}:Inv F node (a.replay (rll m) p):=by
 unfold Ac.replay
 rw [if_neg (show ¬ (rll m).k=5 by show ¬ (11:Int)=5;decide),if_neg (show ¬ (rll m).k=8 by show ¬ (11:Int)=8;decide),if_neg (show ¬ ((rll m).k=11∧(rll m).co=1) from fun q=>absurd q.2 (by show ¬ (2:Int)=1;decide)),if_pos (show (rll m).k=11∧(rll m).co=2 from ⟨rfl,rfl⟩)]
 exact ⟨h.kn,h.pl,h.pr,h.ac,h.node,h.l,h.m⟩
theorem zdn:Pm.same Pm.zero Pm.zero=true:=Mm.zqg
theorem zkf {F:Fz}:Within noPt.fz F:=fun q hq=>by
 rcases List.mem_cons.1 hq with rfl|hq
 ·exact .inl rfl
 ·rcases List.mem_cons.1 hq with rfl|hq
  ·exact .inl rfl
  ·cases hq
theorem Inv.spl {F:Fz} {node:Int} {a:Ac} (h:Inv F node a):a.spl.Fine∧Within a.spl.fz F∧(if a.ac != 0 then a.spl.x.right else Pm.same a.spl.x Pm.zero)=true:=by
 unfold Ac.spl
 by_cases q:a.ac=0
 ·rw [if_pos q,q]
  exact ⟨zfi,zkf,zdn⟩
 ·rw [if_neg q]
  have hp:=h.pl.resolve_left q
  refine ⟨hp.1,hp.2.1,?_⟩
  rw [if_pos (by simpa using q)]
  exact hp.2.2
theorem zdz {p:Pt} {k f t e b ac n co:Int} {has:Bool} (hk:1≤k∧k≤19) (hf:0≤f∧f≤255) (ht:0≤t∧t≤255) (hc:0≤co∧co≤1000) (hp:(if has then p.x.right else Pm.same p.x Pm.zero)=true):({ mk k e b ac n co has p.x with f:=f,t:=t }:Mm.Ms).right=true :=
 Mm.zbr.2 ⟨hk.1,hk.2,hf,ht,(by show (0:Int)≤65535;decide),hc.1,hc.2,hp,.inl rfl,Nat.zero_le _,Nat.zero_le _⟩
theorem byte_I {x:Int} (h:0≤x∧x≤255):Pm.I x:=⟨by have:=h.1;omega,by have:=h.2;omega⟩
structure zhj (F:Fz) (node:Int) (m y:Mm.Ms) (lo:Lo):Prop where
 ok:MsOk y lo
 fz:Within (mfz y lo) F
 rt:y.right=true
 f:y.f=node
 t:y.t=m.f
 k:(m.k=4∧(y.k=9∨y.k=5∨y.k=6))∨(m.k=7∧(y.k=9∨y.k=8∨y.k=6))∨(m.k=10∧y.k=11∧y.n=m.n∧y.co=m.co∧y.e=m.e)
theorem zh0 {F : Fz} {node : Int} {a : Ac} {m : Mm.Ms} {p : Pt} {k e b ac n co : Int} {has : Bool} (hn : a.node = node) (hnb : 0 ≤ node ∧ node ≤ 255) (hm : 0 ≤ m.f ∧ m.f ≤ 255) (hpf : p.Fine) (hpi : Within p.fz F) (hp : (if has then p.x.right else Pm.same p.x Pm.zero) = true) (hk : 1 ≤ k ∧ k ≤ 19) (he : Pm.I e) (hb : Pm.I b) (ha : Pm.I ac) (hnn : Pm.I n) (hc : 0 ≤ co ∧ co ≤ 1000)
  (hkk:(m.k=4∧(k=9∨k=5∨k=6))∨(m.k=7∧(k=9∨k=8∨k=6))∨(m.k=10∧k=11∧n=m.n∧co=m.co∧e=m.e)):zhj F node m (reply a m (mk k e b ac n co has p.x)) (loOf p):=by
 have h1:=zqx hpf (k:=k) (e:=e) (b:=b) (ac:=ac) (n:=n) (co:=co) (has:=has) ⟨by have:=hk.1;omega,by have:=hk.2;omega⟩ he hb ha hnn ⟨by have:=hc.1;omega,by have:=hc.2;omega⟩
 have h2:=h1.ok
 exact ⟨⟨⟨h2.k,by rw [show (reply a m (mk k e b ac n co has p.x)).f=a.node from rfl,hn];exact byte_I hnb,byte_I hm,h2.e,h2.b,h2.a,h2.n,h2.ti,h2.up,h2.co,h2.plan,h2.id,h2.se,h2.pa⟩,h1.l1,h1.c1,h1.m1,h1.l2,h1.c2,h1.m2,h1.l3,h1.c3,h1.m3,h1.l4,h1.c4,h1.m4,h1.l5,h1.c5,h1.m5⟩,
  mk_in hpi (k:=k) (e:=e) (b:=b) (ac:=ac) (n:=n) (co:=co) (has:=has),zdz (f:=a.node) (t:=m.f) hk (by rw [hn];exact hnb) hm hc hp,hn,rfl,hkk⟩
def ResOk (F:Fz) (node:Int) (m:Mm.Ms) (n:Nat) (R:Res):Prop:=Inv F node R.1∧Live R.2.1 n∧∀q,R.2.2=some q→zhj F node m q.1 q.2
theorem Live.more {s:Jm.St} {n k:Nat} (h:Live s n) (hk:n≤k):Live s k:=⟨h.off,h.burn,Nat.le_trans h.len hk⟩
theorem zce {F:Fz} {node:Int} {m:Mm.Ms} {n:Nat} {a:Ac} {s:Jm.St} (h:Inv F node a) (hs:Live s n):ResOk F node m (n+8200) (a,s,none):=⟨h,hs.more (Nat.le_add_right ..),fun q e=>by cases e⟩
theorem zcd {F:Fz} {node:Int} {m:Mm.Ms} {n:Nat} {a:Ac} {s:Jm.St} {y:Mm.Ms} {lo:Lo} (h:Inv F node a) (hs:Live s n) (ht:zhj F node m y lo):ResOk F node m n (a,s,some (y,lo)):=⟨h,hs,fun q e=>by cases e;exact ht⟩
section
variable {F:Fz} {node:Int} {a:Ac} {s:Jm.St} {m:Mm.Ms} {lo:Lo} {now:Int} {n:Nat}
theorem zhd (h:Inv F node a) (hnb:0≤node∧node≤255) (hf:0≤m.f∧m.f≤255) (hk:m.k=4∨m.k=7):zhj F node m (decided a m) (loOf a.kn) :=
 zh0 h.node hnb hf h.kn.1 h.kn.2.1 h.kn.2.2 ⟨by decide,by decide⟩ h.kn.1.ok.e I0 I0 I0 ⟨by decide,by decide⟩ (hk.elim (fun q => .inl ⟨q,.inl rfl⟩) (fun q => .inr (.inl ⟨q,.inl rfl⟩)))
theorem zii (h:Inv F node a) (hm:MsOk m lo) (hnb:0≤node∧node≤255) (hf:0≤m.f∧m.f≤255) (hk:m.k=4∨m.k=7):zhj F node m (zg8 a m) Lo.zero :=
 zh0 (p:=noPt) h.node hnb hf zfi zkf zdn ⟨by decide,by decide⟩ hm.ok.e h.pr I0 I0 ⟨by decide,by decide⟩ (hk.elim (fun q => .inl ⟨q,.inr (.inr rfl)⟩) (fun q => .inr (.inl ⟨q,.inr (.inr rfl)⟩)))
theorem ze3 (h:Inv F node a) (hm:MsOk m lo) (hnb:0≤node∧node≤255) (hf:0≤m.f∧m.f≤255) (hk:m.k=10) {co:Int} (hc:m.co=co) (hcc:0≤co∧co≤1000):zhj F node m (zgg a m co) Lo.zero :=
 zh0 (p:=noPt) h.node hnb hf zfi zkf zdn ⟨by decide,by decide⟩ hm.ok.e I0 I0 hm.ok.n hcc (.inr (.inr ⟨hk,rfl,rfl,hc.symm,rfl⟩))
theorem zjh (h:Inv F node a) (hs:Live s n) (hm:MsOk m lo) (hnb:0≤node∧node≤255) (hf:0≤m.f∧m.f≤255) (hk:m.k=4) {p:Pt} (hp:PtOk F p):ResOk F node m (n+8200) (promise a s m p):=by
 have hx:(rpro m p).right=true:=zdz (f:=0) (t:=0) (has:=true) ⟨by decide,by decide⟩ ⟨by decide,by decide⟩ ⟨by decide,by decide⟩ ⟨by decide,by decide⟩ hp.2.2
 obtain ⟨k1,k2⟩:=zgh hs hx
 unfold promise
 rw [if_pos k1]
 have hi:=h.pro (m:=m) hp hm.ok.b
 have hsp:=hi.spl
 refine zcd hi k2 ?_
 exact zh0 hi.node hnb hf hsp.1 hsp.2.1 hsp.2.2 ⟨by decide,by decide⟩ hm.ok.e hi.pr hi.ac I0 ⟨by decide,by decide⟩ (.inl ⟨hk,.inr (.inl rfl)⟩)
theorem zq7 (h:Inv F node a) (hs:Live s n) (hm:MsOk m lo) (hz:Within (mfz m lo) F) (hnb:0≤node∧node≤255):ResOk F node m (n+8200) (handle a s m lo now):=by
 by_cases hnf:¬ Fit s m now
 ·rw [zgx hnf];exact zce h hs
 have hfit:Fit s m now:=Classical.byContradiction hnf
 have hr:=Mm.zbr.1 hfit.1
 have hf:0≤m.f∧m.f≤255:=hr.2.2.1
 have hpr:m.zec=true:=hr.2.2.2.2.2.2.2.1
 have hpt:∀e,Prp m e→PtOk F (mpt m lo):=fun e q=>⟨hm.pt,(fun z hz'=>by
  rcases List.mem_cons.1 hz' with rfl|hz'
  ·exact hz _ (List.mem_cons_self ..)
  ·rcases List.mem_cons.1 hz' with rfl|hz'
   ·exact hz _ (List.mem_cons_of_mem _ (List.mem_cons_self ..))
   ·cases hz'),by
  have h8:=hpr
  unfold Mm.Ms.zec at h8
  rwa [q.2.2.1] at h8⟩
 unfold handle
 rw [if_pos hfit]
 split
 ·rename_i hk
  split
  ·rename_i hp
   unfold prepare
   split
   ·exact zcd h (hs.more (Nat.le_add_right ..)) (zhd h hnb hf (.inl hk))
   ·split
    ·split
     ·exact zce ⟨h.kn,h.pl,h.pr,h.ac,h.node,h.l,h.m⟩ hs
     ·exact zjh h hs hm hnb hf hk (hpt _ hp)
    ·split
     ·exact zcd h (hs.more (Nat.le_add_right ..)) (zii h hm hnb hf (.inl hk))
     ·exact zjh h hs hm hnb hf hk h.kn
  ·exact zce h hs
 ·split
  ·rename_i hk
   split
   ·rename_i hp
    have hx:(racc m).right=true:=zdz (p:=mpt m lo) (f:=0) (t:=0) (has:=true) ⟨by decide,by decide⟩ ⟨by decide,by decide⟩ ⟨by decide,by decide⟩ ⟨by decide,by decide⟩ (hpt _ hp).2.2
    obtain ⟨k1,k2⟩:=zgh hs hx
    unfold accept
    split
    ·exact zce h hs
    ·split
     ·exact zcd h (hs.more (Nat.le_add_right ..)) (zhd h hnb hf (.inr hk))
     ·split
      ·exact zcd h (hs.more (Nat.le_add_right ..)) (zii h hm hnb hf (.inr hk))
      ·split
       ·exact zce h hs
       ·try rw [if_pos k1]
        have hi:=h.acc (m:=m) (hpt _ hp) hm.ok.b
        exact zcd hi k2 (zh0 (p:=noPt) hi.node hnb hf zfi zkf zdn ⟨by decide,by decide⟩ hm.ok.e hm.ok.b I0 I0 ⟨by decide,by decide⟩ (.inr (.inl ⟨hk,.inr (.inl rfl)⟩)))
   ·exact zce h hs
  ·split
   ·rename_i hk
    split
    ·rename_i hc
     have hx:(rlw m).right=true:=zdz (p:=noPt) (f:=m.f) (t:=0) (has:=false) ⟨by decide,by decide⟩ hf ⟨by decide,by decide⟩ ⟨by decide,by decide⟩ zdn
     obtain ⟨k1,k2⟩:=zgh hs hx
     unfold zq8
     split
     ·exact zce h hs
     ·split
      ·have hi:Inv F node { a with wr:=now }:=⟨h.kn,h.pl,h.pr,h.ac,h.node,h.l,h.m⟩
       exact zcd hi (hs.more (Nat.le_add_right ..)) (ze3 (a:=a) h hm hnb hf hk hc ⟨by decide,by decide⟩)
      ·try rw [if_pos k1]
       have hi:=h.lw (m:=m) (p:=noPt)
       exact zcd ⟨hi.kn,hi.pl,hi.pr,hi.ac,hi.node,hi.l,hi.m⟩ k2 (ze3 hi hm hnb hf hk hc ⟨by decide,by decide⟩)
    ·split
     ·rename_i hc
      have hx:(rll m).right=true:=zdz (p:=noPt) (f:=m.f) (t:=0) (has:=false) ⟨by decide,by decide⟩ hf ⟨by decide,by decide⟩ ⟨by decide,by decide⟩ zdn
      obtain ⟨k1,k2⟩:=zgh hs hx
      unfold zq9
      split
      ·exact zcd ⟨h.kn,h.pl,h.pr,h.ac,h.node,h.l,h.m⟩ (hs.more (Nat.le_add_right ..)) (ze3 (a:=a) h hm hnb hf hk hc ⟨by decide,by decide⟩)
      ·split
       ·exact zce h hs
       ·try rw [if_pos k1]
        have hi:=h.ll (m:=m) (p:=noPt)
        exact zcd ⟨hi.kn,hi.pl,hi.pr,hi.ac,hi.node,hi.l,hi.m⟩ k2 (ze3 hi hm hnb hf hk hc ⟨by decide,by decide⟩)
     ·exact zce h hs
   ·exact zce h hs
end
def Pq.pl (x:Pq):Pm.Pl:=⟨x.e,x.t,x.p,x.s,x.c,x.st,x.si,x.ra,x.up,x.su,x.pen.xs,x.ch.xs⟩
def Mg.ms (x:Mg):Mm.Ms:=⟨x.k,x.f,x.t,x.e,x.b,x.a,x.n,x.ti,x.up,x.co,x.has,x.pl.pl,x.id.xs,x.se.xs,x.pa.xs⟩
def Mg.lo (x:Mg):Lo:=⟨x.pl.pen.A,x.pl.pen.n,x.pl.pen.k,x.pl.ch.A,x.pl.ch.n,x.pl.ch.k,x.id.A,x.id.n,x.id.k,x.se.A,x.se.n,x.se.k,x.pa.A,x.pa.n,x.pa.k⟩
theorem Mg.fits {w:World} {B:Nat} {s:Ks.Sl} (h:s.At .i64 w B):Wm.Fits s.xs:=fun v hv=>Ks.zn5 (h.wf v hv)
theorem Mg.by8 {w:World} {B:Nat} {s:Ks.Sl} (h:s.At .u8 w B):Fm.By s.xs:=fun v hv=>by
 have:=h.wf v hv
 simpa [Lit.wf,IntKind.min,IntKind.max,IntKind.signed,IntKind.bits] using this
theorem Mg.msOk {w:World} {B:Nat} {x:Mg} (h:x.At w B):MsOk x.ms x.lo :=
 ⟨⟨h.k,h.f,h.t,h.e,h.b,h.a,h.n,h.ti,h.up,h.co,⟨h.pl.e,h.pl.t,h.pl.p,h.pl.s,h.pl.c,h.pl.st,h.pl.si,h.pl.ra,h.pl.up,h.pl.su,Mg.fits h.pl.pen,Mg.fits h.pl.ch⟩,Mg.fits h.id,Mg.by8 h.se,Mg.by8 h.pa⟩,
  h.pl.pen.len,h.pl.pen.le,h.pl.pen.max,h.pl.ch.len,h.pl.ch.le,h.pl.ch.max,h.id.len,h.id.le,h.id.max,h.se.len,h.se.le,h.se.max,h.pa.len,h.pa.le,h.pa.max⟩
theorem Mg.rd {w:World} {B:Nat} {x:Mg} (h:x.At w B):∀q∈mfz x.ms x.lo,Rd w B q.1 q.2:=fun q hq=>by
 rcases List.mem_cons.1 hq with rfl|hq
 ·exact h.pl.pen.rd
 ·rcases List.mem_cons.1 hq with rfl|hq
  ·exact h.pl.ch.rd
  ·rcases List.mem_cons.1 hq with rfl|hq
   ·exact h.id.rd
   ·rcases List.mem_cons.1 hq with rfl|hq
    ·exact h.se.rd
    ·rcases List.mem_cons.1 hq with rfl|hq
     ·exact h.pa.rd
     ·cases hq
end Go.Proofs.YtponpgcpmlcdpaaGreatDoor

namespace Go.Proofs.YtponpgcpmlcdpaaGreatDoor
open Go.RowKit Go.Shelf Km Kx Kc Kt
set_option linter.unusedVariables false
set_option linter.unusedSimpArgs false
theorem zqj (A:Option Addr):zfa (zc8 A 50 1000 20 40 5) [1,0]:=by
 refine ⟨?_,?_,?_,?_,?_,?_,?_,?_,?_,?_,?_,?_,?_,?_,?_,?_,?_,?_,?_,?_,?_,?_,?_,?_,?_,?_,?_,?_,?_,?_,?_⟩
 all_goals first|(simp only [zc8];omega)|skip
 intro v hv
 simp only [List.mem_cons,List.not_mem_nil,or_false] at hv
 rcases hv with rfl|rfl<;>decide
theorem pm_ok {k f t e b:Int} {p:Pt} (h:p.Fine) (hk:Pm.I k) (hf:Pm.I f) (ht:Pm.I t) (he:Pm.I e) (hb:Pm.I b):MsOk (pm k f t e b p.x) (loOf p) :=
 ⟨⟨hk,hf,ht,he,hb,I0,I0,I0,U0,I0,h.ok,(fun _ q=>by cases q),Fm.By.nil,Fm.By.nil⟩,h.l1,h.c1,h.m1,h.l2,h.c2,h.m2,rfl,Nat.le_refl _,Nat.zero_le _,rfl,Nat.le_refl _,Nat.zero_le _,rfl,Nat.le_refl _,Nat.zero_le _⟩
theorem pm_in {p:Pt} {F:Fz} (h:Within p.fz F) {k f t e b:Int}:Within (mfz (pm k f t e b p.x) (loOf p)) F:=mk_in (k:=k) (e:=e) (b:=b) (ac:=0) (n:=0) (co:=0) (has:=true) h
theorem zpo {p:Pt} {N:Nat} {F:Fz} (hx:p.x=zp N) (h:(p.A,i64s p.x.pen)∈F):Within p.fz F:=fun q hq=>by
 rcases List.mem_cons.1 hq with rfl|hq
 ·exact .inr h
 ·rcases List.mem_cons.1 hq with rfl|hq
  ·refine .inl ?_
   show i64s p.x.ch=[]
   rw [hx];rfl
  ·cases hq
theorem Within.more {G F F':Fz} (h:Within G F) (hs:∀q∈F,q∈F'):Within G F':=fun q hq=>(h q hq).imp id (hs q)
section
variable {w0 w:World} {ga g:Nat} {a:Ac} {L:List (Nat×List Value)} {r:List Rw} {F:Fz}
theorem znl (h:Bxs w0 w L r F) [hin:InL ga (a.cells g) L]:Calls Tryz.prog 9 #[.pointer (some ⟨ga,0,none⟩)] w fun e w'=>e = .returned (.pointer (some ⟨g,0,none⟩))∧Below w.heap.size w w':=by
 have HB:=Lib.hid (Bxs.start w)
 have HC:Hid (w.cell? ⟨ga,31,none⟩=some (.pointer (some ⟨g,0,none⟩))):=h.cell hin.mem rfl
 clear h
 go_enter Tryz.func9,Tryz.ntmps9
 go_wp2_with (first|((with_reducible refine zah HB ?_);clear HB;intro w_ HB)|((with_reducible refine zae ?_);(first|refine boxa HB rfl ?_|refine boxt HB rfl rfl ?_|refine box1 HB rfl rfl ?_);clear HB;intro b_ w_ HB;refine Kx.fr ?_)|((with_reducible refine zaa ?_);(first|refine ala HB ?_|refine al1 HB ?_);clear HB;intro b_ w_ HB;refine Kx.fr ?_)|((with_reducible refine zab ?_);first|refine Kx.l1 HB rfl rfl ?_|refine Kx.la HB rfl ?_|refine Kx.lo HB rfl HC.out ?_)|((with_reducible refine zac ?_);first|refine l1g HB rfl rfl rfl ?_|refine Kx.lag HB rfl rfl ?_|refine Kx.log HB rfl HC.out rfl ?_)|((with_reducible refine zad ?_);(first|refine stwa HB rfl rfl ?_|refine sta HB rfl rfl ?_|refine Kx.stc HB rfl rfl ?_|refine Kx.stt HB rfl rfl rfl ?_|refine Kx.st1 HB rfl rfl rfl ?_);clear HB;intro w_ HB))
 go_ret
 exact ⟨rfl,HB.out.below⟩
theorem RZero_x (h : Bxs w0 w L r F) (c : Cf) (xs : List Int) (N : Nat) (hF : Within [(c.ta, i64s xs)] F) (hl : xs.length = c.tn) (hc : zfa c xs) (hN : c.targets = (N : Int)) :
  Calls Tryz.prog 17 #[.agg (cf c).toArray] w fun e w'=>∃p:Pt,e = .returned (.agg p.cells.toArray)∧Bxs w0 w' L r ((p.A,i64s p.x.pen)::F)∧p.x=zp N∧p.Fine:=by
 refine (Zero_any c xs N _ w (hF.rd h (List.mem_cons_self ..)) (Nat.le_refl _) hl hc hN).mono ?_
 rintro e w' ⟨A,k,rfl,hb,ho⟩
 have h2:=h.callRow hb ho
 have h3:=(h2.rows _ (List.mem_cons_self ..)).1.le
 exact ⟨⟨zp N,A,N,k,none,0,0⟩,rfl,h2.freeze,rfl,⟨(zjz (by have:=hc.targets.2;omega) none).ok,List.length_replicate ..,h3.1,h3.2,rfl,Nat.le_refl _,Nat.zero_le _⟩⟩
end
end Go.Proofs.YtponpgcpmlcdpaaGreatDoor
