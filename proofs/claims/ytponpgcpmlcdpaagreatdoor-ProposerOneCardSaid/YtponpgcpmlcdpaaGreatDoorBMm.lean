import Derived.Test.YtponpgcpmlcdpaaGreatDoorBF
import Derived.Test.YtponpgcpmlcdpaaGreatDoorBPm
namespace Go.Proofs.YtponpgcpmlcdpaaGreatDoor.Mm
open Go.RowKit
structure Ms where
 k:Int
 f:Int
 t:Int
 e:Int
 b:Int
 a:Int
 n:Int
 ti:Int
 up:Int
 co:Int
 has:Bool
 plan:Pm.Pl
 id:List Int
 se:List Int
 pa:List Int
 deriving DecidableEq
structure Ms.Ok (x:Ms):Prop where
 k:Pm.I x.k
 f:Pm.I x.f
 t:Pm.I x.t
 e:Pm.I x.e
 b:Pm.I x.b
 a:Pm.I x.a
 n:Pm.I x.n
 ti:Pm.I x.ti
 up:Pm.U x.up
 co:Pm.I x.co
 plan:x.plan.Ok
 id:Wm.Fits x.id
 se:Fm.By x.se
 pa:Fm.By x.pa
def one (h:Bool):Int:=if h then 1 else 0
def Ms.nums (x:Ms):List Int:=[x.f,x.t,x.e,x.b,x.a,x.n,x.ti,Pm.sg x.up,x.co,one x.has]
theorem zkd (x:Ms):x.nums.length=10:=rfl
theorem one_fit (h:Bool):Pm.I (one h):=by cases h<;>exact ⟨by decide,by decide⟩
theorem Ms.ze1 {x:Ms} (h:x.Ok):Wm.Fits x.nums:=by
 intro n hn
 have h1:=Pm.zp1 h.up
 have h2:=one_fit x.has
 simp only [Ms.nums,List.mem_cons,List.not_mem_nil,or_false] at hn
 rcases hn with rfl|rfl|rfl|rfl|rfl|rfl|rfl|rfl|rfl|rfl
 ·exact h.f
 ·exact h.t
 ·exact h.e
 ·exact h.b
 ·exact h.a
 ·exact h.n
 ·exact h.ti
 ·exact h1
 ·exact h.co
 ·exact h2
noncomputable def Ms.zec (x:Ms):Bool:=if x.has then x.plan.right else Pm.same x.plan Pm.zero
def Nd (n:Int):Prop:=0≤n∧n≤255
def Rt (x:Ms):Prop:=1≤x.k∧x.k≤19∧Nd x.f∧Nd x.t∧x.up≤65535∧0≤x.co∧x.co≤1000∧x.zec=true∧(x.id.length=0∨x.id.length=3)∧x.se.length≤64∧x.pa.length≤1024
noncomputable def Ms.right (x:Ms):Bool:=Pm.ask (Rt x)
theorem zbr {x:Ms}:x.right=true↔Rt x:=⟨fun h=>Classical.byContradiction (fun g=>by rw [Ms.right,Pm.zba g] at h;cases h),fun h=>Pm.zbp h⟩
theorem notB {q:Prop} [Decidable q] (h:decide q = !true):¬ q:=by simpa using h
theorem zih {x:Ms} (h:¬ Rt x):x.right=false:=Pm.zba h
theorem no_k1 {x:Ms} (h:decide (1≤x.k) = !true):x.right=false:=zih fun r=>notB h r.1
theorem no_k2 {x:Ms} (h:decide (x.k≤19) = !true):x.right=false:=zih fun r=>notB h r.2.1
theorem no_f {x:Ms} (h:Pm.ask (Nd x.f) = !true):x.right=false:=zih fun r=>by rw [Pm.zbp r.2.2.1] at h;cases h
theorem no_t {x:Ms} (h:Pm.ask (Nd x.t) = !true):x.right=false:=zih fun r=>by rw [Pm.zbp r.2.2.2.1] at h;cases h
theorem no_up {x:Ms} (hu:Pm.U x.up) (h:(x.up / 65536 == 0) = !true):x.right=false:=zih fun r=>by
 have h1:=r.2.2.2.2.1
 have h2:x.up / 65536≠0:=by simpa using h
 have h3:=hu.1
 omega
theorem no_c1 {x:Ms} (h:decide (0≤x.co) = !true):x.right=false:=zih fun r=>notB h r.2.2.2.2.2.1
theorem no_c2 {x:Ms} (h:decide (x.co≤1000) = !true):x.right=false:=zih fun r=>notB h r.2.2.2.2.2.2.1
theorem no_pr {x:Ms} (h:x.zec = !true):x.right=false:=zih fun r=>by rw [r.2.2.2.2.2.2.2.1] at h;cases h
theorem no_id {x:Ms} (h0:x.id.length≠0) (h3:x.id.length≠3):x.right=false:=zih fun r=>by have:=r.2.2.2.2.2.2.2.2.1;omega
theorem no_se {x:Ms} {n:Nat} (hn:x.se.length=n) (h:decide ((n:Int)≤64) = !true):x.right=false:=zih fun r=>notB h (by have:=r.2.2.2.2.2.2.2.2.2.1;omega)
theorem right_pa {x : Ms} {n m : Nat} (hu : Pm.U x.up) (hn : x.se.length = n) (hm : x.pa.length = m) (a1 : decide (1 ≤ x.k) = true) (a2 : decide (x.k ≤ 19) = true) (a3 : Pm.ask (Nd x.f) = true) (a4 : Pm.ask (Nd x.t) = true) (a5 : (x.up / 65536 == 0) = true)
  (a6:decide (0≤x.co)=true) (a7:decide (x.co≤1000)=true) (a8:x.zec=true) (a9:x.id.length=0∨x.id.length=3) (a10:decide ((n:Int)≤64)=true):x.right=decide ((m:Int)≤1024):=by
 have b5:x.up / 65536=0:=by simpa using a5
 unfold Pm.U at hu
 have yes:∀q,Pm.ask q=true→q:=fun q h=>Classical.byContradiction fun g=>by rw [Pm.zba g] at h;cases h
 have b10:=of_decide_eq_true a10
 by_cases h:(m:Int)≤1024
 ·rw [decide_eq_true h]
  exact zbr.2 ⟨of_decide_eq_true a1,of_decide_eq_true a2,yes _ a3,yes _ a4,by omega,of_decide_eq_true a6,of_decide_eq_true a7,a8,a9,by omega,by omega⟩
 ·rw [decide_eq_false h]
  exact zih fun r=>by have:=r.2.2.2.2.2.2.2.2.2.2;omega
noncomputable def Ms.ptx (x:Ms):List Int:=if x.has then Wm.zbe x.plan.put.1 else []
noncomputable def Ms.body (x:Ms):List Int:=Wm.zat x.nums x.nums.length++(x.ptx++(Wm.zat x.id x.id.length++(Wm.zbe x.se++Wm.zbe x.pa)))
noncomputable def Ms.zhi (x:Ms):Int×List Int×Int:=if x.right=true then (x.k,x.body,0) else (0,[],51)
noncomputable def Ms.put (x:Ms):List Int×Int:=if x.right=true then (Fm.frm x.k x.body,0) else ([],51)
theorem zfy {x:Ms} (h:x.right=true):x.put=(Fm.frm x.k x.body,0):=by unfold Ms.put;rw [if_pos h]
theorem zjf {x:Ms} (h:x.right=false):x.put=([],51):=by unfold Ms.put;rw [if_neg (by rw [h];decide)]
theorem zoc {x:Ms} (h:x.right=true):x.zhi=(x.k,x.body,0):=by unfold Ms.zhi;rw [if_pos h]
theorem zod {x:Ms} (h:x.right=false):x.zhi=(0,[],51):=by unfold Ms.zhi;rw [if_neg (by rw [h];decide)]
theorem ptx_len (x:Ms):x.ptx.length≤2010:=by
 unfold Ms.ptx
 split
 ·have h1:=Wm.zia x.plan.put.1
  have h2:=Pm.zh9 (x:=x.plan)
  omega
 ·exact Nat.zero_le _
theorem ze5 {x:Ms} (h:x.right=true):x.body.length≤8192:=by
 obtain ⟨-,-,-,-,-,-,-,-,hi,hs,hp⟩:=zbr.1 h
 have h1:=Wm.zcq x.nums x.nums.length
 have h2:=Wm.zcq x.id x.id.length
 have h3:=Wm.zia x.se
 have h4:=Wm.zia x.pa
 have h5:=ptx_len x
 have h6:=zkd x
 unfold Ms.body
 simp only [List.length_append]
 omega
theorem ptx_by {x:Ms} (hx:x.Ok):Fm.By x.ptx:=by
 unfold Ms.ptx
 split
 ·exact Wm.zgu (by have:=Pm.zh9 (x:=x.plan);omega) (Pm.put_byte hx.plan)
 ·exact Fm.By.nil
theorem znb {x:Ms} (hx:x.Ok) (h:x.right=true):Fm.By x.body:=by
 obtain ⟨-,-,-,-,-,-,-,-,hi,hs,hp⟩:=zbr.1 h
 exact Fm.By.app (Wm.zd4 (by rw [zkd];decide) (Ms.ze1 hx)) (Fm.By.app (ptx_by hx) (Fm.By.app (Wm.zd4 (by omega) hx.id) (Fm.By.app (Wm.zgu (by omega) hx.se) (Wm.zgu (by omega) hx.pa))))
theorem put_by {x:Ms} (hx:x.Ok):Fm.By x.put.1:=by
 by_cases h:x.right=true
 ·rw [zfy h]
  obtain ⟨h1,h2,-⟩:=zbr.1 h
  exact Fm.zre ⟨by omega,by omega⟩ (znb hx h) (ze5 h)
 ·rw [zjf (by simpa using h)];exact Fm.By.nil
theorem zh9 {x:Ms}:x.put.1.length≤8200:=by
 by_cases h:x.right=true
 ·rw [zfy h]
  have:=ze5 h
  show (Fm.frm x.k x.body).length≤_
  rw [Fm.zds];omega
 ·rw [zjf (by simpa using h)];exact Nat.zero_le _
theorem zho {b s:List Int} {n to:Nat} (h:Wm.zbl b (n:Int)=(s,(to:Int),0)) (hb:Fm.By b):¬ 4096 < s.length∧Fm.By s∧n≤to∧to≤b.length∧b.take n++Wm.zbe s=b.take to:=by
 by_cases he:(Wm.rlen b (n:Int) 4096).2.2=0
 ·obtain ⟨k,m,hl,hrd,hk,_,m1,m2,e2⟩:=Wm.zd1 he hb
  rw [Int.toNat_natCast] at e2
  have hl':Wm.rlen b (n:Int) 4096=((k:Int),((n+m:Nat):Int),0):=by rw [hl];congr 2
  by_cases h2:b.length < n+m+k
  ·rw [Wm.zh6 hl' h2] at h;simp at h
  ·rw [Wm.zhn hl' h2] at h
   injection h with h3 h4
   injection h4 with h4 _
   subst h3
   obtain rfl:to=n+m+k:=by omega
   have hlen:((b.drop (n+m)).take k).length=k:=by rw [List.length_take,List.length_drop];omega
   refine ⟨by omega,(Fm.By.drop hb _).take _,by omega,by omega,?_⟩
   unfold Wm.zbe
   rw [hlen,←e2,←List.append_assoc,Wm.zfp,Wm.zfp]
 ·rw [Wm.zga he] at h
  injection h with _ h4
  injection h4 with _ h4
  exact absurd h4 he
theorem zf9 {b:List Int} {n:Nat} (h:(Wm.zbl b (n:Int)).2.2=0) (hb:Fm.By b):∃(s:List Int) (to:Nat),Wm.zbl b (n:Int)=(s,(to:Int),0):=by
 by_cases he:(Wm.rlen b (n:Int) 4096).2.2=0
 ·obtain ⟨k,m,hl,hrd,hk,_,m1,m2,e2⟩:=Wm.zd1 he hb
  have hl':Wm.rlen b (n:Int) 4096=((k:Int),((n+m:Nat):Int),0):=by rw [hl];congr 2
  by_cases h2:b.length < n+m+k
  ·rw [Wm.zh6 hl' h2] at h;simp at h
  ·rw [Wm.zhn hl' h2]
   exact ⟨_,n+m+k,by congr 2⟩
 ·rw [Wm.zga he] at h;exact absurd h he
def zeros:List Int:=[0,0,0,0,0,0,0,0,0,0]
def rN (b:List Int) (t:Int):List Int×Int×Int :=
 if (Wm.za1 b t).2.2≠0 then (zeros,0,(Wm.za1 b t).2.2) else if (Wm.za1 b t).1.length≠10 then (zeros,0,51) else Wm.za1 b t
noncomputable def rP (b:List Int) (t:Int):Pm.Pl×Int×Int :=
 if (Wm.zbl b t).2.2≠0 then (Pm.zero,0,(Wm.zbl b t).2.2)
 else if (Pm.get (Wm.zbl b t).1).2≠0 then (Pm.zero,0,(Pm.get (Wm.zbl b t).1).2)
 else ((Pm.get (Wm.zbl b t).1).1,(Wm.zbl b t).2.1,0)
def zco {α:Type} (z:α) (s:Int×Int) (r:Int→α×Int×Int):α×Int×Int:=if s.2=0 then r s.1 else (z,s)
theorem znw {b:List Int} {t:Int} (h:(Wm.za1 b t).2.2≠0):rN b t=(zeros,0,(Wm.za1 b t).2.2):=by unfold rN;rw [if_pos h]
theorem znv {b:List Int} {t:Int} (h:(Wm.za1 b t).2.2=0) (h1:(Wm.za1 b t).1.length≠10):rN b t=(zeros,0,51):=by unfold rN;rw [if_neg (by simpa using h),if_pos h1]
theorem zqf {b:List Int} {t:Int} (h:(Wm.za1 b t).2.2=0) (h1:(Wm.za1 b t).1.length=10):rN b t=Wm.za1 b t:=by unfold rN;rw [if_neg (by simpa using h),if_neg (by simpa using h1)]
theorem rP_err {b:List Int} {t:Int} (h:(Wm.zbl b t).2.2≠0):rP b t=(Pm.zero,0,(Wm.zbl b t).2.2):=by unfold rP;rw [if_pos h]
theorem rP_no {b:List Int} {t:Int} (h:(Wm.zbl b t).2.2=0) (h1:(Pm.get (Wm.zbl b t).1).2≠0):rP b t=(Pm.zero,0,(Pm.get (Wm.zbl b t).1).2):=by unfold rP;rw [if_neg (by simpa using h),if_pos h1]
theorem rP_ok {b:List Int} {t:Int} (h:(Wm.zbl b t).2.2=0) (h1:(Pm.get (Wm.zbl b t).1).2=0):rP b t=((Pm.get (Wm.zbl b t).1).1,(Wm.zbl b t).2.1,0):=by unfold rP;rw [if_neg (by simpa using h),if_neg (by simpa using h1)]
theorem rN_len (b:List Int) (t:Int):(rN b t).1.length=10:=by
 by_cases h:(Wm.za1 b t).2.2=0
 ·by_cases h1:(Wm.za1 b t).1.length=10
  ·rw [zqf h h1];exact h1
  ·rw [znv h h1];rfl
 ·rw [znw h];rfl
theorem zcf {α:Type} {z:α} {s:Int×Int} {r:Int→α×Int×Int} (h:s.2=0):zco z s r=r s.1:=if_pos h
theorem zeu {α:Type} {z:α} {s:Int×Int} {r:Int→α×Int×Int} (h:s.2≠0):zco z s r=(z,s):=if_neg h
theorem zgq {α:Type} {z:α} {s:Int×Int} {r:Int→α×Int×Int} (h:(zco z s r).2.2=0):s.2=0:=Classical.byContradiction fun g=>by rw [zeu g] at h;exact g h
noncomputable def s2 (b:List Int):Pm.Pl×Int×Int:=if (rN b 0).1.getD 9 0=1 then zco Pm.zero (rN b 0).2 (rP b) else (Pm.zero,(rN b 0).2)
noncomputable def s3 (b:List Int):List Int×Int×Int:=zco [] (s2 b).2 (Wm.za1 b)
noncomputable def s4 (b:List Int):List Int×Int×Int:=zco [] (s3 b).2 (Wm.zbl b)
noncomputable def s5 (b:List Int):List Int×Int×Int:=zco [] (s4 b).2 (Wm.zbl b)
def msOf (k:Int) (ns:List Int):Ms :=
 ⟨k,ns.getD 0 0,ns.getD 1 0,ns.getD 2 0,ns.getD 3 0,ns.getD 4 0,ns.getD 5 0,ns.getD 6 0,Pm.us (ns.getD 7 0),ns.getD 8 0,decide (ns.getD 9 0=1),Pm.zero,[],[],[]⟩
noncomputable def got (k:Int) (b:List Int):Ms:={ msOf k (rN b 0).1 with plan:=(s2 b).1,id:=(s3 b).1,se:=(s4 b).1,pa:=(s5 b).1 }
def zero:Ms:=⟨0,0,0,0,0,0,0,0,0,0,false,Pm.zero,[],[],[]⟩
def Good (k:Int) (b:List Int):Prop:=(s5 b).2.2=0∧(s5 b).2.1=(b.length:Int)∧(got k b).nums=(rN b 0).1∧(got k b).right=true
noncomputable def of (k:Int) (b:List Int):Ms×Int:=if Pm.ask (Good k b)=true then (got k b,0) else (zero,51)
theorem of_ok {k:Int} {b:List Int} (h:Good k b):of k b=(got k b,0):=by unfold of;rw [if_pos (Pm.zbp h)]
theorem of_no {k:Int} {b:List Int} (h:¬ Good k b):of k b=(zero,51):=by unfold of;rw [if_neg (by rw [Pm.zba h];decide)]
theorem zfh:zero.Ok:=⟨⟨by decide,by decide⟩,⟨by decide,by decide⟩,⟨by decide,by decide⟩,⟨by decide,by decide⟩,⟨by decide,by decide⟩,⟨by decide,by decide⟩,⟨by decide,by decide⟩,⟨by decide,by decide⟩,⟨by decide,by decide⟩,⟨by decide,by decide⟩,
 Pm.zfh,(fun _ h=>absurd h List.not_mem_nil),(fun _ h=>absurd h List.not_mem_nil),(fun _ h=>absurd h List.not_mem_nil)⟩
theorem nums_of {x:Ms} (h:x.Ok):({ msOf x.k x.nums with plan:=x.plan,id:=x.id,se:=x.se,pa:=x.pa }:Ms)=x:=by
 obtain ⟨k,f,t,e,b,a,n,ti,up,co,has,plan,id,se,pa⟩:=x
 have h1:Pm.us (Pm.sg up)=up:=Pm.us_sg h.up
 simp [msOf,Ms.nums,h1]
 cases has<;>simp [one]
theorem of_body {x:Ms} (hx:x.Ok) (h:x.right=true):Good x.k x.body∧got x.k x.body=x:=by
 obtain ⟨-,-,-,-,-,-,-,hpr,hi,hs,hp⟩:=zbr.1 h
 have hB:x.body=Wm.zat x.nums x.nums.length++(x.ptx++(Wm.zat x.id x.id.length++(Wm.zbe x.se++Wm.zbe x.pa))):=rfl
 have e0:=Wm.zen (a:=[]) (l:=x.nums) (r:=x.ptx++(Wm.zat x.id x.id.length++(Wm.zbe x.se++Wm.zbe x.pa))) (by rw [zkd];decide) (Ms.ze1 hx)
 rw [List.nil_append,List.nil_append,←hB] at e0
 have eN:rN x.body 0=(x.nums,((Wm.zat x.nums x.nums.length).length:Int),0):=by
  have e0':Wm.za1 x.body 0=(x.nums,((Wm.zat x.nums x.nums.length).length:Int),0):=e0
  rw [zqf (by rw [e0']) (by rw [e0'];rfl),e0']
 have eP:s2 x.body=(x.plan,((Wm.zat x.nums x.nums.length++x.ptx).length:Int),0):=by
  unfold s2
  rw [eN]
  cases hh:x.has with
  | true =>
    have hr:x.plan.right=true:=by rw [Ms.zec,hh] at hpr;exact hpr
    have ex:x.ptx=Wm.zbe x.plan.put.1:=by unfold Ms.ptx;rw [hh];rfl
    rw [if_pos (by show one x.has=1;rw [hh];rfl),zcf rfl]
    have e1:=Wm.zgt (a:=Wm.zat x.nums x.nums.length) (s:=x.plan.put.1) (r:=Wm.zat x.id x.id.length++(Wm.zbe x.se++Wm.zbe x.pa)) (by have:=Pm.zh9 (x:=x.plan);omega)
    rw [←ex,←hB] at e1
    rw [rP_ok (by rw [e1]) (by rw [e1,Pm.get_put hx.plan hr]),e1,Pm.get_put hx.plan hr]
  | false =>
    have hz:x.plan=Pm.zero:=by
     rw [Ms.zec,hh] at hpr
     exact Classical.byContradiction fun g=>by rw [if_neg (by decide),Pm.same,Pm.zba g] at hpr;cases hpr
    have ex:x.ptx=[]:=by unfold Ms.ptx;rw [hh];rfl
    rw [if_neg (by show ¬ one x.has=1;rw [hh];decide),hz,ex,List.append_nil]
 have e3:s3 x.body=(x.id,((Wm.zat x.nums x.nums.length++x.ptx++Wm.zat x.id x.id.length).length:Int),0):=by
  unfold s3
  rw [eP,zcf rfl]
  have:=Wm.zen (a:=Wm.zat x.nums x.nums.length++x.ptx) (l:=x.id) (r:=Wm.zbe x.se++Wm.zbe x.pa) (by omega) hx.id
  rw [←this,hB]
  simp only [List.append_assoc]
 have e4:s4 x.body=(x.se,((Wm.zat x.nums x.nums.length++x.ptx++Wm.zat x.id x.id.length++Wm.zbe x.se).length:Int),0):=by
  unfold s4
  rw [e3,zcf rfl]
  have:=Wm.zgt (a:=Wm.zat x.nums x.nums.length++x.ptx++Wm.zat x.id x.id.length) (s:=x.se) (r:=Wm.zbe x.pa) (by omega)
  rw [←this,hB]
  simp only [List.append_assoc]
 have e5:s5 x.body=(x.pa,(x.body.length:Int),0):=by
  unfold s5
  rw [e4,zcf rfl]
  have:=Wm.zgt (a:=Wm.zat x.nums x.nums.length++x.ptx++Wm.zat x.id x.id.length++Wm.zbe x.se) (s:=x.pa) (r:=[]) (by omega)
  rw [List.append_nil] at this
  have hB2:Wm.zat x.nums x.nums.length++x.ptx++Wm.zat x.id x.id.length++Wm.zbe x.se++Wm.zbe x.pa=x.body:=by rw [hB];simp only [List.append_assoc]
  rw [hB2] at this
  exact this
 have eg:got x.k x.body=x:=by
  unfold got
  rw [eN,eP,e3,e4,e5]
  exact nums_of hx
 exact ⟨⟨by rw [e5],by rw [e5],by rw [eg,eN],by rw [eg];exact h⟩,eg⟩
theorem of_put {x:Ms} (hx:x.Ok) (h:x.right=true):of x.k x.body=(x,0):=by
 obtain ⟨h1,h2⟩:=of_body hx h
 rw [of_ok h1,h2]
noncomputable def get (b:List Int):Ms×Int :=
 if (Fm.get b 0).2.2.2≠0 then (zero,(Fm.get b 0).2.2.2) else if (Fm.get b 0).2.2.1≠(b.length:Int) then (zero,51) else of (Fm.get b 0).1 (Fm.get b 0).2.1
theorem zm4 {b:List Int} (h:(Fm.get b 0).2.2.2≠0):get b=(zero,(Fm.get b 0).2.2.2):=by unfold get;rw [if_pos h]
noncomputable def same (x y:Ms):Bool:=Pm.ask (x=y)
theorem zqg {x:Pm.Pl}:Pm.same x x=true:=Pm.zbp rfl
theorem nb {α:Type} [BEq α] [LawfulBEq α] {a b:α} (h:(a == b) = !true):¬ a=b:=fun e=>by rw [e] at h;simp at h
theorem nd {q:Prop} [Decidable q] (h:decide q = !true):¬ q:=by simpa using h
end Go.Proofs.YtponpgcpmlcdpaaGreatDoor.Mm
