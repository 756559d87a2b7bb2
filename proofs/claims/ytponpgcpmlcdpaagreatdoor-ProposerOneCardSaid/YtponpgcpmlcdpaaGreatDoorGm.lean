import Derived.Test.YtponpgcpmlcdpaaGreatDoorBPm
import Derived.Test.YtponpgcpmlcdpaaGreatDoorDm
namespace Go.Proofs.YtponpgcpmlcdpaaGreatDoor.Gm
open Go
structure Gc where
 n:Nat
 ti:List Int
 dwell:Int
 d:Int
 w:Int
 b:Nat
 hit:Int
 sup:Int
 reu:Int
 half:Int
 first:Int
 step:Int
 stt:Int
structure Gc.Ok (c:Gc):Prop where
 n:1≤c.n∧c.n≤16
 ti:c.ti.length=c.n
 dwell:1≤c.dwell∧c.dwell≤1048576
 d:1≤c.d∧c.d≤1048576
 w:1≤c.w∧c.w≤1048576
 b:1≤c.b∧c.b≤8
 hit:0≤c.hit∧c.hit≤1000000
 sup:1≤c.sup∧c.sup≤1000000
 reu:0≤c.reu∧c.reu < c.sup
 half:1≤c.half∧c.half≤1048576
 first:1≤c.first∧c.first≤100
 step:1≤c.step∧c.step≤100
 stt:1≤c.stt∧c.stt≤1048576
abbrev Pl:=Pm.Pl
def T (n:Int):Prop:=0≤n∧n≤1099511627776
structure Fits (c:Gc) (x:Pl):Prop where
 e:0≤x.e
 t : -1≤x.t∧x.t < c.n
 p : -1≤x.p∧x.p < c.n
 s : -1≤x.s∧x.s < c.n
 per:0≤x.c∧x.c≤100
 st:T x.st
 si:T x.si
 ra:T x.ra
 up:0≤x.up∧x.up < 2 ^ c.n
 su:0≤x.su∧x.su < 2 ^ c.n
 pen:x.pen.length=c.n∧∀v∈x.pen,0≤v∧v≤1000000
 ch:x.ch.length≤c.b∧∀v∈x.ch,T v
 sd:Pm.Sd x.ch
def has (m:Nat) (i:Int):Bool:=decide (0≤i)&&m.testBit i.toNat
def zfj (f:Nat→Bool):Nat→Nat
 |0=>0
 |k+1=>if f k=true then zfj f k ||| 2 ^ k else zfj f k
theorem zfr (f:Nat→Bool) (k b:Nat):(zfj f k).testBit b=(decide (b < k)&&f b):=by
 induction k with
 |zero=>simp [zfj]
 | succ k ih =>
   unfold zfj
   by_cases h:f k=true
   ·rw [if_pos h,Nat.testBit_or,ih,Nat.testBit_two_pow]
    by_cases e:k=b
    ·subst e;simp [h]
    ·rw [decide_eq_false e,Bool.or_false]
     by_cases h2:b < k
     ·rw [decide_eq_true h2,decide_eq_true (show b < k+1 by omega)]
     ·rw [decide_eq_false h2,decide_eq_false (show ¬ b < k+1 by omega)]
   ·rw [if_neg h,ih]
    by_cases e:k=b
    ·subst e;simp [h]
    ·by_cases h2:b < k
     ·rw [decide_eq_true h2,decide_eq_true (show b < k+1 by omega)]
     ·rw [decide_eq_false h2,decide_eq_false (show ¬ b < k+1 by omega)]
theorem zlh {f g:Nat→Bool} {k:Nat} (h:∀b,b < k→f b=g b):zfj f k=zfj g k:=by
 apply Nat.eq_of_testBit_eq
 intro b
 rw [zfr,zfr]
 by_cases hb:b < k
 ·rw [h b hb]
 ·rw [decide_eq_false hb];rfl
theorem zm1 {m k:Nat} (h:m < 2 ^ k):zfj (fun b=>m.testBit b) k=m:=by
 apply Nat.eq_of_testBit_eq
 intro b
 rw [zfr]
 by_cases hb:b < k
 ·rw [decide_eq_true hb,Bool.true_and]
 ·rw [decide_eq_false hb,Bool.false_and,Nat.testBit_lt_two_pow (Nat.lt_of_lt_of_le h (Nat.pow_le_pow_right (by decide) (by omega)))]
def ziv (ti:List Int) (m:Nat):Nat→Int
 |0 => -1
 |k+1=>if m.testBit k=true∧(ziv ti m k < 0∨ti.getD k 0 < ti.getD (ziv ti m k).toNat 0) then (k:Int) else ziv ti m k
def best (c:Gc) (m:Nat):Int:=ziv c.ti m c.n
def clamp (now st:Int):Int:=max (min now 1099511627776) st
def penAt (c:Gc) (p:Pl) (u:Nat) (t:Int) (i:Nat):Int :=
 if p.up.toNat.testBit i=true∧u.testBit i=false then Dm.hit (Dm.left (p.pen.getD i 0) (t - p.st) c.half) c.hit else Dm.left (p.pen.getD i 0) (t - p.st) c.half
def supAt (c:Gc) (p:Pl) (u:Nat) (t:Int) (i:Nat):Bool:=Dm.sup (p.su.toNat.testBit i) (penAt c p u t i) c.sup c.reu
def pens (c:Gc) (p:Pl) (u:Nat) (t:Int):List Int:=(List.range c.n).map (penAt c p u t)
def sups (c:Gc) (p:Pl) (u:Nat) (t:Int):Nat:=zfj (supAt c p u t) c.n
def good (c:Gc) (p:Pl) (u:Nat) (t:Int):Nat:=zfj (fun i=>u.testBit i && !supAt c p u t i) c.n
def to (c:Gc) (p:Pl) (u:Nat) (t:Int):Int:=if good c p u t≠0 then best c (good c p u t) else if u≠0 then best c u else p.t
def May (c:Gc) (p:Pl) (u:Nat) (t:Int):Prop :=
 to c p u t≠p.t∧(p.ch.length=0∨c.d≤t - p.ch.getD (p.ch.length - 1) 0)∧(p.ch.length < c.b∨c.w < t - p.ch.getD (p.ch.length - c.b) 0)∧(has (good c p u t) p.t=false∨c.dwell≤t - p.si)
instance (c:Gc) (p:Pl) (u:Nat) (t:Int):Decidable (May c p u t):=by unfold May;infer_instance
def newCh (c:Gc) (p:Pl) (t:Int):List Int:=p.ch.drop (p.ch.length+1 - c.b)++[t]
def spill (c:Gc) (g:Nat) (i:Int):Int:=best c (zfj (fun j=>g.testBit j&&decide ((j:Int)≠i)) c.n)
def Grows (c:Gc) (p:Pl) (t:Int):Prop:=p.c < 100∧c.stt≤t - p.ra
instance (c:Gc) (p:Pl) (t:Int):Decidable (Grows c p t):=by unfold Grows;infer_instance
def nx (c:Gc) (p:Pl) (u:Nat) (t:Int):Pl :=
 if May c p u t then ⟨p.e+1,to c p u t,p.t,spill c (good c p u t) (to c p u t),if has (good c p u t) p.t=true then c.first else 100,t,t,t,u,sups c p u t,pens c p u t,newCh c p t⟩
 else if Grows c p t then ⟨p.e+1,p.t,p.p,spill c (good c p u t) p.t,min 100 (p.c+c.step),t,p.si,t,u,sups c p u t,pens c p u t,p.ch⟩
 else ⟨p.e+1,p.t,p.p,spill c (good c p u t) p.t,p.c,t,p.si,p.ra,u,sups c p u t,pens c p u t,p.ch⟩
def Same (p q:Pl):Prop:=q.t=p.t∧q.c=p.c∧q.up=p.up∧q.su=p.su∧q.s=p.s
instance (p q:Pl):Decidable (Same p q):=by unfold Same;infer_instance
def next (c:Gc) (p:Pl) (up:Nat) (now:Int):Option Pl :=
 if Same p (nx c p (up % 2 ^ c.n) (clamp now p.st)) then none else some (nx c p (up % 2 ^ c.n) (clamp now p.st))
def zero (c:Gc):Pl:=⟨0,-1,-1,-1,0,0,0,0,0,0,List.replicate c.n 0,[]⟩
theorem zlb {c:Gc} {p:Pl} {u:Nat} {t:Int} (h:May c p u t):nx c p u t=⟨p.e+1,to c p u t,p.t,spill c (good c p u t) (to c p u t),if has (good c p u t) p.t=true then c.first else 100,t,t,t,u,sups c p u t,pens c p u t,newCh c p t⟩:=if_pos h
theorem clamp_at {t st:Int} (h:T t) (h2:st≤t):clamp t st=t:=by unfold T clamp at *;omega
theorem getD_in {l:List Int} {P:Int→Prop} (h:∀v∈l,P v) (h0:P 0) (i:Nat):P (l.getD i 0):=by
 rw [List.getD_eq_getElem?_getD]
 cases hq:l[i]? with
 |none=>exact h0
 |some v=>exact h v (List.mem_of_getElem? hq)
theorem pen_ar {c:Gc} (hc:c.Ok) {p:Pl} (hp:Fits c p) {t:Int} (ht:T t) (hle:p.st≤t) (i:Nat):Dm.Ar (p.pen.getD i 0) (t - p.st) c.half:=by
 have h1:=getD_in (P:=fun v=>0≤v∧v≤1000000) hp.pen.2 (by decide) i
 have h2:=hp.st
 have h3:=hc.half
 unfold T at *
 exact ⟨h1,⟨by omega,by omega⟩,⟨by omega,by omega⟩⟩
structure Inv (c:Gc) (x:Pl):Prop where
 fits:Fits c x
 ch:∀v∈x.ch,v≤x.st
 si:x.si≤x.st
 ra:x.ra≤x.st
 su:∀i,i < c.n→(x.su.toNat.testBit i=true→c.reu < x.pen.getD i 0)∧(x.su.toNat.testBit i=false→x.pen.getD i 0 < c.sup)
end Go.Proofs.YtponpgcpmlcdpaaGreatDoor.Gm
namespace Go.Proofs.YtponpgcpmlcdpaaGreatDoor.Gm
open Go
theorem zqz {dt half:Int} (h:Dm.Ar 0 dt half):Dm.left 0 dt half=0:=by have:=Dm.left_in h;omega
structure Clean (c:Gc) (p:Pl):Prop where
 pen:∀i,p.pen.getD i 0=0
 su:p.su=0
theorem zrw {c:Gc} (hc:c.Ok) {p:Pl} (hp:Inv c p) (hz:Clean c p) {u:Nat} {t:Int} (ht:T t) (hle:p.st≤t) {i:Nat} (hn:c.hit=0∨¬ (p.up.toNat.testBit i=true∧u.testBit i=false)):penAt c p u t i=0:=by
 have ha:=pen_ar hc hp.fits ht hle i
 rw [hz.pen i] at ha
 unfold penAt
 rw [hz.pen i,zqz ha]
 split
 ·rename_i h
  rcases hn with hn|hn
  ·rw [hn];rfl
  ·exact absurd h hn
 ·rfl
theorem zly {c:Gc} (hc:c.Ok) {p:Pl} (hp:Inv c p) (hz:Clean c p) {u:Nat} {t:Int} (ht:T t) (hle:p.st≤t) {i:Nat} (hn:c.hit=0∨¬ (p.up.toNat.testBit i=true∧u.testBit i=false)):supAt c p u t i=false:=by
 have h1:=hc.sup
 have h2:=hc.reu
 unfold supAt Dm.sup
 rw [zrw hc hp hz ht hle hn,if_neg (by omega),if_pos (by omega)]
theorem zpd {c:Gc} (hc:c.Ok) {p:Pl} (hp:Inv c p) (hz:Clean c p) {u:Nat} (hu:u < 2 ^ c.n) {t:Int} (ht:T t) (hle:p.st≤t) (hn:∀i,c.hit=0∨¬ (p.up.toNat.testBit i=true∧u.testBit i=false)):good c p u t=u∧sups c p u t=0:=by
 refine ⟨?_,?_⟩
 ·unfold good
  rw [zlh (g:=fun b=>u.testBit b) fun b _=>by rw [zly hc hp hz ht hle (hn b)];simp]
  exact zm1 hu
 ·apply Nat.eq_of_testBit_eq
  intro b
  rw [sups,zfr,zly hc hp hz ht hle (hn b),Bool.and_false,Nat.zero_testBit]
theorem zjv (ti:List Int) (o:Nat):∀k,ziv ti (2 ^ o) k=if o < k then (o:Int) else -1
 |0=>rfl
 | k + 1 => by
   unfold ziv
   rw [zjv ti o k,Nat.testBit_two_pow]
   by_cases e:o=k
   ·subst e
    rw [decide_eq_true rfl,if_neg (Nat.lt_irrefl _),if_pos ⟨rfl,.inl (by decide)⟩,if_pos (Nat.lt_succ_self _)]
   ·rw [decide_eq_false e,if_neg (by rintro ⟨h,-⟩;cases h)]
    by_cases h:o < k
    ·rw [if_pos h,if_pos (by omega)]
    ·rw [if_neg h,if_neg (by omega)]
theorem leaves {c : Gc} (hc : c.Ok) (h0 : c.hit = 0) {p : Pl} (hp : Inv c p) (hz : Clean c p) (_ht0 : 0 ≤ p.t) {o : Nat} (ho : o < c.n) (hne : (o : Int) ≠ p.t) {t : Int} (ht : p.st + c.d + c.w + 1 ≤ t) (hT : t ≤ 1099511627776) :
  ∃q,next c p (2 ^ o) t=some q∧q.t=o∧q.p=p.t∧q.c=100∧q.st=t:=by
 have hd:=hc.d
 have hw:=hc.w
 have hb:=hc.b
 have hst:=hp.fits.st
 have hu:2 ^ o < 2 ^ c.n:=Nat.pow_lt_pow_right (by decide) ho
 have hTt:T t:=by unfold T at *;omega
 have hle:p.st≤t:=by omega
 obtain ⟨hg,-⟩:=zpd hc hp hz hu hTt hle (fun _ => .inl h0)
 have hto:to c p (2 ^ o) t=o:=by
  unfold to
  rw [hg,if_pos (Nat.ne_of_gt (Nat.two_pow_pos o))]
  show ziv c.ti (2 ^ o) c.n=o
  rw [zjv,if_pos ho]
 have hhas:has (good c p (2 ^ o) t) p.t=false:=by
  rw [hg]
  unfold has
  rw [Nat.testBit_two_pow]
  by_cases h:0≤p.t
  ·rw [decide_eq_false (show ¬ o=p.t.toNat by omega),Bool.and_false]
  ·rw [decide_eq_false h];rfl
 have hlast:∀k,k < p.ch.length→p.ch.getD k 0≤p.st:=fun k hk=>by
  rw [List.getD_eq_getElem?_getD,List.getElem?_eq_getElem hk]
  exact hp.ch _ (List.getElem_mem hk)
 have hm:May c p (2 ^ o) t:=by
  refine ⟨by rw [hto];exact hne,?_,?_,.inl hhas⟩
  ·rcases Nat.eq_zero_or_pos p.ch.length with h|h
   ·exact .inl h
   ·have:=hlast (p.ch.length - 1) (by omega)
    exact .inr (by omega)
  ·rcases Nat.lt_or_ge p.ch.length c.b with h|h
   ·exact .inl h
   ·have:=hlast (p.ch.length - c.b) (by omega)
    exact .inr (by omega)
 refine ⟨nx c p (2 ^ o) t,?_,?_,?_,?_,?_⟩
 ·unfold next
  rw [Nat.mod_eq_of_lt hu,clamp_at hTt hle,if_neg]
  rw [zlb hm]
  intro h
  exact hne (hto▸h.1)
 ·rw [zlb hm];exact hto
 ·rw [zlb hm]
 ·rw [zlb hm]
  dsimp only
  rw [hhas,if_neg (by decide)]
 ·rw [zlb hm]
end Go.Proofs.YtponpgcpmlcdpaaGreatDoor.Gm
namespace Go.Proofs.YtponpgcpmlcdpaaGreatDoor.Gm
open Go
def plain (w hit f s t:Int):Gc:=⟨2,[1,0],10,3,w,3,hit,1500,700,30,f,s,t⟩
def rp (e pc ra:Int):Pl:=⟨e,1,0,0,pc,ra,15,ra,3,0,[0,0],[5,15]⟩
end Go.Proofs.YtponpgcpmlcdpaaGreatDoor.Gm
