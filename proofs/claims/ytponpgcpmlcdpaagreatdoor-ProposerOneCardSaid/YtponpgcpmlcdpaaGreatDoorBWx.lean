import Derived.WalkKit
import Derived.Test.YtponpgcpmlcdpaaGreatDoorProg
import Derived.Test.YtponpgcpmlcdpaaGreatDoorBK
import Derived.Lib.Hide
import Derived.WalkSpells
import Derived.WalkLawsBesides
import Derived.Deep.LoopGhost
import Derived.BigQuiet
import Derived.Deep.QuietTactic
import Derived.Lib.SliceRun
set_option maxRecDepth 100000
namespace Go.Proofs.YtponpgcpmlcdpaaGreatDoor.Wm
open Go.RowKit
def fold (n:Int):Int:=if n < 0 then 2 * (-1 - n)+1 else 2 * n
def unfold (u:Int):Int:=if u % 2=1 then -1 - u / 2 else u / 2
theorem fold_neg {n:Int} (h:n < 0):2 * (-1 - n)+1=fold n:=by unfold fold;rw [if_pos h]
theorem fold_pos {n:Int} (h:¬ n < 0):2 * n=fold n:=by unfold fold;rw [if_neg h]
theorem zoo {u:Int} (h:u % 2=1) : -1 - u / 2=unfold u:=by unfold unfold;rw [if_pos h]
theorem zmb {u:Int} (h:¬ u % 2=1):u / 2=unfold u:=by unfold unfold;rw [if_neg h]
theorem zkl {n:Int} (h0 : -9223372036854775808≤n) (h1:n≤9223372036854775807):0≤fold n∧fold n≤18446744073709551615:=by
 unfold fold;split<;>omega
theorem zpu {n:Int} (h0:0≤n) (h1:n≤18446744073709551615) : -9223372036854775808≤unfold n∧unfold n≤9223372036854775807:=by
 unfold unfold;split<;>omega
theorem zma (n:Int):unfold (fold n)=n:=by
 unfold unfold fold;split<;>split<;>omega
theorem zm8 {u:Int} (h:0≤u):fold (unfold u)=u:=by
 unfold unfold fold;split<;>split<;>omega
def digs:Nat→Int→List (Int×Bool)
 |0,u=>[(u,true)]
 |k+1,u=>if u < 128 then [(u,true)] else (u % 128,false)::digs k (u / 128)
def byteOf (x:Int×Bool):Int:=if x.2 then x.1 else IntKind.u8.wrap (x.1+128)
def encF:Nat→Int→List Int
 |0,u=>[u]
 |k+1,u=>if u < 128 then [u] else (u % 128+128)::encF k (u / 128)
theorem zir {j:Nat} {u:Int} (h:u < 128):encF j u=[u]:=by
 cases j with
 |zero=>rfl
 |succ j=>unfold encF;rw [if_pos h]
theorem zlu {j:Nat} {u:Int} (h:¬ u < 128):encF (j+1) u=(u % 128+128)::encF j (u / 128):=by
 rw [encF,if_neg h]
theorem zrk:∀(k:Nat) (u:Int),(digs k u).map byteOf=encF k u:=by
 intro k
 induction k with
 |zero=>intro u;simp [digs,encF,byteOf]
 | succ k ih =>
   intro u
   unfold digs encF
   split
   ·simp [byteOf]
   ·rw [List.map_cons,ih]
    congr 1
    simp only [byteOf]
    rw [if_neg (by simp)]
    exact IntWalk.u8_in _ (by omega)
theorem zqy {u:Int} {j:Nat} (h:u < 128 ^ (j+1+1)):u / 128 < 128 ^ (j+1):=by
 refine Int.ediv_lt_of_lt_mul (by omega) ?_
 rw [Int.pow_succ] at h
 omega
theorem zm2 {u:Int} (h:u≤18446744073709551615):u < 128 ^ (9+1):=by
 have:(128:Int) ^ (9+1)=1180591620717411303424:=by decide
 omega
theorem zro {j:Nat} {u:Int} (h:u < 128):digs j u=[(u,true)]:=by
 cases j with
 |zero=>rfl
 |succ j=>unfold digs;rw [if_pos h]
theorem zrn {j:Nat} {u:Int} (h:¬ u < 128):digs (j+1) u=(u % 128,false)::digs j (u / 128):=by
 rw [digs,if_neg h]
def pint (n:Int):List Int:=encF 9 (fold n)
theorem zqm (n:Int):(digs 9 (fold n)).map byteOf=pint n:=zrk 9 (fold n)
theorem encF_len:∀(k:Nat) (u:Int),1≤(encF k u).length∧(encF k u).length≤k+1:=by
 intro k
 induction k with
 |zero=>intro u;simp [encF]
 | succ k ih =>
   intro u
   unfold encF
   split
   ·simp
   ·have:=ih (u / 128);simp;omega
theorem zfq (n:Int):1≤(pint n).length∧(pint n).length≤10:=encF_len 9 _
theorem zrl:∀(k:Nat) (u:Int),0≤u→u < 128 ^ (k+1)→∀c∈encF k u,0≤c∧c≤255:=by
 intro k
 induction k with
 |zero=>intro u h0 h1 c hc;simp [encF] at hc h1;omega
 | succ k ih =>
   intro u h0 h1 c hc
   unfold encF at hc
   split at hc
   ·simp at hc;omega
   ·rcases List.mem_cons.1 hc with rfl|hc
    ·omega
    ·exact ih (u / 128) (by omega) (zqy h1) c hc
theorem zif {n:Int} (h0 : -9223372036854775808≤n) (h1:n≤9223372036854775807):∀c∈pint n,0≤c∧c≤255 :=
 zrl 9 _ (zkl h0 h1).1 (zm2 (zkl h0 h1).2)
def zbe (xs:List Int):List Int:=pint (xs.length:Int)++xs
def scan:List Int→Nat→Int→Int×Int×Int
 | [],_,_=>(0,0,11)
 | c :: l, i, u =>
   if (i=9∧1 < c)∨(0 < i∧c=0) then (0,0,12)
   else if c < 128 then (u+c * 2 ^ (7 * i),(i:Int)+1,0)
   else scan l (i+1) (u+(c - 128) * 2 ^ (7 * i))
def rd (b:List Int) (t:Int):Int×Int×Int :=
 if t < 0∨b.length < t then (0,0,1)
 else if (scan (b.drop t.toNat) 0 0).2.2=0 then (unfold (scan (b.drop t.toNat) 0 0).1,t+(scan (b.drop t.toNat) 0 0).2.1,0)
 else (0,0,(scan (b.drop t.toNat) 0 0).2.2)
theorem zqe {b:List Int} {t:Int} (h:t < 0∨b.length < t):rd b t=(0,0,1):=by unfold rd;rw [if_pos h]
theorem rd_err {b:List Int} {t e:Int} (h:¬ (t < 0∨b.length < t)) (hs:scan (b.drop t.toNat) 0 0=(0,0,e)) (he:e≠0):rd b t=(0,0,e):=by
 unfold rd;rw [if_neg h,hs,if_neg (by simpa using he)]
theorem rd_ok {b:List Int} {t u k:Int} (h:¬ (t < 0∨b.length < t)) (hs:scan (b.drop t.toNat) 0 0=(u,k,0)):rd b t=(unfold u,t+k,0):=by
 unfold rd;rw [if_neg h,hs,if_pos rfl]
theorem scan_end (i:Nat) (u:Int):scan [] i u=(0,0,11):=rfl
theorem zk2 {c:Int} {l:List Int} {i:Nat} {u:Int} (h:(i=9∧1 < c)∨(0 < i∧c=0)):scan (c::l) i u=(0,0,12):=by
 rw [scan,if_pos h]
theorem zf8 {c:Int} {l:List Int} {i:Nat} {u:Int} (h:¬ ((i=9∧1 < c)∨(0 < i∧c=0))) (hc:c < 128):scan (c::l) i u=(u+c * 2 ^ (7 * i),(i:Int)+1,0):=by
 rw [scan,if_neg h,if_pos hc]
theorem zh2 {c:Int} {l:List Int} {i:Nat} {u:Int} (h:¬ ((i=9∧1 < c)∨(0 < i∧c=0))) (hc:¬ c < 128):scan (c::l) i u=scan l (i+1) (u+(c - 128) * 2 ^ (7 * i)):=by
 rw [scan,if_neg h,if_neg hc]
end Go.Proofs.YtponpgcpmlcdpaaGreatDoor.Wm
namespace Go.Proofs.YtponpgcpmlcdpaaGreatDoor.Wm
open Go.RowKit
theorem pow7 (i:Nat):(2:Int) ^ (7 * (i+1))=2 ^ (7 * i) * 128:=by rw [Nat.mul_add,Int.pow_add];rfl
theorem zj9 (i:Nat):(0:Int) < 2 ^ (7 * i):=Int.pow_pos (by omega)
theorem pow63:(2:Int) ^ (7 * 9)=9223372036854775808:=by decide
theorem split_mul (u p:Int):u % 128 * p+u / 128 * (p * 128)=u * p:=by
 have h:u * p=(u / 128 * 128+u % 128) * p:=by rw [Int.ediv_mul_add_emod]
 rw [h,Int.add_mul,Int.mul_assoc (u / 128),Int.mul_comm 128 p,Int.add_comm]
theorem znz {u:Int} {i:Nat} (h0:0≤u) (hi:0 < i→0 < u) (hb:u * 2 ^ (7 * i)≤18446744073709551615):¬ ((i=9∧1 < u)∨(0 < i∧u=0)):=by
 rintro (⟨rfl,h⟩|⟨h,rfl⟩)
 ·rw [pow63] at hb;omega
 ·exact absurd (hi h) (by omega)
theorem zoq {u p:Int} (hp:0 < p) (hb:u * p≤18446744073709551615):u / 128 * (p * 128)≤18446744073709551615:=by
 have h1:=split_mul u p
 have h2:0≤u % 128 * p:=Int.mul_nonneg (by omega) (by omega)
 omega
theorem lt9 {u:Int} {i:Nat} (h:¬ u < 128) (hi:i≤9) (hb:u * 2 ^ (7 * i)≤18446744073709551615):i≤8:=by
 rcases Nat.lt_or_ge i 9 with h9|h9
 ·omega
 ·obtain rfl:i=9:=by omega
  rw [pow63] at hb
  omega
theorem scan_enc : ∀ (k : Nat) (u : Int) (i : Nat) (acc : Int) (rest : List Int), 0 ≤ u → u < 128 ^ (k + 1) → (0 < i → 0 < u) → u * 2 ^ (7 * i) ≤ 18446744073709551615 → i ≤ 9 →
  scan (encF k u++rest) i acc=(acc+u * 2 ^ (7 * i),(i:Int)+(encF k u).length,0):=by
 intro k
 induction k with
 | zero =>
   intro u i acc rest h0 h1 hi hb _
   have hlt:u < 128:=by simpa using h1
   rw [zir hlt,List.singleton_append,zf8 (znz h0 hi hb) hlt]
   rfl
 | succ k ih =>
   intro u i acc rest h0 h1 hi hb h9
   by_cases hlt:u < 128
   ·rw [zir hlt,List.singleton_append,zf8 (znz h0 hi hb) hlt]
    rfl
   ·have h8:=lt9 hlt h9 hb
    rw [zlu hlt,List.cons_append,zh2 (by omega) (by omega),ih (u / 128) (i+1) _ rest (by omega) (zqy h1) (by intro _;omega) (by rw [pow7];exact zoq (zj9 i) hb) (by omega)]
    have e:=split_mul u (2 ^ (7 * i))
    rw [pow7]
    simp only [Prod.mk.injEq,List.length_cons,and_true]
    refine ⟨?_,by omega⟩
    rw [show u % 128+128 - 128=u % 128 from by omega]
    omega
theorem zql {n : Int} (h0 : -9223372036854775808 ≤ n) (h1 : n ≤ 9223372036854775807) (rest : List Int) :
  scan (pint n++rest) 0 0=(fold n,((pint n).length:Int),0):=by
 have hlo:=zkl h0 h1
 have:=scan_enc 9 (fold n) 0 0 rest hlo.1 (zm2 hlo.2) (by omega) (by simpa using hlo.2) (by omega)
 rw [show pint n=encF 9 (fold n) from rfl,this]
 simp
theorem zmj {n : Int} (h0 : -9223372036854775808 ≤ n) (h1 : n ≤ 9223372036854775807) (ahead rest : List Int) :
  rd (ahead++(pint n++rest)) (ahead.length:Int)=(n,(ahead.length:Int)+(pint n).length,0):=by
 rw [rd_ok (u:=fold n) (k:=((pint n).length:Int)) (by simp;omega) (by rw [Int.toNat_natCast,List.drop_left];exact zql h0 h1 rest),zma]
end Go.Proofs.YtponpgcpmlcdpaaGreatDoor.Wm
namespace Go.Proofs.YtponpgcpmlcdpaaGreatDoor.Wm
open Go.RowKit
theorem ofNat_inj {a b:Int} (ha:0≤a∧a≤255) (hb:0≤b∧b≤255) (h:UInt8.ofNat a.toNat=UInt8.ofNat b.toNat):a=b:=by
 have h1:=congrArg UInt8.toNat h
 simp only [UInt8.toNat_ofNat'] at h1
 omega
theorem ze2:∀ {a b:List Int},(∀x∈a,0≤x∧x≤255)→(∀x∈b,0≤x∧x≤255)→(a.map fun n=>UInt8.ofNat n.toNat)=(b.map fun n=>UInt8.ofNat n.toNat)→a=b:=by
 intro a
 induction a with
 | nil => intro b _ _ h; cases b with
   |nil=>rfl
   |cons y b=>simp at h
 | cons x a ih =>
   intro b ha hb h
   cases b with
   |nil=>simp at h
   | cons y b =>
     rw [List.map_cons,List.map_cons] at h
     injection h with h1 h2
     rw [ofNat_inj (ha x (List.mem_cons_self ..)) (hb y (List.mem_cons_self ..)) h1,ih (fun z hz=>ha z (List.mem_cons_of_mem _ hz)) (fun z hz=>hb z (List.mem_cons_of_mem _ hz)) h2]
theorem zpy {a b:List Int} (ha:∀x∈a,0≤x∧x≤255) (hb:∀x∈b,0≤x∧x≤255):((strOfNums a).toList == (strOfNums b).toList)=decide (a=b):=by
 have e:∀l,(strOfNums l).toList=l.map fun n=>UInt8.ofNat n.toNat:=fun l=>by unfold strOfNums;rw [ByteArray.toList_mk]
 rw [e,e,Bool.eq_iff_iff,beq_iff_eq,decide_eq_true_iff]
 exact ⟨ze2 ha hb,fun h=>by rw [h]⟩
def Fits (l:List Int):Prop:=∀n∈l,-9223372036854775808≤n∧n≤9223372036854775807
theorem zrg {l:List Int} (h:Fits l):∀x∈l.flatMap pint,0≤x∧x≤255:=by
 intro x hx
 obtain ⟨n,hn,hx⟩:=List.mem_flatMap.1 hx
 exact zif (h n hn).1 (h n hn).2 x hx
theorem flat_len:∀(l:List Int),(l.flatMap pint).length≤10 * l.length:=by
 intro l
 induction l with
 |nil=>simp
 |cons n l ih=>rw [List.flatMap_cons,List.length_append,List.length_cons];have:=zfq n;omega
theorem zi7 {l:List Int} {k:Nat} {x:Int} (h:l[k]? = some x):(l.take (k+1)).flatMap pint=(l.take k).flatMap pint++pint x:=by
 rw [List.take_add_one,h]
 simp
def flat (l:List Int):List Int:=l.flatMap pint
theorem zn8:flat []=[]:=rfl
theorem zo8 (l:List Int):flat (l.take 0)=[]:=rfl
theorem flatLen (l:List Int):(flat l).length≤10 * l.length:=flat_len l
theorem flatByte {l:List Int} (h:Fits l):∀x∈flat l,0≤x∧x≤255:=zrg h
theorem flatSucc {l:List Int} {k:Nat} {x:Int} (h:l[k]? = some x):flat (l.take (k+1))=flat (l.take k)++pint x:=zi7 h
end Go.Proofs.YtponpgcpmlcdpaaGreatDoor.Wm
namespace Go.Proofs.YtponpgcpmlcdpaaGreatDoor.Wm
open Go.RowKit
theorem scan_ok : ∀ (l : List Int) (i : Nat) (acc u k : Int), scan l i acc = (u, k, 0) → (∀ c ∈ l, 0 ≤ c ∧ c ≤ 255) → i ≤ 9 →
  ∃(v:Int) (m:Nat),k=(i:Int)+m∧1≤m∧m≤l.length∧i+m≤10∧l.take m=encF (9 - i) v∧0≤v∧v < 128 ^ (10 - i)∧(0 < i→0 < v)∧u=acc+v * 2 ^ (7 * i) ∧
   v * 2 ^ (7 * i)≤18446744073709551615 - (2 ^ (7 * i) - 1):=by
 intro l
 induction l with
 |nil=>intro i acc u k h;rw [scan_end] at h;simp at h
 | cons c l ih =>
   intro i acc u k h hb hi
   have hc:=hb c (List.mem_cons_self ..)
   by_cases hL:(i=9∧1 < c)∨(0 < i∧c=0)
   ·rw [zk2 hL] at h;simp at h
   ·have hp:=zj9 i
    by_cases hlt:c < 128
    ·rw [zf8 hL hlt] at h
     injection h with h1 h2
     injection h2 with h2 h3
     refine ⟨c,1,by omega,by omega,by simp,by omega,by rw [zir hlt];rfl,hc.1,?_,by omega,h1.symm,?_⟩
     ·have : (128 : Int) ^ 1 ≤ 128 ^ (10 - i) := by
       have:(128:Nat) ^ 1≤128 ^ (10 - i):=Nat.pow_le_pow_right (by omega) (by omega)
       exact_mod_cast this
      omega
     ·rcases Nat.lt_or_ge i 9 with h9|h9
      ·have hp2 : (2 : Int) ^ (7 * i) ≤ 2 ^ 56 := by
        have:(2:Nat) ^ (7 * i)≤2 ^ 56:=Nat.pow_le_pow_right (by omega) (by omega)
        exact_mod_cast this
       have:c * 2 ^ (7 * i)≤127 * 2 ^ (7 * i):=Int.mul_le_mul_of_nonneg_right (by omega) (by omega)
       omega
      ·obtain rfl:i=9:=by omega
       have hc1:c=1:=by omega
       subst hc1
       rw [pow63];omega
    ·rw [zh2 hL hlt] at h
     have h8:i≤8:=by omega
     obtain ⟨v,m,e1,m1,m2,m3,e2,v0,v1,v2,e3,v3⟩:=ih (i+1) _ u k h (fun z hz=>hb z (List.mem_cons_of_mem _ hz)) (by omega)
     have vp:=v2 (by omega)
     have hd:(c - 128+128 * v) / 128=v:=by omega
     have hm:(c - 128+128 * v) % 128=c - 128:=by omega
     have hmul:(c - 128+128 * v) * 2 ^ (7 * i)=(c - 128) * 2 ^ (7 * i)+v * 2 ^ (7 * (i+1)):=by
      rw [pow7,Int.add_mul,Int.mul_comm 128 v,Int.mul_assoc,Int.mul_comm 128]
     refine ⟨c - 128+128 * v,m+1,by omega,by omega,by simp;omega,by omega,?_,by omega,?_,by omega,?_,?_⟩
     ·rw [List.take_succ_cons,e2,show 9 - i=(9 - (i+1))+1 from by omega,zlu (u:=c - 128+128 * v) (by omega),hd,hm]
      rw [show c - 128+128=c from by omega]
     ·rw [show 10 - i=(10 - (i+1))+1 from by omega,Int.pow_succ]
      omega
     ·rw [e3,hmul];omega
     ·rw [hmul]
      have hp':=zj9 (i+1)
      have:(c - 128) * 2 ^ (7 * i)≤127 * 2 ^ (7 * i):=Int.mul_le_mul_of_nonneg_right (by omega) (by omega)
      have e:=pow7 i
      omega
theorem rd_some {b : List Int} {t n k : Int} (h : rd b t = (n, k, 0)) (hb : ∀ c ∈ b, 0 ≤ c ∧ c ≤ 255) :
  ∃m:Nat,0≤t∧k=t+m∧1≤m∧t+m≤b.length∧m≤10∧(b.drop t.toNat).take m=pint n ∧ -9223372036854775808≤n∧n≤9223372036854775807:=by
 by_cases ht:t < 0∨b.length < t
 ·rw [zqe ht] at h;simp at h
 ·rcases hs:scan (b.drop t.toNat) 0 0 with ⟨u,k',e⟩
  by_cases he:e=0
  ·subst he
   rw [rd_ok ht hs] at h
   injection h with h1 h2
   injection h2 with h2 _
   obtain ⟨v,m,e1,m1,m2,m3,e2,v0,v1,_,e3,v3⟩:=scan_ok _ 0 0 u k' hs (fun c hc=>hb c (List.mem_of_mem_drop hc)) (by omega)
   have hu:u=v:=by simpa using e3
   subst hu
   rw [List.length_drop] at m2
   have v3':u≤18446744073709551615:=by simpa using v3
   have hr:=zpu v0 v3'
   refine ⟨m,by omega,by omega,m1,by omega,by omega,?_,by omega,by omega⟩
   rw [e2,←h1]
   show encF (9 - 0) u=encF 9 (fold (unfold u))
   rw [zm8 v0]
  ·unfold rd at h
   rw [if_neg ht,hs,if_neg (by simpa using he)] at h
   injection h with _ h2
   injection h2 with _ h3
   exact absurd h3 he
def rlen (b:List Int) (t most:Int):Int×Int×Int :=
 if (rd b t).2.2≠0 then (0,0,(rd b t).2.2)
 else if (rd b t).1 < 0∨most < (rd b t).1 then (0,0,2)
 else ((rd b t).1,(rd b t).2.1,0)
theorem znt {b:List Int} {t most:Int} (h:(rd b t).2.2≠0):rlen b t most=(0,0,(rd b t).2.2):=by unfold rlen;rw [if_pos h]
theorem zk5 {b:List Int} {t most:Int} (h:(rd b t).2.2=0) (h2:(rd b t).1 < 0∨most < (rd b t).1):rlen b t most=(0,0,2):=by unfold rlen;rw [if_neg (by simpa using h),if_pos h2]
theorem zmg {b:List Int} {t most:Int} (h:(rd b t).2.2=0) (h2:¬ ((rd b t).1 < 0∨most < (rd b t).1)):rlen b t most=((rd b t).1,(rd b t).2.1,0):=by unfold rlen;rw [if_neg (by simpa using h),if_neg h2]
theorem zd1 {b : List Int} {t most : Int} (h : (rlen b t most).2.2 = 0) (hb : ∀ c ∈ b, 0 ≤ c ∧ c ≤ 255) :
  ∃n m:Nat,rlen b t most=((n:Int),t+m,0)∧rd b t=((n:Int),t+m,0)∧(n:Int)≤most∧0≤t∧1≤m∧t+m≤b.length∧(b.drop t.toNat).take m=pint n:=by
 by_cases h1:(rd b t).2.2=0
 ·by_cases h2:(rd b t).1 < 0∨most < (rd b t).1
  ·rw [zk5 h1 h2] at h;simp at h
  ·obtain ⟨m,t0,e1,m1,m2,_,e2,_⟩:=rd_some (n:=(rd b t).1) (k:=(rd b t).2.1) (by rw [←h1]) hb
   obtain ⟨n,hn⟩:=Int.eq_ofNat_of_zero_le (show 0≤(rd b t).1 by omega)
   have hrd:rd b t=((n:Int),t+m,0):=by rw [←hn,←e1,←h1]
   refine ⟨n,m,?_,hrd,by omega,t0,m1,m2,by rw [e2,hn]⟩
   rw [zmg h1 h2,hn,e1]
 ·rw [znt h1] at h;exact absurd h h1
def zgd (xs:List Int):List Int×Int:=if 4096 < xs.length then ([],2) else (zbe xs,0)
theorem zml {xs:List Int} (h:4096 < xs.length):zgd xs=([],2):=by unfold zgd;rw [if_pos h]
theorem zgc {xs:List Int} (h:¬ 4096 < xs.length):zgd xs=(zbe xs,0):=by unfold zgd;rw [if_neg h]
def zat (xs:List Int) (k:Nat):List Int:=pint (xs.length:Int)++flat (xs.take k)
theorem zmr {xs:List Int} {k:Nat} {x:Int} (h:xs[k]? = some x):zat xs (k+1)=zat xs k++pint x:=by
 unfold zat;rw [flatSucc h,List.append_assoc]
theorem zmq (xs:List Int):zat xs 0=pint (xs.length:Int):=by unfold zat;rw [zo8,List.append_nil]
theorem zcq (xs:List Int) (k:Nat):(zat xs k).length≤10+10 * k:=by
 unfold zat
 have h1:=zfq (xs.length:Int)
 have h2:=flatLen (xs.take k)
 rw [List.length_take] at h2
 rw [List.length_append]
 omega
def zgf (xs:List Int):List Int×Int:=if 64 < xs.length then ([],2) else (zat xs xs.length,0)
theorem zms {xs:List Int} (h:64 < xs.length):zgf xs=([],2):=by unfold zgf;rw [if_pos h]
theorem zge {xs:List Int} (h:¬ 64 < xs.length):zgf xs=(zat xs xs.length,0):=by unfold zgf;rw [if_neg h]
def zbl (b:List Int) (t:Int):List Int×Int×Int :=
 if (rlen b t 4096).2.2≠0 then ([],0,(rlen b t 4096).2.2)
 else if (b.length:Int) - (rlen b t 4096).2.1 < (rlen b t 4096).1 then ([],0,11)
 else ((b.drop (rlen b t 4096).2.1.toNat).take (rlen b t 4096).1.toNat,(rlen b t 4096).2.1+(rlen b t 4096).1,0)
theorem zga {b:List Int} {t:Int} (h:(rlen b t 4096).2.2≠0):zbl b t=([],0,(rlen b t 4096).2.2):=by unfold zbl;rw [if_pos h]
theorem zh6 {b:List Int} {t:Int} {n f:Nat} (h:rlen b t 4096=((n:Int),(f:Int),0)) (h2:b.length < f+n):zbl b t=([],0,11):=by
 unfold zbl;rw [h,if_neg (by simp),if_pos (by dsimp only;omega)]
theorem zhn {b:List Int} {t:Int} {n f:Nat} (h:rlen b t 4096=((n:Int),(f:Int),0)) (h2:¬ b.length < f+n):zbl b t=((b.drop f).take n,(f:Int)+n,0):=by
 unfold zbl;rw [h,if_neg (by simp),if_neg (by dsimp only;omega)];rfl
end Go.Proofs.YtponpgcpmlcdpaaGreatDoor.Wm
namespace Go.Proofs.YtponpgcpmlcdpaaGreatDoor.Wm
open Go.RowKit
def ze9 (acc:List Int) (r:List Int×Int×Int):List Int×Int×Int:=if r.2.2≠0 then ([],0,r.2.2) else (acc++r.1,r.2.1,0)
def rseq (b:List Int):Nat→Int→List Int×Int×Int
 |0,nx=>([],nx,0)
 |k+1,nx=>if (rd b nx).2.2≠0 then ([],0,(rd b nx).2.2) else ze9 [(rd b nx).1] (rseq b k (rd b nx).2.1)
theorem zfl {acc:List Int} {r:List Int×Int×Int} (h:r.2.2≠0):ze9 acc r=([],0,r.2.2):=by unfold ze9;rw [if_pos h]
theorem zgm {acc:List Int} {r:List Int×Int×Int} (h:r.2.2=0):ze9 acc r=(acc++r.1,r.2.1,0):=by unfold ze9;rw [if_neg (by simpa using h)]
theorem zis (acc acc2:List Int) (r:List Int×Int×Int):ze9 acc (ze9 acc2 r)=ze9 (acc++acc2) r:=by
 by_cases h:r.2.2=0
 ·rw [zgm h,zgm (r:=(acc2++r.1,r.2.1,0)) rfl,zgm h,List.append_assoc]
 ·rw [zfl h,zfl h,zfl (r:=([],0,r.2.2)) h]
theorem zru (b:List Int) (k:Nat) (nx:Int):ze9 [] (rseq b k nx)=rseq b k nx:=by
 cases k with
 |zero=>rfl
 | succ k =>
   unfold rseq
   split
   ·rename_i h;exact zfl (r:=([],0,(rd b nx).2.2)) h
   ·rw [zis];rfl
theorem rseq_err {b:List Int} {k:Nat} {nx:Int} {acc:List Int} (h:(rd b nx).2.2≠0):ze9 acc (rseq b (k+1) nx)=([],0,(rd b nx).2.2):=by
 rw [rseq,if_pos h];unfold ze9;rw [if_pos h]
theorem rseq_ok {b:List Int} {k:Nat} {nx:Int} {acc:List Int} (h:(rd b nx).2.2=0):ze9 acc (rseq b (k+1) nx)=ze9 (acc++[(rd b nx).1]) (rseq b k (rd b nx).2.1):=by
 rw [rseq,if_neg (by simpa using h),zis]
theorem zp3 {b:List Int} {nx:Int} {acc:List Int}:ze9 acc (rseq b 0 nx)=(acc,nx,0):=by
 unfold rseq ze9;rw [if_neg (by simp),List.append_nil]
def za1 (b:List Int) (t:Int):List Int×Int×Int :=
 if (rlen b t 64).2.2≠0 then ([],0,(rlen b t 64).2.2) else rseq b (rlen b t 64).1.toNat (rlen b t 64).2.1
theorem zh7 {b:List Int} {t:Int} (h:(rlen b t 64).2.2≠0):za1 b t=([],0,(rlen b t 64).2.2):=by unfold za1;rw [if_pos h]
theorem zhp {b:List Int} {t:Int} {n f:Nat} (h:rlen b t 64=((n:Int),(f:Int),0)):za1 b t=rseq b n (f:Int):=by
 unfold za1;rw [h,if_neg (by simp)];rfl
theorem zmf (acc:List Int) (k:Nat) (x:Int):(acc++List.replicate (k+1) 0).set acc.length x=(acc++[x])++List.replicate k 0:=by
 rw [List.set_append_right _ _ (Nat.le_refl _),Nat.sub_self,List.replicate_succ,List.set_cons_zero,List.append_assoc]
 rfl
theorem zm5 (acc:List Int) (k:Nat):(acc++List.replicate (k+1) (0:Int))[acc.length]? = some 0:=by
 rw [List.getElem?_append_right (Nat.le_refl _),Nat.sub_self];rfl
end Go.Proofs.YtponpgcpmlcdpaaGreatDoor.Wm
namespace Go.Proofs.YtponpgcpmlcdpaaGreatDoor.Wm
open Go.RowKit
theorem zjb {b:List Int} {t n k most:Int} (h:rd b t=(n,k,0)) (h0:0≤n) (h1:n≤most):rlen b t most=(n,k,0):=by
 rw [zmg (by rw [h]) (by rw [h];dsimp only;omega),h]
theorem zgt {a s r:List Int} (hs:s.length≤4096):zbl (a++(zbe s++r)) (a.length:Int)=(s,((a++zbe s).length:Int),0):=by
 have hrd:rd (a++(zbe s++r)) (a.length:Int)=((s.length:Int),(((a++pint (s.length:Int)).length:Nat):Int),0):=by
  have h:=zmj (n:=(s.length:Int)) (by omega) (by omega) a (s++r)
  unfold zbe
  rw [List.append_assoc,h,List.length_append]
  congr 2
 have hl:=zjb (most:=4096) hrd (by omega) (by omega)
 have hlen:¬ (a++(zbe s++r)).length < (a++pint (s.length:Int)).length+s.length:=by
  unfold zbe
  simp only [List.length_append]
  omega
 rw [zhn hl hlen]
 have e:a++(zbe s++r)=(a++pint (s.length:Int))++(s++r):=by unfold zbe;simp only [List.append_assoc]
 rw [e,List.drop_left,List.take_left]
 have e9:(((a++pint (s.length:Int)).length:Nat):Int)+(s.length:Int)=((a++zbe s).length:Int):=by
  unfold zbe
  simp only [List.length_append]
  omega
 rw [e9]
theorem zp4:∀(m a r:List Int),Fits m→rseq (a++(flat m++r)) m.length (a.length:Int)=(m,((a++flat m).length:Int),0):=by
 intro m
 induction m with
 |nil=>intro a r _;show ([],(a.length:Int),0)=_;rw [zn8,List.append_nil]
 | cons x m ih =>
   intro a r hf
   have hx:=hf x (List.mem_cons_self ..)
   have e:flat (x::m)=pint x++flat m:=by unfold flat;rw [List.flatMap_cons]
   have e2:a++(flat (x::m)++r)=a++(pint x++(flat m++r)):=by rw [e,List.append_assoc]
   have hrd:=zmj hx.1 hx.2 a (flat m++r)
   have h3:=ih (a++pint x) r (fun z hz=>hf z (List.mem_cons_of_mem _ hz))
   rw [e2,List.length_cons,rseq,hrd,if_neg (by simp)]
   dsimp only
   rw [show (a.length:Int)+(pint x).length=((a++pint x).length:Int) from by rw [List.length_append];omega]
   rw [show a++(pint x++(flat m++r))=(a++pint x)++(flat m++r) from by rw [List.append_assoc],h3]
   rw [zgm (r:=(m,_,0)) rfl,e,List.append_assoc]
   rfl
theorem zen {a l r:List Int} (hl:l.length≤64) (hf:Fits l):za1 (a++(zat l l.length++r)) (a.length:Int)=(l,((a++zat l l.length).length:Int),0):=by
 have eU:zat l l.length=pint (l.length:Int)++flat l:=by unfold zat;rw [List.take_of_length_le (Nat.le_refl _)]
 have hrd:rd (a++(zat l l.length++r)) (a.length:Int)=((l.length:Int),(((a++pint (l.length:Int)).length:Nat):Int),0):=by
  have h:=zmj (n:=(l.length:Int)) (by omega) (by omega) a (flat l++r)
  rw [eU,List.append_assoc,h,List.length_append]
  congr 2
 have hrl:=zjb (most:=64) hrd (by omega) (by omega)
 rw [zhp hrl]
 have e:a++(zat l l.length++r)=(a++pint (l.length:Int))++(flat l++r):=by rw [eU];simp only [List.append_assoc]
 rw [e,zp4 l _ r hf,eU,List.append_assoc]
theorem zd4 {l:List Int} (hl:l.length≤64) (hf:Fits l):∀c∈zat l l.length,0≤c∧c≤255:=by
 intro c hc
 unfold zat at hc
 rw [List.take_of_length_le (Nat.le_refl _)] at hc
 rcases List.mem_append.1 hc with h|h
 ·exact zif (by omega) (by omega) c h
 ·exact flatByte hf c h
theorem zgu {s:List Int} (hl:s.length≤4096) (hf:∀c∈s,0≤c∧c≤255):∀c∈zbe s,0≤c∧c≤255:=by
 intro c hc
 unfold zbe at hc
 rcases List.mem_append.1 hc with h|h
 ·exact zif (by omega) (by omega) c h
 ·exact hf c h
theorem zia (s:List Int):(zbe s).length≤10+s.length:=by
 unfold zbe
 have:=zfq (s.length:Int)
 rw [List.length_append];omega
end Go.Proofs.YtponpgcpmlcdpaaGreatDoor.Wm
namespace Go.Proofs.YtponpgcpmlcdpaaGreatDoor.Wm
open Go.RowKit
theorem zfp {α:Type _} (b:List α) (p m:Nat):b.take p++(b.drop p).take m=b.take (p+m):=by
 rw [List.take_add]
theorem znr {b : List Int} (hb : ∀ c ∈ b, 0 ≤ c ∧ c ≤ 255) : ∀ (k p : Nat), p ≤ b.length → (rseq b k (p : Int)).2.2 = 0 →
  ∃(l:List Int) (to:Nat),rseq b k (p:Int)=(l,(to:Int),0)∧l.length=k∧Fits l∧to≤b.length∧b.take p++flat l=b.take to:=by
 intro k
 induction k with
 |zero=>intro p hp _;exact ⟨[],p,rfl,rfl,(fun _ h=>absurd h List.not_mem_nil),hp,by rw [zn8,List.append_nil]⟩
 | succ k ih =>
   intro p hp h
   by_cases h1:(rd b (p:Int)).2.2=0
   ·obtain ⟨m,_,e1,m1,m2,_,e2,n0,n1⟩:=rd_some (n:=(rd b (p:Int)).1) (k:=(rd b (p:Int)).2.1) (by rw [←h1]) hb
    rw [Int.toNat_natCast] at e2
    have e1':(rd b (p:Int)).2.1=((p+m:Nat):Int):=by rw [e1];omega
    have hs:rseq b (k+1) (p:Int)=ze9 [(rd b (p:Int)).1] (rseq b k ((p+m:Nat):Int)):=by
     rw [rseq,if_neg (by simpa using h1),e1']
    rw [hs] at h ⊢
    by_cases h3:(rseq b k ((p+m:Nat):Int)).2.2=0
    ·obtain ⟨l,to,e3,hl,hf,hto,e4⟩:=ih (p+m) (by omega) h3
     refine ⟨(rd b (p:Int)).1::l,to,?_,by rw [List.length_cons,hl],?_,hto,?_⟩
     ·rw [zgm h3,e3];rfl
     ·intro z hz
      rcases List.mem_cons.1 hz with rfl|hz
      ·exact ⟨n0,n1⟩
      ·exact hf z hz
     ·have e:flat ((rd b (p:Int)).1::l)=pint (rd b (p:Int)).1++flat l:=by unfold flat;rw [List.flatMap_cons]
      rw [e,←e2,←List.append_assoc,zfp,e4]
    ·rw [zfl h3] at h;exact absurd h h3
   ·rw [rseq,if_pos h1] at h;exact absurd h h1
end Go.Proofs.YtponpgcpmlcdpaaGreatDoor.Wm

namespace Go.Proofs.YtponpgcpmlcdpaaGreatDoor
open Go.RowKit Go.Shelf
attribute [local go_sem] Oper.semAt_some
theorem zp6 {a b:Int} (h:a=b):Ending.returned (.int .u64 a) = .returned (.int .u64 b):=by rw [h]
theorem zp7 {a b:Int} (h:a=b):Ending.returned (.int .i64 a) = .returned (.int .i64 b):=by rw [h]
set_option maxHeartbeats 400000 in
theorem fold_any (n : Int) (w : World) (h0 : -9223372036854775808 ≤ n) (h1 : n ≤ 9223372036854775807) :
  Calls Tryz.prog 134 #[.int .i64 n] w fun e w'=>e = .returned (.int .u64 (Wm.fold n))∧w=w':=by
 by_cases hn:n < 0
 ·go_enter Tryz.func134,Tryz.ntmps134
  go_wp2
  go_ret
  exact ⟨zp6 (Wm.fold_neg hn),rfl⟩
 ·go_enter Tryz.func134,Tryz.ntmps134
  go_wp2
  go_ret
  exact ⟨zp6 (Wm.fold_pos (by omega)),rfl⟩
set_option maxHeartbeats 400000 in
theorem zgp (u : Int) (w : World) (h0 : 0 ≤ u) (h1 : u ≤ 18446744073709551615) :
  Calls Tryz.prog 110 #[.int .u64 u] w fun e w'=>e = .returned (.int .i64 (Wm.unfold u))∧w=w':=by
 by_cases hn:u % 2=1
 ·go_enter Tryz.func110,Tryz.ntmps110
  go_wp2
  go_ret
  exact ⟨zp7 (Wm.zoo hn),rfl⟩
 ·go_enter Tryz.func110,Tryz.ntmps110
  go_wp2
  go_ret
  exact ⟨zp7 (Wm.zmb hn),rfl⟩
set_option maxHeartbeats 1000000 in
theorem zrp (F : Fence) (n : Nat) (hF : F.fn 133) (hro : F.round = none) (u : Int) (w : World) :
  CallsIn F n Tryz.prog 133 #[.int .u64 u] w fun e w'=>e = .returned (.func (.func 136) #[] #[.pointer (some ⟨w.heap.size,0,none⟩)])∧w'=w.alloc (.cells #[.int .u64 u] 32):=by
 refine callsIn_of_wp Tryz.func133 rfl hF ?_ hro
 simp only [Tryz.ntmps133,List.size_toArray,List.length_cons,List.length_nil,Nat.reduceAdd,Nat.reduceSub,Array.replicate_succ,Array.replicate_zero,List.push_toArray,List.append_toArray,List.nil_append,List.cons_append]
 gi_wp2
 go_ret
 exact ⟨rfl,rfl⟩
def boxMv (Bu:Nat) (A B:World):Prop:=∃v,B=A.setCell ⟨Bu,0,none⟩ (.int .u64 v)
def boxKp (Bu:Nat) (A B:World):Prop:=∀u,Boxed A Bu 32 u→Boxed B Bu 32 u
def zr0 (Bu:Nat) (W:World):Nat:=match W.cell? ⟨Bu,0,none⟩ with|some v=>(intOf v).toNat|none=>0
theorem zl1 {Bu:Nat} {W:World} {u:Int} (h:Boxed W Bu 32 (.int .u64 u)):zr0 Bu W=u.toNat:=by
 unfold zr0;rw [h.cell];rfl
set_option maxHeartbeats 1000000 in
theorem zpc (F : Fence) (n : Nat) (hF : F.fn 136) (hro : F.round = none) (hn : 1 ≤ n) (l Bu : Nat) (J Jx : List (Int × Bool) → World → Prop)
  (hJM:∀s A B,J s A→boxMv Bu A B→J s B)
  (hY : ∀ pre x A, J pre A → pre.length < 10 → YieldAt F (n - 1) Tryz.prog l #[.int .u8 x.1, .bool x.2] A fun e B =>
    (e = .returned (.bool true)∧J (pre++[x]) B∧boxKp Bu A B)∨(e = .returned (.bool false)∧Jx (pre++[x]) B))
  (u:Int) (W:World) (h0:0≤u) (h1:u≤18446744073709551615) (hB:Boxed W Bu 32 (.int .u64 u)) (hJ:J [] W) :
  CallsIn F n Tryz.prog 136 #[.func (.yield l) #[] #[],.pointer (some ⟨Bu,0,none⟩)] W fun e W'=>(∃v,e = .returned v) ∧
   ((∃ys,ys=Wm.digs 9 u∧J ys W')∨(∃ys,True∧Jx ys W')):=by
 refine callsIn_of_wp Tryz.func136 rfl hF ?_ hro
 simp only [Tryz.ntmps136,List.size_toArray,List.length_cons,List.length_nil,Nat.reduceAdd,Nat.reduceSub,Array.replicate_succ,Array.replicate_zero,List.push_toArray,List.append_toArray,List.nil_append,List.cons_append]
 have HP:=Lib.hid (Wm.zm2 h1)
 gi_wp2
 gi_loopw [] (fun wr=>∃(pre:List (Int×Bool)) (j:Nat) (v:Int),Hid (Wm.digs 9 u=pre++Wm.digs j v)∧0≤v∧v≤18446744073709551615∧Hid (v < 128 ^ (j+1))∧pre.length+j≤9∧Boxed wr Bu 32 (.int .u64 v)∧J pre wr)
  (fun wr=>zr0 Bu wr)
 case atStart =>
  exact ⟨[],9,u,Lib.hid rfl,h0,h1,HP,by simp,hB,hJ⟩
 case round =>
  obtain ⟨pre,j,v,hE,hv0,hv1,hP,hpj,hBx,hJs⟩:=hrel
  have hc:=hBx.cell
  have hf:=hBx.frozen
  by_cases hlt:v < 128
  ·obtain ⟨fn,tmps,assign,body,hy,hR⟩:=hY pre (v,true) wr hJs (by omega)
   dsimp only at hy
   gi_wp2
   refine hR.mono ?_
   rintro e W3 (⟨rfl,hJ3,hk3⟩|⟨rfl,hJx3⟩)
   ·gi_wp2
    go_end0
    exact ⟨⟨_,rfl⟩,.inl ⟨_,rfl,by rw [hE.out,Wm.zro hlt];exact hJ3⟩⟩
   ·gi_wp2
    go_end0
    exact ⟨⟨_,rfl⟩,.inr ⟨_,trivial,hJx3⟩⟩
  ·obtain ⟨fn,tmps,assign,body,hy,hR⟩:=hY pre (v % 128,false) wr hJs (by omega)
   dsimp only at hy
   gi_wp2
   refine hR.mono ?_
   rintro e W3 (⟨rfl,hJ3,hk3⟩|⟨rfl,hJx3⟩)
   ·have hB3:=hk3 _ hBx
    have hc3:=hB3.cell
    have hf3:=hB3.frozen
    obtain ⟨j,rfl⟩ : ∃i,j=i+1:=by
     cases j with
     |zero=>have:=hP.out;simp at this;omega
     |succ i=>exact ⟨i,rfl⟩
    have hB4:=hB3.set (.int .u64 (v / 128))
    gi_wp2
    go_roundw
    case rel =>
     exact ⟨pre++[(v % 128,false)],j,v / 128,Lib.hid (by rw [hE.out,Wm.zrn (by omega),List.append_assoc];rfl),by omega,by omega,Lib.hid (Wm.zqy hP.out),by simp;omega,hB4,hJM _ _ _ hJ3 ⟨_,rfl⟩⟩
    case measure=>rw [zl1 hB4,zl1 hBx];omega
   ·gi_wp2
    refine bodyPost_ret (results_none rfl _ _ _) rfl ?_
    exact ⟨⟨_,rfl⟩,.inr ⟨_,trivial,hJx3⟩⟩
theorem zpb (F : Fence) (n : Nat) (hF : F.fn 136) (hro : F.round = none) (hn : 1 ≤ n) (Bu : Nat) (u : Int) (w : World) (h0 : 0 ≤ u) (h1 : u ≤ 18446744073709551615)
  (hlt:Bu < w.heap.size) (hB:Boxed w Bu 32 (.int .u64 u)) :
  SeqM F n Tryz.prog 136 #[.pointer (some ⟨Bu,0,none⟩)] (fun x:Int×Bool => #[.int .u8 x.1,.bool x.2]) (boxMv Bu) (boxKp Bu)
   (fun ys=>ys=Wm.digs 9 u) (fun _=>True) 10 w:=fun l J Jx W hW hJM _ hY hJ =>
 zpc F n hF hro hn l Bu J Jx hJM hY u W h0 h1 ((hW.block Bu hlt).trans hB) hJ
set_option maxHeartbeats 2000000 in
theorem zr6 (F : Fence) (n : Nat) (hF : F.fn 130) (hFf : F.fn 134) (hFd : F.fn 133) (hFd1 : F.fn 136) (hro : F.round = none) (hn : 3 ≤ n)
  (k:Int) (w:World) (h0 : -9223372036854775808≤k) (h1:k≤9223372036854775807) (hfold:CallsIn F (n - 1) Tryz.prog 134 #[.int .i64 k] (w.alloc (.cells #[.slice none 0 0] 35)) fun e w'=>e = .returned (.int .u64 (Wm.fold k))∧(w.alloc (.cells #[.slice none 0 0] 35))=w') :
  CallsIn F n Tryz.prog 130 #[.int .i64 k] w fun e W'=>∃v,e = .returned v∧W'.ownsRow w.heap.size 5 1 v (Wm.pint k).length ((Wm.pint k).map (Value.int .u8))∧Below w.heap.size w W':=by
 have hn1:1≤n:=by omega
 obtain ⟨i0,hi,hz0,hz1,hz2⟩:=info_parts zci
 refine callsIn_of_wp_marks Tryz.func130 rfl hF ?_ hro
 simp only [Tryz.ntmps130,List.size_toArray,List.length_cons,List.length_nil,Nat.reduceAdd,Nat.reduceSub,Array.replicate_succ,Array.replicate_zero,List.push_toArray,List.append_toArray,List.nil_append,List.cons_append]
 gi_wp2_with (first|(gi_at_call 134;refine hfold.mono ?_;rintro e w' ⟨rfl,rfl⟩)|(gi_at_call 133;refine (zrp F (n - 1) hFd hro _ _).mono ?_;rintro e w' ⟨rfl,rfl⟩))
 have hlo:=Wm.zkl h0 h1
 have bO:=Boxed.new w 35 (.slice none 0 0)
 have bN:=Boxed.new (w.alloc (.cells #[.slice none 0 0] 35)) 32 (.int .u64 (Wm.fold k))
 rw [World.size_alloc] at bN
 have hB0:Below w.heap.size w ((w.alloc (.cells #[.slice none 0 0] 35)).alloc (.cells #[.int .u64 (Wm.fold k)] 32)):=((Below.refl _ w).alloc (Nat.le_refl _) _).alloc (by simp) _
 refine zfv hro hn1 (gf:=136) (lb := #[.pointer (some ⟨w.heap.size+1,0,none⟩)]) rfl hFd1 (enters_of Tryz.func136 (by kernel_rfl) rfl)
  (zpb F (n - 1) hFd1 hro (by omega) (w.heap.size+1) (Wm.fold k) _ hlo.1 hlo.2 (by simp) bN) (Below.refl _ _) (fun _=>rfl)
  (by rintro A B ⟨v, rfl⟩ i o hi ho hc
      exact (KeepsOthers.setCell A ⟨w.heap.size+1,0,none⟩ (.int .u64 v)).same i o ho hc)
  (fun A B C h1 h2 u hu=>h2 u (h1 u hu))
  (by intro A i o o' hi ho hc u hu
      exact hu.kept (grownBy_putObj' A i o') (by simp at hi;intro e;cases e;omega))
  (fun pre W=>(∃v,Boxed W w.heap.size 35 v∧W.ownsRow w.heap.size 5 1 v (pre.map Wm.byteOf).length ((pre.map Wm.byteOf).map (Value.int .u8))∧True)∧((∃u,Boxed W (w.heap.size+1) 32 u)∧Below w.heap.size w W))
  (fun _ _ _=>False)
  (OwnFrom.and (Own.from (holdsRow_own w.heap.size w.heap.size 35 5 1 (fun (pre : List (Int × Bool)) => (pre.map Wm.byteOf).length) (fun pre => (pre.map Wm.byteOf).map (Value.int .u8)) (fun _ _ => True)) _)
    (OwnFrom.and (fun _ A B row hs hg hr => by
      obtain ⟨u,hu⟩:=hs
      exact ⟨u,hu.kept hg (fun e=>by obtain ⟨_,o,ho,hc⟩:=hr _ e.symm;rw [show A.heap[_]? = _ from hu] at ho;cases ho;cases hc)⟩) (ownFrom_below (Nat.le_refl _) (by simp;omega))))
  (fun _ _ _ _ _ hs _ _=>hs)
  (by rintro s A B ⟨⟨v, hv, hr, _⟩, ⟨u, hu⟩, hb⟩ ⟨y, rfl⟩
      have hne:some (w.heap.size+1)≠v.ownBlock:=hu.not_row (by decide) hr
      exact ⟨⟨v,hv.other (by omega) _,hr.kept (grownBy_setCell' A _ _) (.inr hne.symm),trivial⟩,⟨_,hu.set _⟩,hb.setCell (p:=⟨w.heap.size+1,0,none⟩) (by simp) _⟩)
  (fun _ _ _ _ h _=>h)
  ⟨⟨_,bO.alloc _,World.ownsRow_nil _ _ _ _,trivial⟩,⟨_,bN⟩,hB0⟩
  (fun x=>{ tmps := #[.int .i64 k,undef,.slice none 0 0,.pointer (some ⟨w.heap.size,0,none⟩),.int .u8 x.1,.bool x.2,.int .i64 k,.int .u64 (Wm.fold k),.func (.func 136) #[] #[.pointer (some ⟨w.heap.size+1,0,none⟩)],.int .u8 x.1,.bool x.2,undef,undef,undef,undef,undef,undef,undef,undef,undef],defers:=[] }) ?assign ?body ?done ?stop
 case assign =>
  intro l x W K hK
  gi_wp2
  exact hK
 case body =>
  rintro l pre ⟨d,b⟩ W ⟨⟨v,hv,hrow,_⟩,⟨u,hu⟩,hB⟩ hlen
  have hc:=hv.cell
  have hpl:(pre.map Wm.byteOf).length < 10:=by simpa using hlen
  have hne:some (w.heap.size+1)≠v.ownBlock:=hu.not_row (by decide) hrow
  cases b
  ·gi_wp2_with (gi_at_builtin;refine wpListIn_append_own _ rfl _ _ 35 rfl w.heap.size 5 i0 (.int .u8 0) 1 1 Tryz.underlying35 hi hz0 hz1 hz2 rfl (by decide) _ _ _ rfl (hrow.alloc _) ⟨W.heap.size,0,none⟩ 1 1 [.int .u8 (IntKind.u8.wrap (d+128))] rfl rfl (cell_one_new _ _ _) (by simp [Value.oneCell']) (by unfold maxLen;omega) (by omega) (by have:=hB.size;simp;omega) ?_;intro v' w1 hown' hgrow _;obtain ⟨g',cap',rfl⟩:=ownsRow_succ hown';obtain ⟨hv1,hv2,hr2,hk2,hb2⟩:=hv.appended (by decide) hrow hB.size (Nat.le_refl _) hown' hgrow;have hc1:=hv1.cell;have hf1:=hv1.frozen)
   rw [List.length_map] at hv2 hr2 hk2 hb2
   exact ⟨hk2.from _,fun u2 hu2=>((hu2.alloc _).kept hgrow (hu2.not_row (by decide) hrow)).other (by omega) _,⟨⟨_,hv2,by simpa [Wm.byteOf] using hr2,trivial⟩,⟨u,((hu.alloc _).kept hgrow hne).other (by omega) _⟩,hB.trans hb2⟩⟩
  ·gi_wp2_with (gi_at_builtin;refine wpListIn_append_own _ rfl _ _ 35 rfl w.heap.size 5 i0 (.int .u8 0) 1 1 Tryz.underlying35 hi hz0 hz1 hz2 rfl (by decide) _ _ _ rfl (hrow.alloc _) ⟨W.heap.size,0,none⟩ 1 1 [.int .u8 d] rfl rfl (cell_one_new _ _ _) (by simp [Value.oneCell']) (by unfold maxLen;omega) (by omega) (by have:=hB.size;simp;omega) ?_;intro v' w1 hown' hgrow _;obtain ⟨g',cap',rfl⟩:=ownsRow_succ hown';obtain ⟨hv1,hv2,hr2,hk2,hb2⟩:=hv.appended (by decide) hrow hB.size (Nat.le_refl _) hown' hgrow;have hc1:=hv1.cell;have hf1:=hv1.frozen)
   rw [List.length_map] at hv2 hr2 hk2 hb2
   exact ⟨hk2.from _,fun u2 hu2=>((hu2.alloc _).kept hgrow (hu2.not_row (by decide) hrow)).other (by omega) _,⟨⟨_,hv2,by simpa [Wm.byteOf] using hr2,trivial⟩,⟨u,((hu.alloc _).kept hgrow hne).other (by omega) _⟩,hB.trans hb2⟩⟩
 case done =>
  rintro D ys W hD rfl ⟨⟨v,hv,hrow,_⟩,_,hB⟩ hK
  have hc:=hv.cell
  gi_wp2
  refine ⟨by simp,.inl ⟨_,_,rfl,run_takeDeferred hK,?_⟩⟩
  rw [Wm.zqm] at hrow
  exact ⟨_,results_tmp rfl _ _ _,v,rfl,ownsRow_putObj hrow _ hK rfl,hB.trans (belowK_b (w:=w) (Nat.le_refl _) W D _ _ (by simp at hD;omega) hK rfl rfl)⟩
 case stop =>
  rintro D c pre W _ _ h _
  exact h.elim
end Go.Proofs.YtponpgcpmlcdpaaGreatDoor
namespace Go.Proofs.YtponpgcpmlcdpaaGreatDoor
open Go.RowKit Go.Shelf
end Go.Proofs.YtponpgcpmlcdpaaGreatDoor
namespace Go.Proofs.YtponpgcpmlcdpaaGreatDoor
open Go.RowKit Go.Shelf
theorem zj8 {a b c a' b' c' : Int} (h1 : a = a') (h2 : b = b') (h3 : c = c') :
  Ending.returned (.tuple #[.int .i64 a,.int .i64 b,.int .i64 c]) = .returned (.tuple #[.int .i64 a',.int .i64 b',.int .i64 c']):=by rw [h1,h2,h3]
set_option maxHeartbeats 4000000 in
theorem zr8 (A : Option Addr) (n cap B : Nat) (xs : List Int) (t : Int) (w : World) (hx : Rd w B A (u8s xs)) (hn : xs.length = n) (hnc : n ≤ cap) (hcap : cap ≤ maxLen) (hb : ∀ x ∈ xs, 0 ≤ x ∧ x ≤ 255)
  (t0 : -9223372036854775808≤t) (t1:t≤9223372036854775807) :
  Calls Tryz.prog 96 #[.slice A n cap,.int .i64 t] w fun e w' =>
   e = .returned (.tuple #[.int .i64 (Wm.rd xs t).1,.int .i64 (Wm.rd xs t).2.1,.int .i64 (Wm.rd xs t).2.2])∧w=w':=by
 unfold maxLen at hcap
 by_cases ht:t < 0
 ·have HE:=Lib.hid (Wm.zqe (b:=xs) (t:=t) (.inl ht))
  have hd:decide (t < 0)=true:=by simpa using ht
  clear hx hb
  go_enter Tryz.func96,Tryz.ntmps96
  go_wp2
  go_step3
  go_wp2
  try rw [Exit.noGoto_ret]
  go_ret3
  rw [HE.out]
  exact ⟨rfl,rfl⟩
 by_cases ht2:(n:Int) < t
 ·have HE:=Lib.hid (Wm.zqe (b:=xs) (t:=t) (.inr (by omega)))
  have hd:decide (t < 0)=false:=by simpa using ht
  clear hx hb
  go_enter Tryz.func96,Tryz.ntmps96
  go_wp2
  go_step3
  go_wp2
  try rw [Exit.noGoto_ret]
  go_ret3
  rw [HE.out]
  exact ⟨rfl,rfl⟩
 obtain ⟨m,rfl⟩:=Int.eq_ofNat_of_zero_le (show 0≤t by omega)
 obtain ⟨i0,hi,hz0,hz1,hz2⟩:=info_parts zci
 have hsl:=fun W=>zh3 (P:=Tryz.prog) Tryz.underlying35 (zbo hi hz1) A n cap m (by omega) W
 have hd1:decide ((m:Int) < 0)=false:=by simp
 have hr:=hx.cutA (k:=m) (cap:=cap) (by simp;omega)
 generalize hA':cutA A m cap=A' at hsl hr
 clear hA' hi hz0 hz1 hz2
 go_enter Tryz.func96,Tryz.ntmps96
 go_wp2
 go_step3
 go_wp2
 go_step3
 go_wp2
 clear hsl
 go_loop [7,8,9,24] (fun u nx er ix=>∃(g:Nat) (v:Int),g≤n - m∧g≤9∧ix = .int .i64 (g:Int)∧nx = .int .i64 0∧er = .int .i64 11∧u = .int .u64 v∧0≤v∧Hid (v < 2 ^ (7 * g))∧Hid (Wm.scan (xs.drop m) 0 0=Wm.scan (xs.drop (m+g)) g v))
  (fun _ _ _ ix=>n - m - (intOf ix).toNat)
 case atStart =>
  exact ⟨0,0,by omega,by omega,rfl,rfl,rfl,rfl,by omega,Lib.hid (by simp),Lib.hid (by simp)⟩
 case round =>
  obtain ⟨g,v,hg,hg9,rfl,rfl,rfl,rfl,hv0,hV,hS⟩:=hrel
  by_cases hlt:g < n - m
  ·obtain ⟨ad,rfl,hbk,hcell⟩:=hr.get (k:=g) (by simp;omega)
   obtain ⟨c,hc⟩ : ∃c,xs[m+g]? = some c:=⟨xs[m+g],List.getElem?_eq_getElem (by omega)⟩
   have hmem:=hb c (List.mem_of_getElem? hc)
   have hcl:w.cell? (ad.add g)=some (.int .u8 c):=by
    rw [hcell]
    congr 1
    have:xs[m+g]=c:=by rw [List.getElem?_eq_getElem (by omega)] at hc;simpa using hc
    simp [this]
   have HD:Hid (xs.drop (m+g)=c::xs.drop (m+g+1)):=by
    have:xs[m+g]=c:=by rw [List.getElem?_eq_getElem (by omega)] at hc;simpa using hc
    show xs.drop (m+g)=_
    rw [List.drop_eq_getElem_cons (by omega),this]
   clear hcell hc hb hr hx
   by_cases hL:(g=9∧1 < c)∨(0 < g∧c=0)
   ·have HE : Hid (Wm.rd xs (m : Int) = (0, 0, 12)) := by
     refine Wm.rd_err (by omega) ?_ (by omega)
     rw [Int.toNat_natCast,hS.out,HD.out,Wm.zk2 hL]
    rcases hL with ⟨h1,h2⟩|⟨h1,h2⟩
    ·have hb1:((g:Int) == 9)=true:=by rw [beq_iff_eq];omega
     have h1':9≤g:=by omega
     clear h1
     go_wp2
     try rw [Exit.noGoto_ret]
     go_ret3
     rw [HE.out]
     exact ⟨rfl,rfl⟩
    ·have hb3:(c == 0)=true:=by rw [beq_iff_eq];omega
     have hb4:c≤0:=by omega
     clear h2
     by_cases h9:9≤g
     ·have hb1:((g:Int) == 9)=true:=by rw [beq_iff_eq];omega
      go_wp2
      try rw [Exit.noGoto_ret]
      go_ret3
      rw [HE.out]
      exact ⟨rfl,rfl⟩
     ·have hb1:((g:Int) == 9)=false:=by rw [beq_eq_false_iff_ne];omega
      go_wp2
      try rw [Exit.noGoto_ret]
      go_ret3
      rw [HE.out]
      exact ⟨rfl,rfl⟩
   ·by_cases hc:c < 128
    ·obtain ⟨ho,hv1,hv2,_⟩:=Bt.zqo hv0 hV.out hmem.1 hc (by omega)
     generalize hv':v+c * 2 ^ (7 * g)=v' at ho hv1 hv2
     have HE:Hid (Wm.rd xs (m:Int)=(Wm.unfold v',(m:Int)+((g:Int)+1),0)):=by
      refine Wm.rd_ok (by omega) ?_
      rw [Int.toNat_natCast,hS.out,HD.out,Wm.zf8 hL hc,hv']
     clear hv'
     by_cases h9:9≤g
     ·have hb1:((g:Int) == 9)=true:=by rw [beq_iff_eq];omega
      have hb2:c≤1:=by omega
      have hb3:(c == 0)=false:=by rw [beq_eq_false_iff_ne];omega
      clear hL
      go_wp2_with (go_at_call 110;refine (zgp _ _ hv1 hv2).mono ?_;rintro e w' ⟨rfl,rfl⟩)
      try rw [Exit.noGoto_ret]
      go_ret3
      rw [HE.out]
      exact ⟨zj8 rfl (Int.add_assoc _ _ _) rfl,rfl⟩
     ·have hb1:((g:Int) == 9)=false:=by rw [beq_eq_false_iff_ne];omega
      by_cases h3:c≤0
      ·have hb3:(c == 0)=true:=by rw [beq_iff_eq];omega
       have hb4:g≤0:=by omega
       clear hL
       go_wp2_with (go_at_call 110;refine (zgp _ _ hv1 hv2).mono ?_;rintro e w' ⟨rfl,rfl⟩)
       try rw [Exit.noGoto_ret]
       go_ret3
       rw [HE.out]
       exact ⟨zj8 rfl (Int.add_assoc _ _ _) rfl,rfl⟩
      ·have hb3:(c == 0)=false:=by rw [beq_eq_false_iff_ne];omega
       clear hL
       by_cases h0:0 < g
       all_goals
        go_wp2_with (go_at_call 110;refine (zgp _ _ hv1 hv2).mono ?_;rintro e w' ⟨rfl,rfl⟩)
        try rw [Exit.noGoto_ret]
        go_ret3
        rw [HE.out]
        exact ⟨zj8 rfl (Int.add_assoc _ _ _) rfl,rfl⟩
    ·obtain ⟨ho,hv1,hv2,hv3⟩:=Bt.zqo (c:=c - 128) hv0 hV.out (by omega) (by omega) (by omega)
     have HS:=Lib.hid (Wm.zh2 (l:=xs.drop (m+g+1)) (u:=v) hL hc)
     generalize hv':v+(c - 128) * 2 ^ (7 * g)=v' at ho hv1 hv2 hv3 HS
     have HV:=Lib.hid hv3
     have hb1:((g:Int) == 9)=false:=by rw [beq_eq_false_iff_ne];omega
     have hb3:(c == 0)=false:=by rw [beq_eq_false_iff_ne];omega
     have hg8:g≤8:=by omega
     clear hL hv' hv3
     by_cases h0:0 < g
     all_goals
      go_wp2
      go_round
      case rel=>exact ⟨g+1,v',by omega,by omega,by go_num,rfl,rfl,rfl,hv1,HV,Lib.hid (by rw [hS.out,HD.out,HS.out,Nat.add_assoc])⟩
      case measure=>simp [intOf];omega
  ·have hE : Wm.rd xs (m : Int) = (0, 0, 11) := by
    refine Wm.rd_err (by omega) ?_ (by omega)
    rw [Int.toNat_natCast,hS.out,List.drop_of_length_le (by omega)];rfl
   have HE:=Lib.hid hE
   clear hE
   go_wp2
   try rw [Exit.noGoto_ret]
   go_ret3
   rw [HE.out]
   exact ⟨rfl,rfl⟩
end Go.Proofs.YtponpgcpmlcdpaaGreatDoor
namespace Go.Proofs.YtponpgcpmlcdpaaGreatDoor
open Go.RowKit Go.Shelf
end Go.Proofs.YtponpgcpmlcdpaaGreatDoor
namespace Go.Proofs.YtponpgcpmlcdpaaGreatDoor
open Go.RowKit Go.Shelf
theorem zg2 (k : Int) (w : World) (h0 : -9223372036854775808 ≤ k) (h1 : k ≤ 9223372036854775807) :
  Calls Tryz.prog 130 #[.int .i64 k] w fun e W'=>∃v,e = .returned v∧W'.ownsRow w.heap.size 5 1 v (Wm.pint k).length ((Wm.pint k).map (Value.int .u8))∧Below w.heap.size w W' :=
 callsIn_wide.1 (zr6 Fence.wide 3 trivial trivial trivial trivial rfl (by omega) k w h0 h1 (callsIn_wide.2 (fold_any k _ h0 h1)))
end Go.Proofs.YtponpgcpmlcdpaaGreatDoor
namespace Go.Proofs.YtponpgcpmlcdpaaGreatDoor
open Go.RowKit Go.Shelf
abbrev i64s (xs:List Int):List Value:=xs.map (Value.int .i64)
theorem zk0 {α:Type} {l m:List α} {k:Nat} {x:α} (h:l.take k=m.take k) (hx:l[k]? = some x) (hy:m[k]? = some x):l.take (k+1)=m.take (k+1):=by
 rw [List.take_add_one,List.take_add_one,h,hx,hy]
end Go.Proofs.YtponpgcpmlcdpaaGreatDoor
namespace Go.Proofs.YtponpgcpmlcdpaaGreatDoor
open Go.RowKit Go.Shelf
set_option maxHeartbeats 1000000 in
theorem zjk (A : Option Addr) (n cap B : Nat) (xs : List Int) (t most : Int) (w : World) (hx : Rd w B A (u8s xs)) (hn : xs.length = n) (hnc : n ≤ cap) (hcap : cap ≤ maxLen) (hb : ∀ x ∈ xs, 0 ≤ x ∧ x ≤ 255)
  (t0 : -9223372036854775808≤t) (t1:t≤9223372036854775807) :
  Calls Tryz.prog 95 #[.slice A n cap,.int .i64 t,.int .i64 most] w fun e w' =>
   e = .returned (.tuple #[.int .i64 (Wm.rlen xs t most).1,.int .i64 (Wm.rlen xs t most).2.1,.int .i64 (Wm.rlen xs t most).2.2])∧w=w':=by
 have HC:=Lib.hid (zr8 A n cap B xs t w hx hn hnc hcap hb t0 t1)
 by_cases he:(Wm.rd xs t).2.2=0
 ·obtain ⟨m,h0,e1,h1,h2,h3,_,h4,h5⟩:=Wm.rd_some (n:=(Wm.rd xs t).1) (k:=(Wm.rd xs t).2.1) (by rw [←he]) hb
  clear e1
  by_cases hr:(Wm.rd xs t).1 < 0∨most < (Wm.rd xs t).1
  ·have HE:=Lib.hid (Wm.zk5 he hr)
   have HZ:=Lib.hid he
   clear he hx hb
   generalize Wm.rd xs t=q at *
   obtain ⟨q1,q2,q3⟩:=q
   dsimp only at *
   obtain rfl:q3=0:=HZ.out
   by_cases hq:q1 < 0
   all_goals
    go_enter Tryz.func95,Tryz.ntmps95
    go_wp2_with (go_at_call 96;refine HC.out.mono ?_;rintro e w' ⟨rfl,rfl⟩)
    go_ret3
    rw [HE.out]
    exact ⟨rfl,rfl⟩
  ·have HE:=Lib.hid (Wm.zmg he hr)
   have HZ:=Lib.hid he
   clear he hx hb
   generalize Wm.rd xs t=q at *
   obtain ⟨q1,q2,q3⟩:=q
   dsimp only at *
   obtain rfl:q3=0:=HZ.out
   go_enter Tryz.func95,Tryz.ntmps95
   go_wp2_with (go_at_call 96;refine HC.out.mono ?_;rintro e w' ⟨rfl,rfl⟩)
   go_ret3
   rw [HE.out]
   exact ⟨rfl,rfl⟩
 ·have HE:=Lib.hid (Wm.znt (most:=most) he)
  clear hx hb
  generalize Wm.rd xs t=q at *
  obtain ⟨q1,q2,q3⟩:=q
  dsimp only at *
  have hq:(q3 != 0)=true:=by rw [bne_iff_ne];exact he
  clear he
  go_enter Tryz.func95,Tryz.ntmps95
  go_wp2_with (go_at_call 96;refine HC.out.mono ?_;rintro e w' ⟨rfl,rfl⟩)
  go_ret3
  rw [HE.out]
  exact ⟨rfl,rfl⟩
end Go.Proofs.YtponpgcpmlcdpaaGreatDoor

namespace Go.Proofs.YtponpgcpmlcdpaaGreatDoor
open Go.RowKit Go.Shelf
set_option maxHeartbeats 2000000 in
theorem zi0 (A : Option Addr) (n cap B : Nat) (xs : List Int) (w : World) (hx : Rd w B A (i64s xs)) (hn : xs.length = n) (hf : Wm.Fits xs) (hB : B ≤ w.heap.size) :
  Calls Tryz.prog 125 #[.slice A n cap] w fun e w'=>∃v,e = .returned (.tuple #[v,.int .i64 (Wm.zgf xs).2]) ∧
   w'.ownsRow w.heap.size 5 1 v (Wm.zgf xs).1.length (u8s (Wm.zgf xs).1)∧Below w.heap.size w w':=by
 by_cases hm:64 < xs.length
 ·have HE:=Lib.hid (Wm.zms hm)
  have hm':64 < n:=by omega
  clear hx hf
  go_enter Tryz.func125,Tryz.ntmps125
  go_wp2
  go_ret2
  rw [HE.out]
  exact ⟨_,rfl,zcc,Below.refl _ _⟩
 ·have HE:=Lib.hid (Wm.zge hm)
  obtain ⟨i0,hi,hz0,hz1,hz2⟩:=info_parts zci
  have HN:=Lib.hid hn
  have HX:=Lib.hid hx
  have HF:Hid (Wm.Fits xs):=hf
  have hm':n≤64:=by omega
  have HZ:Hid (Wm.zat xs 0=Wm.pint (n:Int)):=by
   show _=_
   rw [Wm.zmq,hn]
  clear hn hx hf hm
  go_enter Tryz.func125,Tryz.ntmps125
  go_wp2_with (go_at_call 130;refine (zg2 _ _ (by omega) (by omega)).mono ?_;rintro e w1 ⟨v,rfl,hown0,hb0⟩)
  go_loopw [4,15] (fun out ix wr=>∃k:Nat,ix = .int .i64 (k:Int)∧k≤n∧wr.ownsRow w.heap.size 5 1 out (Wm.zat xs k).length (u8s (Wm.zat xs k))∧Below w.heap.size w wr)
   (fun _ ix _=>n - (intOf ix).toNat)
  case atStart=>exact ⟨0,rfl,by omega,by rw [HZ.out];exact hown0,hb0⟩
  case round =>
   obtain ⟨k,rfl,hk,hown,hBl⟩:=hrel
   by_cases hlt:k < n
   ·obtain ⟨x,hxk⟩ : ∃x,xs[k]? = some x:=⟨xs[k]'(by have:=HN.out;omega),List.getElem?_eq_getElem _⟩
    have hxb:=HF.out x (List.mem_of_getElem? hxk)
    obtain ⟨ad,rfl,_,hcl⟩:=(HX.out.below (hBl.mono hB)).getU hxk
    have HS:=Lib.hid (Wm.zmr hxk)
    have hfl:=Wm.zcq xs k
    have hpl:=Wm.zfq x
    clear hxk
    go_wp2_with (first|(go_at_call 130;refine (zg2 _ _ hxb.1 hxb.2).mono ?_;rintro e w2 ⟨v,rfl,hown2,hb2⟩;obtain ⟨A2,cap2,rfl,hcp2,hcm2,hrd2⟩:=za4 hown2)|(at_builtin;refine zdd rfl _ _ 35 rfl w.heap.size 5 i0 (.int .u8 0) 1 Tryz.underlying35 hi hz0 hz1 hz2 rfl _ _ _ rfl (own_below hown hb2 (Nat.le_refl _)) w2.heap.size A2 _ cap2 (u8s (Wm.pint x)) rfl (by rw [List.length_map]) hrd2 (zbs _ _) (by unfold maxLen;omega) (by omega) (Nat.le_trans hBl.size hb2.size) ?_;intro v' w3 hown' hgrow _))
    have hB3:=below_app (hBl.trans (hb2.mono hBl.size)) (own_below hown hb2 (Nat.le_refl _)) hgrow (Nat.le_trans hBl.size hb2.size)
    have HO:Hid (w3.ownsRow w.heap.size 5 1 v' (Wm.zat xs (k+1)).length (u8s (Wm.zat xs (k+1)))):=by
     show World.ownsRow _ _ _ _ _ _ _
     rw [HS.out,List.length_append]
     simpa [u8s] using hown'
    go_roundw
    case rel=>exact ⟨k+1,by go_num,by omega,HO.out,hB3⟩
    case measure=>simp [intOf];omega
   ·obtain rfl:k=n:=by omega
    go_wp2
    go_ret2
    rw [HE.out,HN.out]
    exact ⟨_,rfl,hown,hBl⟩
end Go.Proofs.YtponpgcpmlcdpaaGreatDoor
namespace Go.Proofs.YtponpgcpmlcdpaaGreatDoor
open Go.RowKit Go.Shelf
theorem zkj (ys:List Int) (k:Nat) (y:Int):(i64s ys).set k (.int .i64 y)=i64s (ys.set k y):=by simp [i64s,List.map_set]
theorem zki:(Tryz.prog.info? 2).map (fun i=>(i.zero,i.size,i.bytes))=some (some (.int .i64 0),1,8):=by kernel_rfl
theorem zkg (n:Nat):(madeCells (Value.int .i64 0).cells (n * 1)).toList=i64s (List.replicate n 0):=by
 show (madeCells #[Value.int .i64 0] (n * 1)).toList=_
 rw [toList_madeCells_one]
 simp [i64s]
set_option maxHeartbeats 2000000 in
theorem zkx (A : Option Addr) (n cap B : Nat) (xs : List Int) (t : Int) (w : World) (hx : Rd w B A (u8s xs)) (hn : xs.length = n) (hnc : n ≤ cap) (hcap : cap ≤ maxLen) (hB : B ≤ w.heap.size) (hb : ∀ x ∈ xs, 0 ≤ x ∧ x ≤ 255)
  (t0 : -9223372036854775808≤t) (t1:t≤9223372036854775807) :
  Calls Tryz.prog 84 #[.slice A n cap,.int .i64 t] w fun e w'=>∃v,e = .returned (.tuple #[v,.int .i64 (Wm.za1 xs t).2.1,.int .i64 (Wm.za1 xs t).2.2]) ∧
   w'.ownsRow w.heap.size 2 1 v (Wm.za1 xs t).1.length (i64s (Wm.za1 xs t).1)∧Below w.heap.size w w':=by
 have HC:=Lib.hid (zjk A n cap B xs t 64 w hx hn hnc hcap hb t0 t1)
 have hcap':=hcap
 unfold maxLen at hcap'
 by_cases he:(Wm.rlen xs t 64).2.2=0
 ·obtain ⟨k,m,hl,hrd,hk,ht,hm,hle,_⟩:=Wm.zd1 he hb
  obtain ⟨t,rfl⟩:=Int.eq_ofNat_of_zero_le ht
  have hl':Wm.rlen xs (t:Int) 64=((k:Int),((t+m:Nat):Int),0):=by rw [hl];congr 2
  clear he hl hrd ht t0 t1
  obtain ⟨f,hf⟩ : ∃f,t+m=f:=⟨_,rfl⟩
  rw [hf] at hl'
  have hfl:f≤n:=by omega
  rw [hl'] at HC
  have HE:=Lib.hid (Wm.zhp hl')
  clear hf hle hm hl'
  obtain ⟨i0,hi,hz0,hz1,hz2⟩:=info_parts zki
  have HX:=Lib.hid hx
  have HB:=Lib.hid hb
  clear hx hb
  go_enter Tryz.func84,Tryz.ntmps84
  go_wp2_with (first|(go_at_call 95;refine HC.out.mono ?_;rintro e w' ⟨rfl,rfl⟩)|(at_make;go_must (refine wpList_make_full _ rfl _ _ 30 rfl w.heap.size 2 i0 (.int .i64 0) 1 Tryz.underlying30 hi hz0 hz1 .i64 .i64 (k:Int) (k:Int) k rfl rfl rfl rfl (by rw [hz2];omega) (by unfold maxLen;omega) (Nat.le_refl _) ?_);intro w1 hown hgrow))
  rw [zkg] at hown
  have hB1:=(Below.refl w.heap.size w).grown hgrow (Nat.le_refl _) (by simp)
  have HO1:=Lib.hid hown
  clear hown hgrow
  go_loopw [8, 9, 26] (fun nx er ix wr => ∃ (j : Nat) (m : Int) (acc : List Int), ix = .int .i64 (j : Int) ∧ j ≤ k ∧ nx = .int .i64 m ∧ er = .int .i64 0 ∧ 0 ≤ m ∧ m ≤ n ∧ Hid (acc.length = j) ∧
    wr.ownsRow w.heap.size 2 1 (.slice (some ⟨w.heap.size,0,none⟩) k k) k (i64s (acc++List.replicate (k - j) 0))∧Below w.heap.size w wr∧Hid (Wm.rseq xs k (f:Int)=Wm.ze9 acc (Wm.rseq xs (k - j) m)))
   (fun _ _ ix _=>k - (intOf ix).toNat)
  case atStart=>exact ⟨0,(f:Int),[],rfl,by omega,rfl,rfl,by omega,by omega,Lib.hid rfl,HO1.out,hB1,Lib.hid (Wm.zru _ _ _).symm⟩
  case round =>
   obtain ⟨j,m,acc,rfl,hj,rfl,rfl,hm0,hm1,hal,hown,hBw,hS⟩:=hrel
   by_cases hlt:j < k
   ·obtain ⟨d,hd⟩ : ∃d,k - j=d+1:=⟨k - j - 1,by omega⟩
    rw [hd] at hown hS
    have hcl:wr.cell? ⟨w.heap.size,j,none⟩=some (.int .i64 0):=by
     rw [hown.cellAt j (by omega),List.getElem?_map,←hal.out,Wm.zm5];rfl
    have hfz:=hown.frozenAt j
    have HI:=Lib.hid (zr8 A n cap B xs m wr (HX.out.below (hBw.mono hB)) hn hnc hcap HB.out (by omega) (by omega))
    by_cases he:(Wm.rd xs m).2.2=0
    ·obtain ⟨m2,_,e1,_,h3,_,_,_,_⟩:=Wm.rd_some (n:=(Wm.rd xs m).1) (k:=(Wm.rd xs m).2.1) (by rw [←he]) HB.out
     have hnx:0≤(Wm.rd xs m).2.1∧(Wm.rd xs m).2.1≤n:=by omega
     have HS2:=Lib.hid (hS.out.trans (Wm.rseq_ok he))
     have HZ:=Lib.hid he
     clear he hS e1 h3
     generalize Wm.rd xs m=q at *
     obtain ⟨q1,q2,q3⟩:=q
     dsimp only at *
     obtain rfl:q3=0:=HZ.out
     have hst:=hown.stored j (.int .i64 q1)
     rw [zkj,←hal.out,Wm.zmf,hal.out] at hst
     have HST:=Lib.hid hst.1
     have HBS:=Lib.hid (hBw.setCell (p:=⟨w.heap.size,j,none⟩) (Nat.le_refl _) (.int .i64 q1))
     have HDK:Hid (k - (j+1)=d):=by show _=_;omega
     have HAL:Hid ((acc++[q1]).length=j+1):=by
      show _=_
      rw [List.length_append,hal.out];rfl
     clear hst hown hd hBw
     go_wp2_with (go_at_call 96;refine HI.out.mono ?_;rintro e w' ⟨rfl,rfl⟩)
     go_roundw
     case rel=>exact ⟨j+1,q2,acc++[q1],by go_num,by omega,rfl,rfl,hnx.1,hnx.2,HAL,by rw [HDK.out];exact HST.out,HBS.out,Lib.hid (by rw [HDK.out];exact HS2.out)⟩
     case measure=>simp [intOf];omega
    ·have HS2:=Lib.hid (hS.out.trans (Wm.rseq_err he))
     clear hS
     generalize Wm.rd xs m=q at *
     obtain ⟨q1,q2,q3⟩:=q
     dsimp only at *
     have hq:(q3 != 0)=true:=by rw [bne_iff_ne];exact he
     have HBS:=Lib.hid (hBw.setCell (p:=⟨w.heap.size,j,none⟩) (Nat.le_refl _) (.int .i64 q1))
     clear he hd hown hBw
     go_wp2_with (go_at_call 96;refine HI.out.mono ?_;rintro e w' ⟨rfl,rfl⟩)
     go_ret3
     rw [HE.out,HS2.out]
     exact ⟨_,rfl,World.ownsRow_nil _ _ _ _,HBS.out⟩
   ·obtain rfl:j=k:=by omega
    have HS2:Hid (Wm.rseq xs j (f:Int)=(acc,m,0)):=by
     have h:=hS.out
     rw [Nat.sub_self,Wm.zp3] at h
     exact h
    have HO:Hid (wr.ownsRow w.heap.size 2 1 (.slice (some ⟨w.heap.size,0,none⟩) j j) acc.length (i64s acc)):=by
     rw [Nat.sub_self,List.replicate_zero,List.append_nil] at hown
     show World.ownsRow _ _ _ _ _ _ _
     rw [hal.out]
     exact hown
    clear hS hown
    go_wp2
    go_ret3
    rw [HE.out,HS2.out]
    exact ⟨_,rfl,HO.out,hBw⟩
 ·have HE:=Lib.hid (Wm.zh7 he)
  clear hx hb
  generalize Wm.rlen xs t 64=q at *
  obtain ⟨q1,q2,q3⟩:=q
  dsimp only at *
  have hq:(q3 != 0)=true:=by rw [bne_iff_ne];exact he
  clear he
  go_enter Tryz.func84,Tryz.ntmps84
  go_wp2_with (go_at_call 95;refine HC.out.mono ?_;rintro e w' ⟨rfl,rfl⟩)
  go_ret3
  rw [HE.out]
  exact ⟨_,rfl,World.ownsRow_nil _ _ _ _,Below.refl _ _⟩
end Go.Proofs.YtponpgcpmlcdpaaGreatDoor
namespace Go.Proofs.YtponpgcpmlcdpaaGreatDoor
open Go.RowKit Go.Shelf
end Go.Proofs.YtponpgcpmlcdpaaGreatDoor
namespace Go.Proofs.YtponpgcpmlcdpaaGreatDoor
open Go.RowKit Go.Shelf
set_option maxHeartbeats 1000000 in
theorem zl6 (A : Option Addr) (n cap : Nat) (w : World) (hn : 4096 < n) :
  Calls Tryz.prog 127 #[.slice A n cap] w fun e w'=>e = .returned (.tuple #[.slice none 0 0,.int .i64 2])∧w=w':=by
 go_enter Tryz.func127,Tryz.ntmps127
 go_wp2
 go_ret2
 exact ⟨rfl,rfl⟩
set_option maxHeartbeats 1000000 in
theorem znj (A : Option Addr) (n cap B : Nat) (xs : List Int) (w : World) (hx : Rd w B A (u8s xs)) (hn : xs.length = n) (hB : B ≤ w.heap.size) (hle : n ≤ 4096) :
  Calls Tryz.prog 127 #[.slice A n cap] w fun e w'=>∃v,e = .returned (.tuple #[v,.int .i64 0]) ∧
   w'.ownsRow w.heap.size 5 1 v (Wm.zbe xs).length (u8s (Wm.zbe xs))∧Below w.heap.size w w':=by
 obtain ⟨i0,hi,hz0,hz1,hz2⟩:=info_parts zci
 have hpl:=Wm.zfq (n:Int)
 have HN:=Lib.hid hn
 clear hn
 go_enter Tryz.func127,Tryz.ntmps127
 go_wp2_with (first|(go_at_call 130;refine (zg2 _ _ (by omega) (by omega)).mono ?_;rintro e w1 ⟨v,rfl,hrow,hb⟩)|(at_builtin;(refine zdd rfl _ _ 35 rfl w.heap.size 5 i0 (.int .u8 0) 1 Tryz.underlying35 hi hz0 hz1 hz2 rfl _ _ _ rfl hrow B A n cap (u8s xs) rfl (by rw [List.length_map];exact HN.out) (hx.below (hb.mono hB)) (zbs _ _) (by unfold maxLen;omega) (by omega) hb.size ?_);intro v' w2 hown' hgrow _))
 go_ret2
 refine ⟨v',rfl,?_,below_app hb hrow hgrow hb.size⟩
 have e1:(Wm.zbe xs).length=(Wm.pint (n:Int)).length+n:=by unfold Wm.zbe;rw [HN.out,List.length_append,HN.out]
 have e2:u8s (Wm.zbe xs)=u8s (Wm.pint (n:Int))++u8s xs:=by unfold Wm.zbe;rw [HN.out];simp [u8s]
 rw [e1,e2]
 exact hown'
end Go.Proofs.YtponpgcpmlcdpaaGreatDoor
namespace Go.Proofs.YtponpgcpmlcdpaaGreatDoor
open Go.RowKit Go.Shelf
set_option maxHeartbeats 1000000 in
theorem zl8 (ad : Addr) (n cap B : Nat) (xs : List Int) (w : World) (hx : Rd w B (some ad) (u8s xs)) (hn : xs.length = n) (hB : B ≤ w.heap.size) (hle : n ≤ 140737488355328) :
  Calls Tryz.prog 97 #[.slice (some ad) n cap] w fun e w'=>∃v,e = .returned v∧w'.ownsRow w.heap.size 5 1 v xs.length (u8s xs)∧Below w.heap.size w w':=by
 obtain ⟨i0,hi,hz0,hz1,hz2⟩:=info_parts zci
 have hnl:=fun W=>Lib.run_eql_slice_nil (P:=Tryz.prog) W 35 5 (some ad) n cap 0 0 Tryz.underlying35
 have HN:=Lib.hid hn
 have hown:=World.ownsRow_made (base:=w.heap.size) (e:=5) (size:=1) w #[] 0 (Nat.le_refl _) (by unfold maxLen;omega) (by simp)
 clear hn
 go_enter Tryz.func97,Tryz.ntmps97
 go_wp2_with (at_builtin;refine zdd rfl _ _ 35 rfl w.heap.size 5 i0 (.int .u8 0) 1 Tryz.underlying35 hi hz0 hz1 hz2 rfl _ _ _ rfl hown B (some ad) n cap (u8s xs) rfl (by rw [List.length_map];exact HN.out) (hx.alloc hB _) (zbs _ _) (by unfold maxLen;omega) (by omega) (by simp) ?_;intro v' w2 hown' hgrow _)
 go_ret
 refine ⟨v',rfl,?_,below_app ((Below.refl _ w).alloc (Nat.le_refl _) _) hown hgrow (by simp)⟩
 rw [HN.out]
 simpa [u8s] using hown'
end Go.Proofs.YtponpgcpmlcdpaaGreatDoor
namespace Go.Proofs.YtponpgcpmlcdpaaGreatDoor
open Go.RowKit Go.Shelf
set_option maxHeartbeats 2000000 in
theorem zoj (A : Option Addr) (n cap B : Nat) (xs : List Int) (t : Int) (w : World) (hx : Rd w B A (u8s xs)) (hn : xs.length = n) (hnc : n ≤ cap) (hcap : cap ≤ maxLen) (hB : B ≤ w.heap.size) (hb : ∀ x ∈ xs, 0 ≤ x ∧ x ≤ 255)
  (t0 : -9223372036854775808≤t) (t1:t≤9223372036854775807) :
  Calls Tryz.prog 86 #[.slice A n cap,.int .i64 t] w fun e w'=>∃v,e = .returned (.tuple #[v,.int .i64 (Wm.zbl xs t).2.1,.int .i64 (Wm.zbl xs t).2.2]) ∧
   w'.ownsRow w.heap.size 5 1 v (Wm.zbl xs t).1.length (u8s (Wm.zbl xs t).1)∧Below w.heap.size w w':=by
 have HC:=Lib.hid (zjk A n cap B xs t 4096 w hx hn hnc hcap hb t0 t1)
 have hcap':=hcap
 unfold maxLen at hcap'
 by_cases he:(Wm.rlen xs t 4096).2.2=0
 ·obtain ⟨k,m,hl,_,hk,ht,hm,hle,_⟩:=Wm.zd1 he hb
  obtain ⟨t,rfl⟩:=Int.eq_ofNat_of_zero_le ht
  have hl':Wm.rlen xs (t:Int) 4096=((k:Int),((t+m:Nat):Int),0):=by rw [hl];congr 2
  clear he hl ht t0 t1
  obtain ⟨f,hf⟩ : ∃f,t+m=f:=⟨_,rfl⟩
  rw [hf] at hl'
  have hfl:f≤n:=by omega
  rw [hl'] at HC
  have hf1:1≤f:=by omega
  clear hf hle hm
  by_cases hs:xs.length < f+k
  ·have HE:=Lib.hid (Wm.zh6 hl' hs)
   clear hl' hx hb
   go_enter Tryz.func86,Tryz.ntmps86
   go_wp2_with (go_at_call 95;refine HC.out.mono ?_;rintro e w' ⟨rfl,rfl⟩)
   go_ret3
   rw [HE.out]
   exact ⟨_,rfl,zcc,Below.refl _ _⟩
  ·have HE:=Lib.hid (Wm.zhn hl' hs)
   obtain ⟨ad,rfl,_⟩:=hx.getU (i:=0) (x:=xs[0]) (List.getElem?_eq_getElem (by omega))
   obtain ⟨i0,hi,hz0,hz1,hz2⟩:=info_parts zci
   have hsl:=fun W=>zgs (P:=Tryz.prog) Tryz.underlying35 (zbo hi hz1) (some ad) n cap f (f+k) (by omega) (by omega) W
   have hr:=(hx.zrm (k:=f) (cap:=cap) (by omega)).takeU k
   obtain ⟨ad',had⟩:=zlw ad f cap
   rw [had] at hsl hr
   rw [Int.natCast_add,Nat.add_sub_cancel_left] at hsl
   have HR:=Lib.hid hr
   have HL:Hid (((xs.drop f).take k).length=k):=by
    show _=_
    rw [List.length_take,List.length_drop];omega
   have hfk:f+k≤n:=by omega
   clear hl' hx hb had hr hi hz0 hz1 hz2
   go_enter Tryz.func86,Tryz.ntmps86
   go_wp2_with (first|(go_at_call 95;refine HC.out.mono ?_;rintro e w' ⟨rfl,rfl⟩)|(go_at_call 97;refine (zl8 ad' k (cap - f) B _ _ HR.out HL.out hB (by omega)).mono ?_;rintro e w' ⟨v,rfl,hown,hbw⟩))
   go_ret3
   rw [HE.out]
   exact ⟨_,rfl,hown,hbw⟩
 ·have HE:=Lib.hid (Wm.zga he)
  clear hx hb
  generalize Wm.rlen xs t 4096=q at *
  obtain ⟨q1,q2,q3⟩:=q
  dsimp only at *
  have hq:(q3 != 0)=true:=by rw [bne_iff_ne];exact he
  clear he
  go_enter Tryz.func86,Tryz.ntmps86
  go_wp2_with (go_at_call 95;refine HC.out.mono ?_;rintro e w' ⟨rfl,rfl⟩)
  go_ret3
  rw [HE.out]
  exact ⟨_,rfl,zcc,Below.refl _ _⟩
end Go.Proofs.YtponpgcpmlcdpaaGreatDoor
namespace Go.Proofs.YtponpgcpmlcdpaaGreatDoor
open Go.RowKit Go.Shelf
end Go.Proofs.YtponpgcpmlcdpaaGreatDoor
namespace Go.Proofs.YtponpgcpmlcdpaaGreatDoor
open Go.RowKit Go.Shelf
theorem znk (A : Option Addr) (n cap B : Nat) (xs : List Int) (w : World) (hx : Rd w B A (u8s xs)) (hn : xs.length = n) (hB : B ≤ w.heap.size) :
  Calls Tryz.prog 127 #[.slice A n cap] w fun e w'=>∃v,e = .returned (.tuple #[v,.int .i64 (Wm.zgd xs).2]) ∧
   w'.ownsRow w.heap.size 5 1 v (Wm.zgd xs).1.length (u8s (Wm.zgd xs).1)∧Below w.heap.size w w':=by
 by_cases h:4096 < xs.length
 ·rw [Wm.zml h]
  refine (zl6 A n cap w (by omega)).mono ?_
  rintro e w' ⟨rfl,rfl⟩
  exact ⟨_,rfl,zcc,Below.refl _ _⟩
 ·rw [Wm.zgc h]
  exact znj A n cap B xs w hx hn hB (by omega)
end Go.Proofs.YtponpgcpmlcdpaaGreatDoor
