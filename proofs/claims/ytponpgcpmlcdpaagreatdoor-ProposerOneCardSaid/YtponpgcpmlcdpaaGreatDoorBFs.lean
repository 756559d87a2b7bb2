import Derived.Test.YtponpgcpmlcdpaaGreatDoorBF
import Derived.Test.YtponpgcpmlcdpaaGreatDoorBWx
namespace Go.Proofs.YtponpgcpmlcdpaaGreatDoor
open Go.RowKit Go.Shelf
def Bod (w:World) (ok:Nat→Prop) (v:Value) (b:List Int):Prop :=
 ∃A c,v = .slice A b.length c∧b.length≤c∧c≤maxLen∧∀j u,(u8s b)[j]? = some u→∃ad,A=some ad∧ok ad.block∧w.cell? (ad.add j)=some u
theorem Bod.rd {w:World} {ok:Nat→Prop} {v:Value} {b:List Int} (h:Bod w ok v b) {B:Nat} (hB:∀g,ok g→g < B):∃A c,v = .slice A b.length c∧b.length≤c∧c≤maxLen∧Rd w B A (u8s b):=by
 obtain ⟨A,c,e,h1,h2,h3⟩:=h
 exact ⟨A,c,e,h1,h2,fun j u hj=>by obtain ⟨ad,e,h4,h5⟩:=h3 j u hj;exact ⟨ad,e,hB _ h4,h5⟩⟩
theorem Bod.keep {w w':World} {ok ok':Nat→Prop} {v:Value} {b:List Int} (h:Bod w ok v b) (hk:∀g,ok g→w'.heap[g]? = w.heap[g]?∧ok' g):Bod w' ok' v b:=by
 obtain ⟨A,c,e,h1,h2,h3⟩:=h
 refine ⟨A,c,e,h1,h2,fun j u hj => ?_⟩
 obtain ⟨ad,e,h4,h5⟩:=h3 j u hj
 exact ⟨ad,e,(hk _ h4).2,(World.cell?_of_block (by rw [zb1];exact (hk _ h4).1)).trans h5⟩
theorem Bod.own {w:World} {base:Nat} {v:Value} {b:List Int} (h:w.ownsRow base 5 1 v b.length (u8s b)):Bod w (fun g=>base≤g∧g < w.heap.size) v b:=by
 obtain ⟨A,c,rfl,h1,h2,h3⟩:=za4 h
 refine ⟨A,c,rfl,h1,h2,fun j u hj => ?_⟩
 obtain ⟨ad,e,h4,h5⟩:=h3 j u hj
 subst e
 exact ⟨ad,rfl,h.lt _ rfl,h5⟩
theorem zb2 {w w':World} {base:Nat} {e:TypeId} {v:Value} {n:Nat} {xs:List Value} (h:w.ownsRow base e 1 v n xs) (hk:∀g,v.ownBlock=some g→w'.heap[g]? = w.heap[g]?):w'.ownsRow base e 1 v n xs:=by
 refine ⟨h.1,?_⟩
 rcases h.2 with h|⟨g,cap,cur,rfl,h1,h2,h3⟩
 ·exact .inl h
 ·exact .inr ⟨g,cap,cur,rfl,h1,(hk g rfl).trans h2,h3⟩
theorem own_uniq {w:World} {base:Nat} {e:TypeId} {v:Value} {n:Nat} {xs ys:List Value} (h:w.ownsRow base e 1 v n xs) (k:w.ownsRow base e 1 v n ys):xs=ys:=by
 rcases h.2 with ⟨rfl,rfl⟩|⟨g,cap,cur,rfl,_,h2,_,_,_,h6⟩
 ·have h1:=h.1
  have k1:=k.1
  simp only [Nat.zero_mul,List.length_eq_zero_iff] at h1 k1
  rw [h1,k1]
 ·rcases k.2 with ⟨hv,_⟩|⟨g',cap',cur',hv,_,k2,_,_,_,k6⟩
  ·cases hv
  ·cases hv
   rw [h2] at k2
   cases k2
   rw [←h6,←k6]
def Acc (base:Nat) (w:World) (kv bv:Value) (ks:List Int) (bs:List (List Int)):Prop :=
 ∃vs,w.ownsRow base 5 1 kv ks.length (u8s ks)∧w.ownsRow base 35 1 bv bs.length vs∧(∀g,kv.ownBlock=some g→bv.ownBlock≠some g)∧base≤w.heap.size ∧
  ∀(j:Nat) v b,vs[j]? = some v→bs[j]? = some b→Bod w (fun g=>base≤g∧g < w.heap.size∧kv.ownBlock≠some g∧bv.ownBlock≠some g) v b
theorem Acc.nil (base:Nat) (w:World) (hb:base≤w.heap.size):Acc base w (.slice none 0 0) (.slice none 0 0) [] [] :=
 ⟨[],World.ownsRow_nil _ _ _ _,World.ownsRow_nil _ _ _ _,(fun g h=>nomatch h),hb,(fun j v b h=>by simp at h)⟩
theorem Acc.keep {base:Nat} {w w':World} {kv bv:Value} {ks:List Int} {bs:List (List Int)} (h:Acc base w kv bv ks bs) (hs:w.heap.size≤w'.heap.size) (hk:∀g,base≤g→g < w.heap.size→w'.heap[g]? = w.heap[g]?):Acc base w' kv bv ks bs:=by
 obtain ⟨vs,h1,h2,h3,h4,h5⟩:=h
 refine ⟨vs,zb2 h1 fun g e=>hk g (h1.lt g e).1 (h1.lt g e).2,zb2 h2 fun g e=>hk g (h2.lt g e).1 (h2.lt g e).2,h3,by omega,fun j v b hv hb => ?_⟩
 exact (h5 j v b hv hb).keep fun g hg=>⟨hk g hg.1 hg.2.1,hg.1,by omega,hg.2.2⟩
theorem Acc.below {base:Nat} {w w':World} {kv bv:Value} {ks:List Int} {bs:List (List Int)} (h:Acc base w kv bv ks bs) (hb:Below w.heap.size w w'):Acc base w' kv bv ks bs :=
 h.keep hb.size fun g _ hg=>hb.block g hg
theorem Acc.kinds {base : Nat} {w w' : World} {kv bv kv' : Value} {ks : List Int} {bs : List (List Int)} (h : Acc base w kv bv ks bs) {k : Int} (hg : w.grownBy w' kv.ownBlock)
  (hown:w'.ownsRow base 5 1 kv' (ks.length+1) (u8s ks++[.int .u8 k])) (hb:kv'.ownBlock=kv.ownBlock∨kv'.ownBlock=some w.heap.size):Acc base w' kv' bv (ks++[k]) bs:=by
 obtain ⟨vs,h1,h2,h3,h4,h5⟩:=h
 have hs:=hg.size
 refine ⟨vs,by simpa [u8s] using hown,zb2 h2 fun g e=>hg.block g (h2.lt g e).2 (fun e'=>h3 g e'.symm e),fun g e => ?_,by omega,fun j v b hv hb' => ?_⟩
 ·rcases hb with e'|e'
  ·exact h3 g (e'▸e)
  ·rw [e'] at e
   intro e2
   have:=(h2.lt g e2).2
   simp only [Option.some.injEq] at e
   omega
 ·refine (h5 j v b hv hb').keep fun g hg'=>⟨hg.block g hg'.2.1 (fun e=>hg'.2.2.1 e.symm),hg'.1,by omega,?_,hg'.2.2.2⟩
  rcases hb with e'|e'
  ·rw [e'];exact hg'.2.2.1
  ·rw [e']
   intro e
   simp only [Option.some.injEq] at e
   omega
theorem Bod.kinds {base : Nat} {w w' : World} {kv bv kv' : Value} {v : Value} {b : List Int} (h : Bod w (fun g => base ≤ g ∧ g < w.heap.size ∧ kv.ownBlock ≠ some g ∧ bv.ownBlock ≠ some g) v b) (hg : w.grownBy w' kv.ownBlock)
  (hb:kv'.ownBlock=kv.ownBlock∨kv'.ownBlock=some w.heap.size):Bod w' (fun g=>base≤g∧g < w'.heap.size∧kv'.ownBlock≠some g∧bv.ownBlock≠some g) v b:=by
 have hs:=hg.size
 refine h.keep fun g hg'=>⟨hg.block g hg'.2.1 (fun e=>hg'.2.2.1 e.symm),hg'.1,by omega,?_,hg'.2.2.2⟩
 rcases hb with e'|e'
 ·rw [e'];exact hg'.2.2.1
 ·rw [e']
  intro e
  simp only [Option.some.injEq] at e
  omega
theorem Bod.fresh {base : Nat} {w0 w : World} {kv bv : Value} {ks : List Int} {bs : List (List Int)} {v : Value} {b : List Int} (h : Acc base w0 kv bv ks bs) (_hs : w0.heap.size ≤ w.heap.size) (hv : w.ownsRow w0.heap.size 5 1 v b.length (u8s b)) :
  Bod w (fun g=>base≤g∧g < w.heap.size∧kv.ownBlock≠some g∧bv.ownBlock≠some g) v b:=by
 obtain ⟨vs,h1,h2,h3,h4,h5⟩:=h
 refine (Bod.own hv).keep fun g hg=>⟨rfl,by omega,hg.2,fun e => ?_,fun e => ?_⟩
 ·have:=(h1.lt g e).2;omega
 ·have:=(h2.lt g e).2;omega
theorem Acc.bodies {base : Nat} {w w' : World} {kv bv bv' : Value} {ks : List Int} {bs : List (List Int)} (h : Acc base w kv bv ks bs) {v : Value} {b : List Int} (hv : Bod w (fun g => base ≤ g ∧ g < w.heap.size ∧ kv.ownBlock ≠ some g ∧ bv.ownBlock ≠ some g) v b)
  {us:List Value} (hu:w.ownsRow base 35 1 bv bs.length us) (hg:w.grownBy w' bv.ownBlock) (hown:w'.ownsRow base 35 1 bv' (bs.length+1) (us++[v])) (hb:bv'.ownBlock=bv.ownBlock∨bv'.ownBlock=some w.heap.size):Acc base w' kv bv' ks (bs++[b]):=by
 obtain ⟨vs,h1,h2,h3,h4,h5⟩:=h
 obtain rfl:=own_uniq hu h2
 have hs:=hg.size
 have hvl:us.length=bs.length:=by simpa using h2.1
 have ok:∀g,base≤g∧g < w.heap.size∧kv.ownBlock≠some g∧bv.ownBlock≠some g→w'.heap[g]? = w.heap[g]?∧base≤g∧g < w'.heap.size∧kv.ownBlock≠some g∧bv'.ownBlock≠some g:=fun g hg'=>by
  refine ⟨hg.block g hg'.2.1 (fun e=>hg'.2.2.2 e.symm),hg'.1,by omega,hg'.2.2.1,?_⟩
  rcases hb with e'|e'
  ·rw [e'];exact hg'.2.2.2
  ·rw [e']
   intro e
   simp only [Option.some.injEq] at e
   omega
 refine ⟨us++[v],zb2 h1 fun g e=>hg.block g (h1.lt g e).2 (fun e'=>h3 g e e'.symm),by rw [List.length_append];exact hown,fun g e => ?_,by omega,fun j u c hu hc => ?_⟩
 ·rcases hb with e'|e'
  ·rw [e'];exact h3 g e
  ·rw [e']
   intro e2
   have:=(h1.lt g e).2
   simp only [Option.some.injEq] at e2
   omega
 ·by_cases hj:j < bs.length
  ·rw [List.getElem?_append_left (by omega)] at hu hc
   exact (h5 j u c hu hc).keep ok
  ·have hj2 : j = bs.length := by
    have:=(List.getElem?_eq_some_iff.1 hc).1
    rw [List.length_append] at this
    simp at this
    omega
   subst hj2
   rw [←hvl,List.getElem?_concat_length] at hu
   rw [List.getElem?_concat_length] at hc
   simp only [Option.some.injEq] at hu hc
   subst hu hc
   exact hv.keep ok
theorem Acc.parts {base:Nat} {w:World} {kv bv:Value} {ks:List Int} {bs:List (List Int)} (h:Acc base w kv bv ks bs):w.ownsRow base 5 1 kv ks.length (u8s ks)∧∃vs,w.ownsRow base 35 1 bv bs.length vs:=by
 obtain ⟨vs,h1,h2,-⟩:=h
 exact ⟨h1,vs,h2⟩
def Bods (w:World) (B:Nat) (vs:List Value) (bs:List (List Int)):Prop:=vs.length=bs.length∧∀(j:Nat) v b,vs[j]? = some v→bs[j]? = some b→∃A c,v = .slice A b.length c∧b.length≤c∧c≤maxLen∧Rd w B A (u8s b)
theorem Bods.below {w w':World} {B:Nat} {vs:List Value} {bs:List (List Int)} (h:Bods w B vs bs) (hb:Below B w w'):Bods w' B vs bs :=
 ⟨h.1,fun j v b hv hc=>by obtain ⟨A,c,e,h1,h2,h3⟩:=h.2 j v b hv hc;exact ⟨A,c,e,h1,h2,h3.below hb⟩⟩
theorem Bods.more {w:World} {B B':Nat} {vs:List Value} {bs:List (List Int)} (h:Bods w B vs bs) (hB:B≤B'):Bods w B' vs bs :=
 ⟨h.1,fun j v b hv hc=>by obtain ⟨A,c,e,h1,h2,h3⟩:=h.2 j v b hv hc;exact ⟨A,c,e,h1,h2,h3.more hB⟩⟩
theorem Acc.out {base : Nat} {w : World} {kv bv : Value} {ks : List Int} {bs : List (List Int)} (h : Acc base w kv bv ks bs) : (∃ A c, kv = .slice A ks.length c ∧ ks.length ≤ c ∧ c ≤ maxLen ∧ Rd w w.heap.size A (u8s ks)) ∧
  ∃vs A c,bv = .slice A bs.length c∧bs.length≤c∧c≤maxLen∧Rd w w.heap.size A vs∧Bods w w.heap.size vs bs:=by
 obtain ⟨vs,h1,h2,h3,h4,h5⟩:=h
 refine ⟨za4 h1,vs,?_⟩
 obtain ⟨A,c,e,q1,q2,q3⟩:=za4 h2
 exact ⟨A,c,e,q1,q2,q3,by simpa using h2.1,fun j v b hv hc=>(h5 j v b hv hc).rd fun g hg=>hg.2.1⟩
end Go.Proofs.YtponpgcpmlcdpaaGreatDoor
namespace Go.Proofs.YtponpgcpmlcdpaaGreatDoor
open Go.RowKit Go.Shelf
theorem info_sl:(Tryz.prog.info? 35).map (fun i=>(i.zero,i.size,i.bytes))=some (some (.slice none 0 0),1,24):=by kernel_rfl
theorem zkh:∃i,Tryz.prog.info? 35=some i∧i.zero=some (.slice none 0 0)∧i.size=1∧i.bytes=24:=by
 have h:=info_sl
 cases hi:Tryz.prog.info? 35 with
 |none=>rw [hi] at h;cases h
 |some i=>rw [hi] at h;simp only [Option.map_some,Option.some.injEq,Prod.mk.injEq] at h;exact ⟨i,rfl,h.1,h.2.1,h.2.2⟩
theorem drop_two (xs:List Int) (m k:Nat):(xs.drop m).drop k=xs.drop (m+k):=List.drop_drop ..
theorem cat_more (fs:List (Int×List Int)) (k:Int) (b:List Int):(Fm.cat (fs++[(k,b)])).length=(Fm.cat fs).length+(b.length+8):=by
 rw [Fm.zit,List.length_append,Fm.zee,Fm.zry,List.append_nil,Fm.zds]
end Go.Proofs.YtponpgcpmlcdpaaGreatDoor
