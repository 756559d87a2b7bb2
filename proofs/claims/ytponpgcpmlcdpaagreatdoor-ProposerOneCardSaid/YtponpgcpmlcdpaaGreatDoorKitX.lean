import Derived.Test.YtponpgcpmlcdpaaGreatDoorKitM
import Derived.Test.YtponpgcpmlcdpaaGreatDoorKitF
import Derived.Laws.StructEq
namespace Go.Proofs.YtponpgcpmlcdpaaGreatDoor.Kx
open Go.RowKit Go.Shelf Km
structure Rw where
 A:Option Addr
 cap:Nat
 e:TypeId
 k:Nat
 n:Nat
 xs:List Value
def Rw.blk (x:Rw):Option Nat:=(Value.slice x.A x.n x.cap).ownBlock
def Rw.own (x:Rw) (w0 w:World):Prop:=w.ownsRow w0.heap.size x.e x.k (.slice x.A x.n x.cap) x.n x.xs
abbrev Fz:=List (Option Addr×List Value)
def Stay (w:World) (l:List (Nat×List Value)) (r:List Rw) (q:Option Addr×List Value):Prop :=
 ∀j u,q.2[j]? = some u→∃ad,q.1=some ad∧ad.block < w.heap.size∧w.cell? (ad.add j)=some u∧(∀p∈l,p.1≠ad.block)∧∀x∈r,x.blk≠some ad.block
theorem zd0 (a:Addr) (n:Nat):(a.add n).block=a.block:=by unfold Addr.add;split<;>rfl
theorem Stay.to {w w' : World} {l l' : List (Nat × List Value)} {r r' : List Rw} {q : Option Addr × List Value} (h : Stay w l r q)
  (hc:∀g,g < w.heap.size→(∀p∈l,p.1≠g)→(∀x∈r,x.blk≠some g)→w'.heap[g]? = w.heap[g]?∧g < w'.heap.size∧(∀p∈l',p.1≠g)∧∀x∈r',x.blk≠some g):Stay w' l' r' q:=fun j u hj=>by
 obtain ⟨ad,e,h1,h2,h3,h4⟩:=h j u hj
 obtain ⟨g1,g2,g3,g4⟩:=hc ad.block h1 h3 h4
 exact ⟨ad,e,g2,by rw [World.cell?_of_block (show w'.heap[(ad.add j).block]? = w.heap[(ad.add j).block]? by rw [zd0];exact g1)];exact h2,g3,g4⟩
structure Bxs (w0 w:World) (l:List (Nat×List Value)) (r:List Rw:=[]) (F:Fz:=[]):Prop where
 below:Below w0.heap.size w0 w
 nodup:(l.map Prod.fst).Nodup
 each:∀p∈l,w0.heap.size≤p.1∧p.1 < w.heap.size∧w.rangeAt p.1 0 p.2∧w.there p.1 0 p.2.length
 rows:∀x∈r,x.own w0 w∧∀p∈l,x.blk≠some p.1
 apart:r.Pairwise fun x y=>∀g,x.blk=some g→y.blk≠some g
 stay:∀q∈F,Stay w l r q
theorem Rw.own.lt {x:Rw} {w0 w:World} (h:x.own w0 w) {g:Nat} (hg:x.blk=some g):w0.heap.size≤g∧g < w.heap.size:=World.ownsRow.lt h g hg
theorem Rw.own.kept {x:Rw} {w0 w w':World} {row:Option Nat} (h:x.own w0 w) (hg:w.grownBy w' row) (hne:∀g,x.blk=some g→row≠some g):x.own w0 w':=by
 refine World.ownsRow.kept h hg ?_
 cases hb:x.blk with
 |none=>exact .inl hb
 |some g=>exact .inr fun e=>hne g hb (by rw [←e];exact hb)
theorem Bxs.start (w:World):Bxs w w []:=⟨Below.refl _ _,List.nodup_nil,(fun _ hp=>absurd hp List.not_mem_nil),(fun _ hp=>absurd hp List.not_mem_nil),List.Pairwise.nil,(fun _ hq=>absurd hq List.not_mem_nil)⟩
theorem Bxs.size {w0 w:World} {l:List (Nat×List Value)} {r:List Rw} {F:Fz} (h:Bxs w0 w l r F):w0.heap.size≤w.heap.size:=h.below.size
theorem Bxs.grown {w0 w w':World} {l:List (Nat×List Value)} {r:List Rw} {F:Fz} {row:Option Nat} (h:Bxs w0 w l r F) (hg:w.grownBy w' row) (h0:∀g,row=some g→w0.heap.size≤g∧(∀p∈l,p.1≠g)∧∀x∈r,x.blk≠some g) (hF:∀g,row=some g→F=[]):Bxs w0 w' l r F:=by
 refine ⟨h.below.grown hg h.size (fun g hk=>(h0 g hk).1),h.nodup,fun p hp => ?_,fun x hx=>⟨(h.rows x hx).1.kept hg (fun g e q=>(h0 g q).2.2 x hx e),(h.rows x hx).2⟩,h.apart,fun q hq=>(h.stay q hq).to fun g h1 h2 h3=>⟨hg.block g h1 (fun e=>by rw [hF g e.symm] at hq;exact absurd hq List.not_mem_nil),Nat.lt_of_lt_of_le h1 hg.size,h2,h3⟩⟩
 obtain ⟨h1,h2,h3,h4⟩:=h.each p hp
 have hb:w'.heap[p.1]? = w.heap[p.1]?:=hg.block _ h2 (fun e=>(h0 p.1 e.symm).2.1 p hp rfl)
 exact ⟨h1,Nat.lt_of_lt_of_le h2 hg.size,fun j v hv=>(World.cell?_of_block hb).trans (h3 j v hv),fun j hj=>⟨by rw [World.cell?_of_block hb];exact (h4 j hj).1,by rw [World.frozen?_of_block hb];exact (h4 j hj).2⟩⟩
theorem Bxs.call {w0 w w':World} {l:List (Nat×List Value)} {r:List Rw} {F:Fz} (h:Bxs w0 w l r F) (hb:Below w.heap.size w w'):Bxs w0 w' l r F:=h.grown (zbf hb none) (fun _ e=>by cases e) (fun _ e=>by cases e)
theorem Bxs.drew {w0 w:World} {l:List (Nat×List Value)} {r:List Rw} {F:Fz} (h:Bxs w0 w l r F):Bxs w0 w.drew l r F:=⟨h.below.drew,h.nodup,h.each,h.rows,h.apart,h.stay⟩
theorem Bxs.alloc {w0 w:World} {l:List (Nat×List Value)} {r:List Rw} {F:Fz} (h:Bxs w0 w l r F) (cs:List Value) (t:TypeId):Bxs w0 (w.alloc (.cells cs.toArray t)) ((w.heap.size,cs)::l) r F:=by
 have hb:Below w.heap.size w (w.alloc (.cells cs.toArray t)):=(Below.refl _ _).alloc (Nat.le_refl _) _
 have h2:=h.call hb
 refine ⟨h2.below,?_,fun p hp => ?_,fun x hx=>⟨(h2.rows x hx).1,fun p hp => ?_⟩,h.apart,fun q hq=>(h.stay q hq).to fun g g1 g2 g3=>⟨hb.block g g1,by rw [World.size_alloc];omega,fun p hp => ?_,g3⟩⟩
 ·rw [List.map_cons,List.nodup_cons]
  refine ⟨fun hm => ?_,h.nodup⟩
  obtain ⟨p,hp,e⟩:=List.mem_map.1 hm
  have:=(h.each p hp).2.1
  rw [e] at this
  exact Nat.lt_irrefl _ this
 ·rcases List.mem_cons.1 hp with rfl|hp
  ·exact ⟨h.size,by rw [World.size_alloc];exact Nat.lt_succ_self _,zct _ _ _,zby _ _ _⟩
  ·exact h2.each p hp
 ·rcases List.mem_cons.1 hp with rfl|hp
  ·exact fun e=>Nat.lt_irrefl _ ((h.rows x hx).1.lt e).2
  ·exact (h2.rows x hx).2 p hp
 ·rcases List.mem_cons.1 hp with rfl|hp
  ·exact fun e=>Nat.lt_irrefl _ (show g < g by rw [←e] at g1 ⊢;exact g1)
  ·exact g2 p hp
theorem Bxs.tail {w0 w:World} {p:Nat×List Value} {l:List (Nat×List Value)} {r:List Rw} {F:Fz} (h:Bxs w0 w (p::l) r F):Bxs w0 w l r F :=
 ⟨h.below,(List.nodup_cons.1 h.nodup).2,fun q hq=>h.each q (List.mem_cons_of_mem _ hq),fun x hx=>⟨(h.rows x hx).1,fun q hq=>(h.rows x hx).2 q (List.mem_cons_of_mem _ hq)⟩,h.apart,fun q hq=>(h.stay q hq).to fun _ g1 g2 g3=>⟨rfl,g1,fun p hp=>g2 p (List.mem_cons_of_mem _ hp),g3⟩⟩
theorem Bxs.nothing {w0 w:World} {l:List (Nat×List Value)} {r:List Rw} {F:Fz} (h:Bxs w0 w l r F):Bxs w0 w []:=⟨h.below,List.nodup_nil,(fun _ hp=>absurd hp List.not_mem_nil),(fun _ hp=>absurd hp List.not_mem_nil),List.Pairwise.nil,(fun _ hq=>absurd hq List.not_mem_nil)⟩
theorem Bxs.range {w0 w:World} {l:List (Nat×List Value)} {r:List Rw} {F:Fz} (h:Bxs w0 w l r F) {b:Nat} {cs:List Value} (hm:(b,cs)∈l):w.rangeAt b 0 cs:=(h.each _ hm).2.2.1
theorem Bxs.cell {w0 w:World} {l:List (Nat×List Value)} {r:List Rw} {F:Fz} (h:Bxs w0 w l r F) {b:Nat} {cs:List Value} (hm:(b,cs)∈l) {j:Nat} {v:Value} (hv:cs[j]? = some v):w.cell? ⟨b,j,none⟩=some v:=ze0 (h.range hm) j hv
theorem Bxs.old {w0 w:World} {l:List (Nat×List Value)} {r:List Rw} {F:Fz} (h:Bxs w0 w l r F) {ad:Addr} {v:Value} (hc:w0.cell? ad=some v):w.cell? ad=some v:=by
 rw [h.below.cell (World.block_lt_of_cell? w0 _ hc)];exact hc
theorem Rw.own.rd {x:Rw} {w0 w:World} (h:x.own w0 w):Rd w w.heap.size x.A x.xs:=by
 rcases h.2 with ⟨e,hn⟩|⟨g,cap,cur,e,_,hgb,h1,h2,_⟩
 ·have hl:=h.1
  have:x.xs=[]:=List.eq_nil_of_length_eq_zero (by rw [hl,hn,Nat.zero_mul])
  rw [this];exact Rd.nil _ _ _
 ·injection e with e1 e2 e3
  intro j u hj
  refine ⟨⟨g,0,none⟩,e1,(Array.getElem?_eq_some_iff.1 hgb).1,?_⟩
  have h':w.ownsRow w0.heap.size x.e x.k (.slice (some ⟨g,0,none⟩) x.n x.cap) x.n x.xs:=by rw [←e1];exact h
  exact h'.cells (g:=g) rfl j u hj
theorem Rw.own.le {x:Rw} {w0 w:World} (h:x.own w0 w):x.n≤x.cap∧x.cap≤maxLen:=by
 rcases h.2 with ⟨e,hn⟩|⟨g,cap,cur,e,_,hgb,h1,h2,_⟩
 ·injection e with e1 e2 e3;rw [hn,e3];exact ⟨Nat.le_refl _,Nat.zero_le _⟩
 ·injection e with e1 e2 e3;rw [e3];exact ⟨h1,h2⟩
class InR (A:Option Addr) (x:outParam Rw) (r:List Rw):Prop where
 mem:x∈r
 eq:x.A=A
instance InR.tail {A:Option Addr} {x y:Rw} {r:List Rw} [h:InR A x r]:InR A x (y::r):=⟨List.mem_cons_of_mem _ h.mem,h.eq⟩
instance InR.head {A:Option Addr} {cap:Nat} {e:TypeId} {k n:Nat} {xs:List Value} {r:List Rw}:InR A ⟨A,cap,e,k,n,xs⟩ (⟨A,cap,e,k,n,xs⟩::r):=⟨List.mem_cons_self ..,rfl⟩
inductive zi8 (x y:Rw):List Rw→List Rw→Prop
 |head (r):zi8 x y (x::r) (y::r)
 |tail (z) {r r'} (h:zi8 x y r r'):zi8 x y (z::r) (z::r')
class ToR (A:Option Addr) (x:outParam Rw) (y:Rw) (r:List Rw) (r':outParam (List Rw)):Prop where
 to:zi8 x y r r'
instance ToR.tail {A:Option Addr} {x y z:Rw} {r r':List Rw} [h:ToR A x y r r']:ToR A x y (z::r) (z::r'):=⟨.tail _ h.to⟩
instance ToR.head {A:Option Addr} {cap:Nat} {e:TypeId} {k n:Nat} {xs:List Value} {y:Rw} {r:List Rw}:ToR A ⟨A,cap,e,k,n,xs⟩ y (⟨A,cap,e,k,n,xs⟩::r) (y::r):=⟨.head _⟩
theorem zi8.mem {x y:Rw} {r r':List Rw} (h:zi8 x y r r'):x∈r:=by
 induction h with
 |head=>exact List.mem_cons_self ..
 |tail z h ih=>exact List.mem_cons_of_mem _ ih
theorem zi8.get {x y:Rw} {r r':List Rw} (h:zi8 x y r r'):∀z∈r',z=y∨z∈r:=by
 induction h with
 |head r=>intro z hz;rcases List.mem_cons.1 hz with rfl|hz;exact .inl rfl;exact .inr (List.mem_cons_of_mem _ hz)
 |tail q h ih=>intro z hz;rcases List.mem_cons.1 hz with rfl|hz;exact .inr (List.mem_cons_self ..);exact (ih z hz).imp id (List.mem_cons_of_mem _)
theorem Bxs.rowTo {w0 w w':World} {l:List (Nat×List Value)} {r r':List Rw} {F:Fz} {x y:Rw} (h:Bxs w0 w l r F) (ht:zi8 x y r r') (hg:w.grownBy w' x.blk) (hy:y.own w0 w') (hb:y.blk=x.blk∨y.blk=some w.heap.size):Bxs w0 w' l r' F:=by
 have hx:=h.rows x ht.mem
 have ho : ∀ (r r' : List Rw), zi8 x y r r' → (∀ z ∈ r, z.own w0 w ∧ ∀ p ∈ l, z.blk ≠ some p.1) → r.Pairwise (fun x y => ∀ g, x.blk = some g → y.blk ≠ some g) →
   (∀z∈r',z.own w0 w'∧∀p∈l,z.blk≠some p.1)∧r'.Pairwise (fun x y=>∀g,x.blk=some g→y.blk≠some g):=by
  have hyl:∀p∈l,y.blk≠some p.1:=fun p hp e=>by
   rcases hb with q|q
   ·exact hx.2 p hp (q▸e)
   ·rw [q] at e
    have e':w.heap.size=p.1:=Option.some.inj e
    exact Nat.lt_irrefl _ (by have:=(h.each p hp).2.1;rwa [←e'] at this)
  have hap:∀z:Rw,z.own w0 w→(∀g,x.blk=some g→z.blk≠some g)→∀g,y.blk=some g→z.blk≠some g:=fun z hz hn g e q=>by
   rcases hb with k|k
   ·exact hn g (k▸e) q
   ·rw [k] at e;cases e
    exact Nat.lt_irrefl _ (hz.lt q).2
  intro r r' ht
  induction ht with
  | head r =>
    intro he hp
    rw [List.pairwise_cons] at hp
    refine ⟨fun z hz => ?_,List.pairwise_cons.2 ⟨fun z hz=>hap z (he z (List.mem_cons_of_mem _ hz)).1 (hp.1 z hz),hp.2⟩⟩
    rcases List.mem_cons.1 hz with rfl|hz
    ·exact ⟨hy,hyl⟩
    ·have hzr:=he z (List.mem_cons_of_mem _ hz)
     exact ⟨hzr.1.kept hg (fun g e q=>hp.1 z hz g q e),hzr.2⟩
  | tail q ht ih =>
    intro he hp
    rw [List.pairwise_cons] at hp
    obtain ⟨i1,i2⟩:=ih (fun z hz=>he z (List.mem_cons_of_mem _ hz)) hp.2
    have hq:=he q (List.mem_cons_self ..)
    refine ⟨fun z hz => ?_,List.pairwise_cons.2 ⟨fun z hz g e k => ?_,i2⟩⟩
    ·rcases List.mem_cons.1 hz with rfl|hz
     ·exact ⟨hq.1.kept hg (fun g e k=>hp.1 x ht.mem g e k),hq.2⟩
     ·exact i1 z hz
    ·rcases ht.get z hz with rfl|hz
     ·exact hap q hq.1 (fun g e k=>hp.1 x ht.mem g k e) g k e
     ·exact hp.1 z hz g e k
 obtain ⟨o1,o2⟩:=ho r r' ht h.rows h.apart
 refine ⟨h.below.grown hg h.size (fun g e=>(hx.1.lt e).1),h.nodup,fun p hp => ?_,o1,o2,fun q hq=>(h.stay q hq).to fun g g1 g2 g3=>⟨hg.block _ g1 (fun e=>g3 x ht.mem e.symm),Nat.lt_of_lt_of_le g1 hg.size,g2,fun z hz=>by
  rcases ht.get z hz with rfl|hz
  ·rcases hb with q|q
   ·rw [q];exact g3 x ht.mem
   ·rw [q];intro e;have:=Option.some.inj e;omega
  ·exact g3 z hz⟩⟩
 obtain ⟨h1,h2,h3,h4⟩:=h.each p hp
 have hbl:w'.heap[p.1]? = w.heap[p.1]?:=hg.block _ h2 (fun e=>hx.2 p hp e.symm)
 exact ⟨h1,Nat.lt_of_lt_of_le h2 hg.size,fun j v hv=>(World.cell?_of_block hbl).trans (h3 j v hv),fun j hj=>⟨by rw [World.cell?_of_block hbl];exact (h4 j hj).1,by rw [World.frozen?_of_block hbl];exact (h4 j hj).2⟩⟩
theorem Bxs.row {w0 w w':World} {l:List (Nat×List Value)} {r:List Rw} {F:Fz} {y:Rw} (h:Bxs w0 w l r F) (hg:w.grownBy w' none) (hy:y.own w0 w') (hb:y.blk=none∨y.blk=some w.heap.size):Bxs w0 w' l (y::r) F:=by
 have h2:=h.grown hg (fun _ e=>by cases e) (fun _ e=>by cases e)
 have hn:∀g,y.blk=some g→g=w.heap.size:=fun g e=>by rcases hb with q|q<;>rw [q] at e<;>cases e;rfl
 refine ⟨h2.below,h2.nodup,h2.each,fun x hx => ?_,List.pairwise_cons.2 ⟨fun x hx g e k => ?_,h2.apart⟩,fun q hq=>(h.stay q hq).to fun g g1 g2 g3=>⟨hg.block _ g1 (fun e=>by cases e),Nat.lt_of_lt_of_le g1 hg.size,g2,fun z hz=>by
  rcases List.mem_cons.1 hz with rfl|hz
  ·intro e;have:=hn g e;omega
  ·exact g3 z hz⟩⟩
 ·rcases List.mem_cons.1 hx with rfl|hx
  ·exact ⟨hy,fun p hp e=>Nat.lt_irrefl _ (by have:=(h.each p hp).2.1;rw [hn _ e] at this;exact this)⟩
  ·exact h2.rows x hx
 ·have:=((h.rows x hx).1.lt k).2
  rw [hn g e] at this
  exact Nat.lt_irrefl _ this
inductive RmAt (x:Rw):List Rw→List Rw→Prop
 |head (r):RmAt x (x::r) r
 |tail (z) {r r0} (h:RmAt x r r0):RmAt x (z::r) (z::r0)
class RmR (A:Option Addr) (x:outParam Rw) (r:List Rw) (r0:outParam (List Rw)):Prop where
 rm:RmAt x r r0
instance RmR.tail {A:Option Addr} {x z:Rw} {r r0:List Rw} [h:RmR A x r r0]:RmR A x (z::r) (z::r0):=⟨.tail _ h.rm⟩
instance RmR.head {A:Option Addr} {cap:Nat} {e:TypeId} {k n:Nat} {xs:List Value} {r:List Rw}:RmR A ⟨A,cap,e,k,n,xs⟩ (⟨A,cap,e,k,n,xs⟩::r) r:=⟨.head _⟩
theorem RmAt.get {x:Rw} {r r0:List Rw} (h:RmAt x r r0):∀z∈x::r0,z∈r:=by
 induction h with
 |head r=>exact fun z hz=>hz
 | tail q h ih =>
   intro z hz
   rcases List.mem_cons.1 hz with rfl|hz
   ·exact List.mem_cons_of_mem _ (ih _ (List.mem_cons_self ..))
   ·rcases List.mem_cons.1 hz with rfl|hz
    ·exact List.mem_cons_self ..
    ·exact List.mem_cons_of_mem _ (ih z (List.mem_cons_of_mem _ hz))
theorem RmAt.apart {x:Rw} {r r0:List Rw} (h:RmAt x r r0):r.Pairwise (fun x y=>∀g,x.blk=some g→y.blk≠some g)→(x::r0).Pairwise (fun x y=>∀g,x.blk=some g→y.blk≠some g):=by
 induction h with
 |head r=>exact id
 | tail q h ih =>
   intro hp
   rw [List.pairwise_cons] at hp
   have h2:=List.pairwise_cons.1 (ih hp.2)
   refine List.pairwise_cons.2 ⟨fun z hz g e k => ?_,List.pairwise_cons.2 ⟨fun z hz=>hp.1 z (h.get z (List.mem_cons_of_mem _ hz)),h2.2⟩⟩
   rcases List.mem_cons.1 hz with rfl|hz
   ·exact hp.1 x (h.get x (List.mem_cons_self ..)) g k e
   ·exact h2.1 z hz g e k
theorem Bxs.front {w0 w:World} {l:List (Nat×List Value)} {r r0:List Rw} {F:Fz} {x:Rw} (h:Bxs w0 w l r F) (hr:RmAt x r r0):Bxs w0 w l (x::r0) F :=
 ⟨h.below,h.nodup,h.each,fun z hz=>h.rows z (hr.get z hz),hr.apart h.apart,fun q hq=>(h.stay q hq).to fun _ g1 g2 g3=>⟨rfl,g1,g2,fun z hz=>g3 z (hr.get z hz)⟩⟩
theorem Bxs.rowRd {w0 w:World} {l:List (Nat×List Value)} {r:List Rw} {F:Fz} {A:Option Addr} {x:Rw} (h:Bxs w0 w l r F) [hm:InR A x r]:Rd w w.heap.size A x.xs:=by
 have:=(h.rows x hm.mem).1.rd
 rwa [hm.eq] at this
theorem Bxs.zn0 {w0 w:World} {l:List (Nat×List Value)} {r:List Rw} {F:Fz} (h:Bxs w0 w l r F) (e:TypeId) (k:Nat):Bxs w0 w l (⟨none,0,e,k,0,[]⟩::r) F :=
 h.row (World.grownBy.refl _ _) ⟨by simp,.inl ⟨rfl,rfl⟩⟩ (.inl rfl)
theorem Bxs.zev {w0 w:World} {l:List (Nat×List Value)} {r:List Rw} {F:Fz} {x:Rw} (h:Bxs w0 w l (x::r) F):Bxs w0 w l r F :=
 ⟨h.below,h.nodup,h.each,fun z hz=>h.rows z (List.mem_cons_of_mem _ hz),(List.pairwise_cons.1 h.apart).2,fun q hq=>(h.stay q hq).to fun _ g1 g2 g3=>⟨rfl,g1,g2,fun z hz=>g3 z (List.mem_cons_of_mem _ hz)⟩⟩
class InF (A:Option Addr) (xs:outParam (List Value)) (F:Fz):Prop where
 mem:(A,xs)∈F
instance InF.tail {A:Option Addr} {xs:List Value} {q:Option Addr×List Value} {F:Fz} [h:InF A xs F]:InF A xs (q::F):=⟨List.mem_cons_of_mem _ h.mem⟩
instance InF.head {A:Option Addr} {xs:List Value} {F:Fz}:InF A xs ((A,xs)::F):=⟨List.mem_cons_self ..⟩
theorem Bxs.zfc {w0 w:World} {l:List (Nat×List Value)} {r:List Rw} {F:Fz} (h:Bxs w0 w l r F) {A:Option Addr} {xs:List Value} (hm:(A,xs)∈F):Rd w w.heap.size A xs:=fun j u hj=>by
 obtain ⟨ad,e,h1,h2,-⟩:=h.stay _ hm j u hj
 exact ⟨ad,e,h1,h2⟩
theorem Bxs.freeze {w0 w:World} {l:List (Nat×List Value)} {r:List Rw} {F:Fz} {x:Rw} (h:Bxs w0 w l (x::r) F):Bxs w0 w l r ((x.A,x.xs)::F):=by
 have h2:=h.zev
 refine ⟨h2.below,h2.nodup,h2.each,h2.rows,h2.apart,fun q hq => ?_⟩
 rcases List.mem_cons.1 hq with rfl|hq
 ·intro j u hj
  have hx:=h.rows x (List.mem_cons_self ..)
  obtain ⟨ad,e,hb,hc⟩:=hx.1.rd j u hj
  have hbk:x.blk=some ad.block:=by
   obtain ⟨A,cap,e',k,n,xs⟩:=x
   dsimp only at e
   subst e
   rfl
  exact ⟨ad,e,hb,hc,fun p hp e=>hx.2 p hp (by rw [hbk,e]),fun z hz e=>(List.pairwise_cons.1 h.apart).1 z hz _ hbk e⟩
 ·exact h2.stay q hq
theorem Bxs.zno {w0 w:World} {l:List (Nat×List Value)} {r:List Rw} {F F':Fz} (h:Bxs w0 w l r F) (hs:∀q∈F',q∈F):Bxs w0 w l r F':=⟨h.below,h.nodup,h.each,h.rows,h.apart,fun q hq=>h.stay q (hs q hq)⟩
def New (w w':World) (G:Fz) (A:Option Addr) (xs:List Value):Prop :=
 ∀j u,xs[j]? = some u→∃ad,A=some ad∧ad.block < w'.heap.size∧w'.cell? (ad.add j)=some u∧(w.heap.size≤ad.block∨∃q∈G,q.2≠[]∧∃ad',q.1=some ad'∧ad'.block=ad.block)
theorem New.nil (w w':World) (G:Fz) (A:Option Addr):New w w' G A []:=fun j u hj=>by cases hj
theorem New.rd {w w':World} {G:Fz} {A:Option Addr} {xs:List Value} (h:New w w' G A xs):Rd w' w'.heap.size A xs:=fun j u hj=>by
 obtain ⟨ad,e,h1,h2,-⟩:=h j u hj
 exact ⟨ad,e,h1,h2⟩
theorem New.more {w w':World} {G G':Fz} {A:Option Addr} {xs:List Value} (h:New w w' G A xs) (hs:∀q∈G,q∈G'):New w w' G' A xs:=fun j u hj=>by
 obtain ⟨ad,e,h1,h2,h3⟩:=h j u hj
 exact ⟨ad,e,h1,h2,h3.imp id fun ⟨q,hq,k⟩=>⟨q,hs q hq,k⟩⟩
theorem New.same {w w':World} {G:Fz} {A:Option Addr} {xs:List Value} (hr:Rd w w.heap.size A xs) (hb:Below w.heap.size w w') (hm:(A,xs)∈G):New w w' G A xs:=fun j u hj=>by
 obtain ⟨ad,e,h1,h2⟩:=hr j u hj
 exact ⟨ad,e,Nat.lt_of_lt_of_le h1 hb.size,by rw [hb.cell (by rw [zd0];exact h1)];exact h2,.inr ⟨_,hm,fun q=>by (dsimp only at q;rw [q] at hj;cases hj),ad,e,rfl⟩⟩
theorem Bxs.zh1 {w0 w w':World} {l:List (Nat×List Value)} {r:List Rw} {F G:Fz} (h:Bxs w0 w l r F) (hb:Below w.heap.size w w') {A:Option Addr} {xs:List Value} (hn:New w w' G A xs) (hG:∀q∈G,q∈F):Bxs w0 w' l r ((A,xs)::F):=by
 have h2:=h.call hb
 refine ⟨h2.below,h2.nodup,h2.each,h2.rows,h2.apart,fun q hq => ?_⟩
 rcases List.mem_cons.1 hq with rfl|hq
 ·intro j u hj
  obtain ⟨ad,e,h1,h3,h4⟩:=hn j u hj
  rcases h4 with h4|⟨q,hq,hne,ad',e',hbk⟩
  ·exact ⟨ad,e,h1,h3,fun p hp e=>by have:=(h.each p hp).2.1;omega,fun z hz e=>by have:=((h.rows z hz).1.lt e).2;omega⟩
  ·obtain ⟨y,ys,hy⟩:=List.exists_cons_of_ne_nil hne
   obtain ⟨ad2,e2,-,-,h5,h6⟩:=h.stay q (hG q hq) 0 y (by rw [hy];rfl)
   rw [e'] at e2
   cases e2
   exact ⟨ad,e,h1,h3,fun p hp=>by rw [←hbk];exact h5 p hp,fun z hz=>by rw [←hbk];exact h6 z hz⟩
 ·exact h2.stay q hq
theorem Bxs.newRow {w0 w:World} {l:List (Nat×List Value)} {r:List Rw} {F G:Fz} (h:Bxs w0 w l r F) {A:Option Addr} {x:Rw} [hm:InR A x r]:New w0 w G A x.xs:=fun j u hj=>by
 have hx:=(h.rows x hm.mem).1
 obtain ⟨ad,e,hb,hc⟩:=hx.rd j u hj
 have hbk:x.blk=some ad.block:=by
  obtain ⟨A',cap,e',k,n,xs⟩:=x
  dsimp only at e
  subst e
  rfl
 exact ⟨ad,by rw [←hm.eq];exact e,hb,hc,.inl (hx.lt hbk).1⟩
class InL (b:Nat) (cs:outParam (List Value)) (l:List (Nat×List Value)):Prop where
 mem:(b,cs)∈l
instance InL.tail {b:Nat} {cs:List Value} {p:Nat×List Value} {l:List (Nat×List Value)} [h:InL b cs l]:InL b cs (p::l):=⟨List.mem_cons_of_mem _ h.mem⟩
instance InL.head {b:Nat} {cs:List Value} {l:List (Nat×List Value)}:InL b cs ((b,cs)::l):=⟨List.mem_cons_self ..⟩
theorem Bxs.rd {w0 w:World} {l:List (Nat×List Value)} {r:List Rw} {F:Fz} {b:Nat} {cs:List Value} (h:Bxs w0 w l r F) [hm:InL b cs l]:Rd w w.heap.size (some ⟨b,0,none⟩) cs:=fun j u hj =>
 ⟨_,rfl,(h.each _ hm.mem).2.1,by rw [Addr.add_mid,Nat.zero_add];exact h.cell hm.mem hj⟩
inductive zgo (b:Nat) (cs cs':List Value):List (Nat×List Value)→List (Nat×List Value)→Prop
 |head (l):zgo b cs cs' ((b,cs)::l) ((b,cs')::l)
 |tail (p) {l l'} (h:zgo b cs cs' l l'):zgo b cs cs' (p::l) (p::l')
class SetL (b:Nat) (cs':List Value) (l:List (Nat×List Value)) (cs:outParam (List Value)) (l':outParam (List (Nat×List Value))):Prop where
 set:zgo b cs cs' l l'
instance SetL.tail {b:Nat} {cs cs':List Value} {p:Nat×List Value} {l l':List (Nat×List Value)} [h:SetL b cs' l cs l']:SetL b cs' (p::l) cs (p::l'):=⟨.tail _ h.set⟩
instance SetL.head {b:Nat} {cs cs':List Value} {l:List (Nat×List Value)}:SetL b cs' ((b,cs)::l) cs ((b,cs')::l):=⟨.head _⟩
theorem zgo.fst {b:Nat} {cs cs':List Value} {l l':List (Nat×List Value)} (h:zgo b cs cs' l l'):l'.map Prod.fst=l.map Prod.fst:=by
 induction h with
 |head=>rfl
 |tail p h ih=>rw [List.map_cons,ih,List.map_cons]
theorem zgo.mem {b:Nat} {cs cs':List Value} {l l':List (Nat×List Value)} (h:zgo b cs cs' l l'):(b,cs)∈l:=by
 induction h with
 |head=>exact List.mem_cons_self ..
 |tail p h ih=>exact List.mem_cons_of_mem _ ih
theorem zgo.get {b:Nat} {cs cs':List Value} {l l':List (Nat×List Value)} (h:zgo b cs cs' l l') (hn:(l.map Prod.fst).Nodup):∀p∈l',p=(b,cs')∨(p∈l∧p.1≠b):=by
 induction h with
 | head l =>
   intro p hp
   rcases List.mem_cons.1 hp with rfl|hp
   ·exact .inl rfl
   ·refine .inr ⟨List.mem_cons_of_mem _ hp,fun e => ?_⟩
    rw [List.map_cons,List.nodup_cons] at hn
    exact hn.1 (List.mem_map.2 ⟨p,hp,e⟩)
 | tail q h ih =>
   intro p hp
   rw [List.map_cons,List.nodup_cons] at hn
   rcases List.mem_cons.1 hp with rfl|hp
   ·refine .inr ⟨List.mem_cons_self ..,fun e=>hn.1 ?_⟩
    rw [e]
    exact List.mem_map.2 ⟨_,h.mem,rfl⟩
   ·rcases ih hn.2 p hp with h1|⟨h1,h2⟩
    ·exact .inl h1
    ·exact .inr ⟨List.mem_cons_of_mem _ h1,h2⟩
def splice (old:List Value) (o:Nat) (cs:List Value):List Value:=old.take o++(cs++old.drop (o+cs.length))
theorem zor {old cs:List Value} {o:Nat} (h:o+cs.length≤old.length):(splice old o cs).length=old.length:=by
 unfold splice
 rw [List.length_append,List.length_append,List.length_take,List.length_drop];omega
theorem Bxs.set {w0 w:World} {l l':List (Nat×List Value)} {r:List Rw} {F:Fz} {b o:Nat} {old cs:List Value} (h:Bxs w0 w l r F) (hs:zgo b old (splice old o cs) l l') (ho:o+cs.length≤old.length):Bxs w0 (w.setCells b o cs) l' r F:=by
 obtain ⟨h1,h2,h3,h4⟩:=h.each _ hs.mem
 have hg:=za6 b cs o w
 refine ⟨below_grown h.below hg h1 h.size,by rw [hs.fst];exact h.nodup,fun p hp => ?_,fun x hx=>⟨(h.rows x hx).1.kept hg (fun g e q=>(h.rows x hx).2 _ hs.mem (by rw [e,←q])),fun p hp => ?_⟩,h.apart,fun q hq=>(h.stay q hq).to fun g g1 g2 g3=>⟨hg.block _ g1 (fun e=>g2 _ hs.mem (Option.some.inj e).symm),Nat.lt_of_lt_of_le g1 hg.size,fun p hp e=>by
  obtain ⟨p',hp',e'⟩:=List.mem_map.1 (show p.1∈l.map Prod.fst by rw [←hs.fst];exact List.mem_map.2 ⟨p,hp,rfl⟩)
  exact g2 p' hp' (e'.trans e),g3⟩⟩
 rcases hs.get h.nodup p hp with rfl|⟨hp,hne⟩
 ·refine ⟨h1,Nat.lt_of_lt_of_le h2 hg.size,?_,fun j hj => ?_⟩
  ·have e : old = old.take o ++ ((old.drop o).take cs.length ++ old.drop (o + cs.length)) := by
    rw [←List.drop_drop,List.take_append_drop,List.take_append_drop]
   have h5:w.rangeAt b 0 old:=h3
   rw [e] at h5
   exact zc7 (p:=o) (cs:=cs) h5 (by rw [List.length_take];omega) (by rw [List.length_take,List.length_drop];omega) (zb6 h4 (Nat.zero_le _) (by dsimp only;omega))
  ·rw [zor ho] at hj
   exact World.there_setCells h4 _ _ _ j hj
 ·obtain ⟨q1,q2,q3,q4⟩:=h.each p hp
  exact ⟨q1,Nat.lt_of_lt_of_le q2 hg.size,zcb q3 hg (Ne.symm hne) q2,zb0 q4 hg (Ne.symm hne) q2⟩
 ·rcases hs.get h.nodup p hp with rfl|⟨hp,-⟩
  ·exact fun e=>(h.rows x hx).2 _ hs.mem e
  ·exact (h.rows x hx).2 p hp
section
variable {P:Program} {ops:Array Oper} {rest:List Oper} {op:Oper} {a:Act} {w w0:World} {l l':List (Nat×List Value)} {r r':List Rw} {F:Fz} {Q:Exit→Act→World→Prop}
theorem whole {cs:List Value} {n:Nat} (h:cs.length=n):(cs.drop 0).take n=cs:=by rw [List.drop_zero,List.take_of_length_le (by omega)]
theorem zav {P:Program} {f:FuncId} (args:Array Value) {w:World} {Q:Ending→World→Prop} (h:Calls P f args w Q):Calls P f args w Q:=h
theorem zae {d:Option Tmp} {t ty:TypeId} {x:Operand} {pos:String} {af:Array Edge} (h:wpList P ops Q (Oper.mk d (.box t x) ty pos af none::rest) a w):wpList P ops Q (Oper.mk d (.box t x) ty pos af none::rest) a w:=h
theorem zaa {d:Option Tmp} {t ty:TypeId} {pos:String} {af:Array Edge} (h:wpList P ops Q (Oper.mk d (.alloc t) ty pos af none::rest) a w):wpList P ops Q (Oper.mk d (.alloc t) ty pos af none::rest) a w:=h
theorem zbk {d:Option Tmp} {t ty:TypeId} {x:Array (Nat×Operand)} {pos:String} {af:Array Edge} (h:wpList P ops Q (Oper.mk d (.build t x) ty pos af none::rest) a w):wpList P ops Q (Oper.mk d (.build t x) ty pos af none::rest) a w:=h
theorem zab {d:Option Tmp} {t ty:TypeId} {x:Operand} {pos:String} {af:Array Edge} (h:wpList P ops Q (Oper.mk d (.load t x) ty pos af none::rest) a w):wpList P ops Q (Oper.mk d (.load t x) ty pos af none::rest) a w:=h
theorem zad {d:Option Tmp} {t ty:TypeId} {x y:Operand} {pos:String} {af:Array Edge} (h:wpList P ops Q (Oper.mk d (.store t x y) ty pos af none::rest) a w):wpList P ops Q (Oper.mk d (.store t x y) ty pos af none::rest) a w:=h
theorem zac {d:Option Tmp} {t ty:TypeId} {x:Operand} {pos:String} {af:Array Edge} {g:Nat×Bool} (h:wpList P ops Q (Oper.mk d (.load t x) ty pos af (some g)::rest) a w):wpList P ops Q (Oper.mk d (.load t x) ty pos af (some g)::rest) a w:=h
theorem framed {d:Option Tmp} {v:Value} {a':Act} (h:wpList P ops Q rest a' w) (ha:a.put d v=a'):wpList P ops Q rest (a.put d v) w:=ha▸h
theorem zah {cs:List Value} {t:TypeId} (hB:Hid (Bxs w0 w l r F)) (h:∀w',Hid (Bxs w0 w' ((w.heap.size,cs)::l) r F)→wpList P ops Q rest a w'):wpList P ops Q rest a (w.alloc (.cells cs.toArray t)):=h _ (Lib.hid (hB.out.alloc cs t))
theorem zeg {o:Obj} (h:wpList P ops Q rest a (w.alloc o)):wpList P ops Q rest a (w.alloc o):=h
theorem zfu {cs:List Value} {t:TypeId} (n k:Nat) (hn:cs.length=n * k) (hl:n≤maxLen) (hB:Hid (Bxs w0 w l r F)) (h:∀w',Hid (Bxs w0 w' l (⟨some ⟨w.heap.size,0,none⟩,n,t,k,n,cs⟩::r) F)→wpList P ops Q rest a w'):wpList P ops Q rest a (w.alloc (.cells cs.toArray t)) :=
 h _ (Lib.hid (hB.out.row (World.grownBy_alloc w _ none) (World.ownsRow_lit w cs.toArray n hB.out.size hl (by simpa using hn)) (.inr rfl)))
theorem zk3 (w:World) (t:TypeId) (v:Value) (cs:List Value) (hv:v.cells=cs.toArray):(Instr.box t v).run P w = .ok (.pointer (some ⟨w.heap.size,0,none⟩)) (w.alloc (.cells cs.toArray t)):=by
 simp [Instr.box,newVar,newRow,hv]
theorem zg4 (hB : Hid (Bxs w0 w l r F)) (hgd : op.guard = none) (ty : TypeId) (x : Operand) (ho : op.op = .box ty x) (v : Value) (hx : a.eval x = v) (cs : List Value) (hv : v.cells = cs.toArray)
  (h:∀b w',Hid (Bxs w0 w' ((b,cs)::l) r F)→wpList P ops Q rest (a.put op.dst (.pointer (some ⟨b,0,none⟩))) w'):wpList P ops Q (op::rest) a w :=
 wpList_plain hgd fun K hK=>by
  unfold Oper.wp execOp
  simp only [ho,hx,Sem.run_bind,zk3 w ty v cs hv,Result.andThen_ok,Sem.run_pure]
  exact hK _ _ (h _ _ (Lib.hid (hB.out.alloc cs ty)))
theorem zfx (hB : Hid (Bxs w0 w l r F)) (hgd : op.guard = none) (ty : TypeId) (ho : op.op = .alloc ty) (z : Value) (cs : List Value) (hz : (zeroValue ty).run P w = .ok z w) (hv : z.cells = cs.toArray)
  (h:∀b w',Hid (Bxs w0 w' ((b,cs)::l) r F)→wpList P ops Q rest (a.put op.dst (.pointer (some ⟨b,0,none⟩))) w'):wpList P ops Q (op::rest) a w :=
 wpList_plain hgd fun K hK=>by
  unfold Oper.wp execOp
  have h3:(Instr.alloc ty true (.tuple #[])).run P w = .ok (.pointer (some ⟨w.heap.size,0,none⟩)) (w.alloc (.cells cs.toArray ty)):=by
   simp [Instr.alloc,newVar,newRow,hz,hv]
  simp only [ho,Sem.run_bind,h3,Result.andThen_ok,Sem.run_pure]
  exact hK _ _ (h _ _ (Lib.hid (hB.out.alloc cs ty)))
theorem zb5 (hB : Hid (Bxs w0 w l r F)) (hgd : op.guard = none) (ty : TypeId) (ho : op.op = .alloc ty) (cs : List Value) (hz : (zeroValue ty).run P w = .ok (.agg cs.toArray) w)
  (h:∀b w',Hid (Bxs w0 w' ((b,cs)::l) r F)→wpList P ops Q rest (a.put op.dst (.pointer (some ⟨b,0,none⟩))) w'):wpList P ops Q (op::rest) a w:=zfx hB hgd ty ho _ cs hz rfl h
theorem cells_one {v:Value} (h:v.oneCell'=true):v.cells=[v].toArray:=by cases v<;>first|rfl|cases h
theorem zbt (hB : Hid (Bxs w0 w l r F)) (hgd : op.guard = none) (ty : TypeId) (ho : op.op = .alloc ty) (z : Value) (hz : (zeroValue ty).run P w = .ok z w) (hv : z.oneCell' = true)
  (h:∀b w',Hid (Bxs w0 w' ((b,[z])::l) r F)→wpList P ops Q rest (a.put op.dst (.pointer (some ⟨b,0,none⟩))) w'):wpList P ops Q (op::rest) a w:=zfx hB hgd ty ho z [z] hz (cells_one hv) h
theorem zcn (hB : Hid (Bxs w0 w l r F)) (hgd : op.guard = none) (ty : TypeId) (x : Operand) (ho : op.op = .box ty x) (cs : List Value) (hx : a.eval x = .agg cs.toArray)
  (h:∀b w',Hid (Bxs w0 w' ((b,cs)::l) r F)→wpList P ops Q rest (a.put op.dst (.pointer (some ⟨b,0,none⟩))) w'):wpList P ops Q (op::rest) a w:=zg4 hB hgd ty x ho _ hx cs rfl h
theorem zca (hB : Hid (Bxs w0 w l r F)) (hgd : op.guard = none) (ty : TypeId) (x : Operand) (ho : op.op = .box ty x) (v : Value) (hx : a.eval x = v) (hv : v.oneCell' = true)
  (h:∀b w',Hid (Bxs w0 w' ((b,[v])::l) r F)→wpList P ops Q rest (a.put op.dst (.pointer (some ⟨b,0,none⟩))) w'):wpList P ops Q (op::rest) a w:=zg4 hB hgd ty x ho v hx [v] (cells_one hv) h
theorem zhs {a:Act} {k:Nat} {v:Value} (h:a.tmps[k]? = some v):a.eval (.tmp k)=v:=by
 show a.tmps.getD k undef=v
 rw [Array.getD_eq_getD_getElem?,h];rfl
theorem zcm (hB : Hid (Bxs w0 w l r F)) (hgd : op.guard = none) (ty : TypeId) (k : Nat) (ho : op.op = .box ty (.tmp k)) (v : Value) (hx : a.tmps[k]? = some v) (hv : v.oneCell' = true)
  (h:∀b w',Hid (Bxs w0 w' ((b,[v])::l) r F)→wpList P ops Q rest (a.put op.dst (.pointer (some ⟨b,0,none⟩))) w'):wpList P ops Q (op::rest) a w:=zca hB hgd ty _ ho v (zhs hx) hv h
theorem zim {w:World} {ty:TypeId} {n:Nat} (h:(sizeOf ty).run P w = .ok n w):(P.info? ty).map (·.size)=some n:=by
 cases hq:P.info? ty with
 |none=>simp [sizeOf,typeInfo,hq] at h
 |some i=>simp [sizeOf,typeInfo,hq] at h;simp [h]
theorem row_of {w:World} {ty:TypeId} {b:Bool} (h:(isAgg ty).run P w = .ok b w):(P.underlying ty).map TypeDesc.isRow=some b:=by
 unfold isAgg at h
 cases hq:P.underlying ty with
 |none=>simp [underlying,hq] at h
 | some d =>
   rw [Sem.run_bind,run_underlying hq w] at h
   cases d<;>simp_all
theorem zc3 (w : World) (b o n : Nat) (ty : TypeId) (cs ms : List Value) (hr : w.rangeAt b 0 cs) (hm : (cs.drop o).take n = ms) (hn : ms.length = n) (hu : (P.underlying ty).map TypeDesc.isRow = some true) (hi : (P.info? ty).map (·.size) = some n) :
  (loadVar ty ⟨b,o,none⟩).run P w = .ok (.agg ms.toArray) w:=by
 cases hq:P.underlying ty with
 |none=>rw [hq] at hu;cases hu
 | some d =>
   refine run_loadVar_mid w b o ty ms d (fun j v hv => ?_) hq (by rw [hq] at hu;simpa using hu) (by rw [hn];exact hi)
   rw [←hm,List.getElem?_take] at hv
   split at hv
   ·rw [List.getElem?_drop] at hv
    have:=hr _ _ hv
    rwa [Nat.zero_add] at this
   ·cases hv
theorem zbu (w:World) (ad:Addr) (ty:TypeId) (v:Value) (hc:w.cell? ad=some v) (hu:(P.underlying ty).map TypeDesc.isRow=some false):(loadVar ty ad).run P w = .ok v w:=by
 cases hq:P.underlying ty with
 |none=>rw [hq] at hu;cases hu
 | some d =>
   have hd:d.isRow=false:=by rw [hq] at hu;simpa using hu
   have hagg:(isAgg ty).run P w = .ok false w:=by
    unfold isAgg
    rw [Sem.run_bind,run_underlying hq w]
    cases d<;>simp_all
   simp [loadVar,Sem.run_bind,hagg,hc]
theorem ziq {o : Nat} (hB : Bxs w0 w l r F) (ty : TypeId) (x : Operand) (ho : op.op = .load ty x) (b : Nat) (hx : a.eval x = .pointer (some ⟨b, o, none⟩)) (cs : List Value) [hm : InL b cs l] (n : Nat)
  (hA:(isAgg ty).run P w = .ok true w) (hS:(sizeOf ty).run P w = .ok n w) (ms:List Value) (hms:(cs.drop o).take n=ms) (hn:ms.length=n):(execOp a.eval op).run P w = .ok (.value (.agg ms.toArray)) w:=by
 unfold execOp
 simp only [ho,hx,Instr.loadAt,Instr.sureAddr,Sem.run_bind,Sem.run_pure,Result.andThen_ok,zc3 w b o n ty cs ms (hB.range hm.mem) hms hn (row_of hA) (zim hS)]
theorem zam {o : Nat} (hB : Hid (Bxs w0 w l r F)) (hgd : op.guard = none) (ty : TypeId) (x : Operand) (ho : op.op = .load ty x) (b : Nat) (hx : a.eval x = .pointer (some ⟨b, o, none⟩)) (cs : List Value) [hm : InL b cs l] (n : Nat)
  (hA:(isAgg ty).run P w = .ok true w) (hS:(sizeOf ty).run P w = .ok n w) (ms:List Value) (hms:(cs.drop o).take n=ms) (hn:ms.length=n)
  (h:wpList P ops Q rest (a.put op.dst (.agg ms.toArray)) w):wpList P ops Q (op::rest) a w :=
 wpList_plain hgd fun K hK=>by
  unfold Oper.wp
  rw [ziq hB.out ty x ho b hx cs n hA hS ms hms hn]
  exact hK _ _ h
theorem zha {o : Nat} (hB : Bxs w0 w l r F) (ty : TypeId) (x : Operand) (ho : op.op = .load ty x) (b : Nat) (hx : a.eval x = .pointer (some ⟨b, o, none⟩)) (cs : List Value) [hm : InL b cs l]
  (hA:(isAgg ty).run P w = .ok false w) (v:Value) (hv:cs[o]? = some v):(execOp a.eval op).run P w = .ok (.value v) w:=by
 unfold execOp
 simp only [ho,hx,Instr.loadAt,Instr.sureAddr,Sem.run_bind,Sem.run_pure,Result.andThen_ok,zbu w ⟨b,o,none⟩ ty v (hB.cell hm.mem hv) (row_of hA)]
theorem zai {o : Nat} (hB : Hid (Bxs w0 w l r F)) (hgd : op.guard = none) (ty : TypeId) (x : Operand) (ho : op.op = .load ty x) (b : Nat) (hx : a.eval x = .pointer (some ⟨b, o, none⟩)) (cs : List Value) [hm : InL b cs l]
  (hA:(isAgg ty).run P w = .ok false w) (v:Value) (hv:cs[o]? = some v)
  (h:wpList P ops Q rest (a.put op.dst v) w):wpList P ops Q (op::rest) a w :=
 wpList_plain hgd fun K hK=>by
  unfold Oper.wp
  rw [zha hB.out ty x ho b hx cs hA v hv]
  exact hK _ _ h
theorem zc1 (hB : Hid (Bxs w0 w l r F)) (hgd : op.guard = none) (ty : TypeId) (x : Operand) (ho : op.op = .load ty x) (ad : Addr) (hx : a.eval x = .pointer (some ad)) (hA : (isAgg ty).run P w = .ok false w) (v' : Value) (hc : w0.cell? ad = some v')
  (h:wpList P ops Q rest (a.put op.dst v') w):wpList P ops Q (op::rest) a w :=
 wpList_plain hgd fun K hK=>by
  unfold Oper.wp execOp
  simp only [ho,hx,Instr.loadAt,Instr.sureAddr,Sem.run_bind,Sem.run_pure,Result.andThen_ok,zbu w ad ty v' (hB.out.old hc) (row_of hA)]
  exact hK _ _ h
theorem zcl (hB : Hid (Bxs w0 w l r F)) (ty : TypeId) (x : Operand) (ho : op.op = .load ty x) (ad : Addr) (hx : a.eval x = .pointer (some ad)) (hA : (isAgg ty).run P w = .ok false w) (v' : Value) (hc : w0.cell? ad = some v') (hn : Region.wanted op (yielded ops a.tmps) = true)
  (h:wpList P ops Q rest (a.put op.dst v') w):wpList P ops Q (op::rest) a w :=
 wpList_step fun K hK=>by
  simp only [hn,if_true]
  unfold Oper.wp execOp
  simp only [ho,hx,Instr.loadAt,Instr.sureAddr,Sem.run_bind,Sem.run_pure,Result.andThen_ok,zbu w ad ty v' (hB.out.old hc) (row_of hA)]
  exact hK _ _ h
theorem zaj {o : Nat} (hB : Hid (Bxs w0 w l r F)) (ty : TypeId) (x : Operand) (ho : op.op = .load ty x) (b : Nat) (hx : a.eval x = .pointer (some ⟨b, o, none⟩)) (cs : List Value) [hm : InL b cs l]
  (hA:(isAgg ty).run P w = .ok false w) (v:Value) (hv:cs[o]? = some v) (hn:Region.wanted op (yielded ops a.tmps)=true)
  (h:wpList P ops Q rest (a.put op.dst v) w):wpList P ops Q (op::rest) a w :=
 wpList_step fun K hK=>by
  simp only [hn,if_true]
  unfold Oper.wp
  rw [zha hB.out ty x ho b hx cs hA v hv]
  exact hK _ _ h
theorem zb4 {o : Nat} (hB : Hid (Bxs w0 w l r F)) (ty : TypeId) (x : Operand) (ho : op.op = .load ty x) (b : Nat) (hx : a.eval x = .pointer (some ⟨b, o, none⟩)) (cs : List Value) [hm : InL b cs l] (n : Nat)
  (hA:(isAgg ty).run P w = .ok true w) (hS:(sizeOf ty).run P w = .ok n w) (ms:List Value) (hms:(cs.drop o).take n=ms) (hn:ms.length=n) (hg:Region.wanted op (yielded ops a.tmps)=true)
  (h:wpList P ops Q rest (a.put op.dst (.agg ms.toArray)) w):wpList P ops Q (op::rest) a w :=
 wpList_step fun K hK=>by
  simp only [hg,if_true]
  unfold Oper.wp
  rw [ziq hB.out ty x ho b hx cs n hA hS ms hms hn]
  exact hK _ _ h
theorem zmc {f : Operand → Value} {d : Option Tmp} {ty t2 : TypeId} {x : Operand} {pos : String} {af : Array Edge} {g : Option (Nat × Bool)} {v : Value} (hB : Bxs w0 w l r F) (ad : Addr) (hx : f x = .pointer (some ad))
  (hA:(isAgg ty).run P w = .ok false w) (hc:w0.cell? ad=some v):(execOp f (Oper.mk d (.load ty x) t2 pos af g)).run P w = .ok (.value v) w:=by
 unfold execOp
 simp only [hx,Instr.loadAt,Instr.sureAddr,Sem.run_bind,Sem.run_pure,Result.andThen_ok,zbu w ad ty v (hB.old hc) (row_of hA)]
theorem zbg {f : Operand → Value} {d : Option Tmp} {ty t2 : TypeId} {x : Operand} {pos : String} {af : Array Edge} {g : Option (Nat × Bool)} {v : Value} (hB : Bxs w0 w l r F) (b o : Nat) (hx : f x = .pointer (some ⟨b, o, none⟩)) (cs : List Value) (hm : InL b cs l)
  (hA:(isAgg ty).run P w = .ok false w) (hv:cs[o]? = some v):(execOp f (Oper.mk d (.load ty x) t2 pos af g)).run P w = .ok (.value v) w:=by
 unfold execOp
 simp only [hx,Instr.loadAt,Instr.sureAddr,Sem.run_bind,Sem.run_pure,Result.andThen_ok,zbu w ⟨b,o,none⟩ ty v (hB.cell hm.mem hv) (row_of hA)]
theorem zch {f : Operand → Value} {d : Option Tmp} {ty t2 : TypeId} {x : Operand} {pos : String} {af : Array Edge} {g : Option (Nat × Bool)} {v : Value} (hB : Bxs w0 w l r F) (b o : Nat) (hx : f x = .pointer (some ⟨b, o, none⟩)) (cs : List Value) (hm : InL b cs l)
  (n:Nat) (hA:(isAgg ty).run P w = .ok true w) (hS:(sizeOf ty).run P w = .ok n w) (ms:List Value) (hms:(cs.drop o).take n=ms) (hn:ms.length=n) (hv:v = .agg ms.toArray):(execOp f (Oper.mk d (.load ty x) t2 pos af g)).run P w = .ok (.value v) w:=by
 subst hv
 unfold execOp
 simp only [hx,Instr.loadAt,Instr.sureAddr,Sem.run_bind,Sem.run_pure,Result.andThen_ok,zc3 w b o n ty cs ms (hB.range hm.mem) hms hn (row_of hA) (zim hS)]
theorem zi4 (w : World) (b o : Nat) (ty : TypeId) (v : Value) (cs : List Value) (hv : v.cells = cs.toArray) (ht : w.there b o cs.length) (hi : (P.info? ty).map (·.size) = some cs.length) (h1 : cs.all (·.oneCell') = true) :
  (storeVar ty ⟨b,o,none⟩ v).run P w = .ok () (w.setCells b o cs):=by
 have:=run_storeCells_cells (P:=P) b o cs 0 w (fun j hj=>by simpa using (ht j hj).1) (fun j hj=>by simpa using (ht j hj).2) (fun v hv=>List.all_eq_true.1 h1 v hv)
 cases hq:P.info? ty with
 |none=>simp [hq] at hi
 | some i =>
   have hs:cs.length=i.size:=by simp [hq] at hi;omega
   simp only [Nat.add_zero] at this
   simp [storeVar,sizeOf,typeInfo,hq,hv,hs,this]
theorem zc0 {o : Nat} {K : Act → World → Prop} (hB : Bxs w0 w l r F) (ty : TypeId) (x y : Operand) (ho : op.op = .store ty x y) (b : Nat) (hx : a.eval x = .pointer (some ⟨b, o, none⟩)) (v : Value) (hy : a.eval y = v) (cs : List Value) (hv : v.cells = cs.toArray) (old : List Value)
  (hs:zgo b old (splice old o cs) l l') (hl:o+cs.length≤old.length) (hS:(sizeOf ty).run P w = .ok cs.length w) (h1:cs.all (·.oneCell')=true)
  (h:∀w',Bxs w0 w' l' r F→K (a.put op.dst undef) w'):op.wp P a w K Q:=by
 obtain ⟨-,-,-,h4⟩:=hB.each _ hs.mem
 unfold Oper.wp execOp
 simp only [ho,hx,hy,Instr.storeAt,Instr.sureAddr,Sem.run_bind,Sem.run_pure,Result.andThen_ok,zi4 w b o ty v cs hv (zb6 h4 (Nat.zero_le _) (by dsimp only;omega)) (zim hS) h1]
 exact h _ (hB.set hs hl)
theorem zeh {o : Nat} (hB : Hid (Bxs w0 w l r F)) (hgd : op.guard = none) (hd : op.dst = none) (ty : TypeId) (x y : Operand) (ho : op.op = .store ty x y) (b : Nat) (hx : a.eval x = .pointer (some ⟨b, o, none⟩)) (v : Value) (hy : a.eval y = v) (cs : List Value) (hv : v.cells = cs.toArray) (old : List Value)
  (new:List Value) (hs:zgo b old new l l') (hnew:splice old o cs=new) (hl:o+cs.length≤old.length) (hS:(sizeOf ty).run P w = .ok cs.length w) (h1:cs.all (·.oneCell')=true)
  (h:∀w',Hid (Bxs w0 w' l' r F)→wpList P ops Q rest a w'):wpList P ops Q (op::rest) a w :=
 wpList_plain hgd fun K hK=>by
  subst hnew
  exact zc0 hB.out ty x y ho b hx v hy cs hv old hs hl hS h1 fun w' hw'=>by
   rw [hd]
   exact hK _ _ (h w' (Lib.hid hw'))
theorem zfd {old cs:List Value} (h:cs.length=old.length):splice old 0 cs=cs:=by
 unfold splice
 rw [List.take_zero,List.nil_append,Nat.zero_add,h,List.drop_length,List.append_nil]
theorem zhy (hB : Hid (Bxs w0 w l r F)) (hgd : op.guard = none) (hd : op.dst = none) (ty : TypeId) (x y : Operand) (ho : op.op = .store ty x y) (b : Nat) (hx : a.eval x = .pointer (some ⟨b, 0, none⟩)) (v : Value) (hy : a.eval y = v) (cs : List Value) (hv : v.cells = cs.toArray) (old : List Value)
  (hs:zgo b old cs l l') (hl:cs.length=old.length) (hS:(sizeOf ty).run P w = .ok cs.length w) (h1:cs.all (·.oneCell')=true)
  (h:∀w',Hid (Bxs w0 w' l' r F)→wpList P ops Q rest a w'):wpList P ops Q (op::rest) a w :=
 zeh hB hgd hd ty x y ho b hx v hy cs hv old cs hs (zfd hl) (by omega) hS h1 h
theorem zay (hB : Hid (Bxs w0 w l r F)) (hgd : op.guard = none) (hd : op.dst = none) (ty : TypeId) (x y : Operand) (ho : op.op = .store ty x y) (b : Nat) (hx : a.eval x = .pointer (some ⟨b, 0, none⟩)) (cs : List Value) (hy : a.eval y = .agg cs.toArray) (old : List Value)
  [hs:SetL b cs l old l'] (hl:cs.length=old.length) (hS:(sizeOf ty).run P w = .ok cs.length w) (h1:cs.all (·.oneCell')=true)
  (h:∀w',Hid (Bxs w0 w' l' r F)→wpList P ops Q rest a w'):wpList P ops Q (op::rest) a w:=zhy hB hgd hd ty x y ho b hx _ hy cs rfl old hs.set hl hS h1 h
theorem za0 {o : Nat} (hB : Hid (Bxs w0 w l r F)) (hgd : op.guard = none) (hd : op.dst = none) (ty : TypeId) (x y : Operand) (ho : op.op = .store ty x y) (b : Nat) (hx : a.eval x = .pointer (some ⟨b, o, none⟩)) (cs : List Value) (hy : a.eval y = .agg cs.toArray) (old : List Value)
  (new:List Value) [hs:SetL b new l old l'] (hnew:splice old o cs=new) (hl:o+cs.length≤old.length) (hS:(sizeOf ty).run P w = .ok cs.length w) (h1:cs.all (·.oneCell')=true)
  (h:∀w',Hid (Bxs w0 w' l' r F)→wpList P ops Q rest a w'):wpList P ops Q (op::rest) a w:=zeh hB hgd hd ty x y ho b hx _ hy cs rfl old new hs.set hnew hl hS h1 h
theorem zaw {o : Nat} (hB : Hid (Bxs w0 w l r F)) (hgd : op.guard = none) (hd : op.dst = none) (ty : TypeId) (x y : Operand) (ho : op.op = .store ty x y) (b : Nat) (hx : a.eval x = .pointer (some ⟨b, o, none⟩)) (v : Value) (hy : a.eval y = v) (h1 : v.oneCell' = true) (old : List Value)
  (new:List Value) [hs:SetL b new l old l'] (hnew:old.set o v=new) (hl:o < old.length) (hS:(sizeOf ty).run P w = .ok 1 w)
  (h:∀w',Hid (Bxs w0 w' l' r F)→wpList P ops Q rest a w'):wpList P ops Q (op::rest) a w :=
 zeh hB hgd hd ty x y ho b hx v hy [v] (cells_one h1) old new hs.set (by rw [←hnew,List.set_eq_take_append_cons_drop,if_pos hl];rfl) (by show o+1≤_;omega) hS (by simp [h1]) h
theorem zcg {o : Nat} (hB : Hid (Bxs w0 w l r F)) (hgd : op.guard = none) (hd : op.dst = none) (ty : TypeId) (x : Operand) (v : Value) (ho : op.op = .store ty x (.const v)) (b : Nat) (hx : a.eval x = .pointer (some ⟨b, o, none⟩)) (h1 : v.oneCell' = true) (old : List Value)
  (new:List Value) [hs:SetL b new l old l'] (hnew:old.set o v=new) (hl:o < old.length) (hS:(sizeOf ty).run P w = .ok 1 w)
  (h:∀w',Hid (Bxs w0 w' l' r F)→wpList P ops Q rest a w'):wpList P ops Q (op::rest) a w:=zaw hB hgd hd ty x _ ho b hx v rfl h1 old new hnew hl hS h
theorem zaz {o : Nat} (hB : Hid (Bxs w0 w l r F)) (hgd : op.guard = none) (hd : op.dst = none) (ty : TypeId) (x : Operand) (k : Nat) (ho : op.op = .store ty x (.tmp k)) (b : Nat) (hx : a.eval x = .pointer (some ⟨b, o, none⟩)) (v : Value) (hy : a.tmps[k]? = some v) (h1 : v.oneCell' = true) (old : List Value)
  (new:List Value) [hs:SetL b new l old l'] (hnew:old.set o v=new) (hl:o < old.length) (hS:(sizeOf ty).run P w = .ok 1 w)
  (h:∀w',Hid (Bxs w0 w' l' r F)→wpList P ops Q rest a w'):wpList P ops Q (op::rest) a w:=zaw hB hgd hd ty x _ ho b hx v (zhs hy) h1 old new hnew hl hS h
theorem zk4 (w : World) (base : Nat) (t ty e : TypeId) (k bytes : Nat) (ht : P.underlying t = some (.slice e)) (hi : (P.info? e).map (fun i => (i.zero.map (·.cells.size), i.size, i.bytes)) = some (some k, k, bytes)) (hk : 0 < k)
  (v:Value) (n:Nat) (xs:List Value) (hown:w.ownsRow base e k v n xs) (B:Nat) (A:Option Addr) (m c:Nat) (news:List Value) (hm:news.length=m * k) (hr:Rd w B A news) (h1:∀u∈news,u.oneCell'=true)
  (h63:n+m≤maxLen) (hbytes:(n+m) * bytes≤140737488355328) (hbase:base≤w.heap.size) :
  ∃v' w',(Builtin.append_ #[t,t] ty #[v,.slice A m c]).run P w = .ok v' w'∧w'.ownsRow base e k v' (n+m) (xs++news)∧w.grownBy w' v.ownBlock∧(v'.ownBlock=v.ownBlock∨v'.ownBlock=some w.heap.size):=by
 obtain ⟨i,z,hi0,hz,hzs,hsz,hby⟩ : ∃i z,P.info? e=some i∧i.zero=some z∧z.cells.size=k∧i.size=k∧i.bytes=bytes:=by
  cases hq:P.info? e with
  |none=>rw [hq] at hi;cases hi
  | some i =>
    rw [hq] at hi
    simp only [Option.map_some,Option.some.injEq,Prod.mk.injEq] at hi
    obtain ⟨h1,h2,h3⟩:=hi
    cases hz:i.zero with
    |none=>rw [hz] at h1;cases h1
    |some z=>rw [hz] at h1;exact ⟨i,z,rfl,hz,by simpa using h1,h2,h3⟩
 cases A with
 | none =>
   have hn:news=[]:=by
    cases news with
    |nil=>rfl
    |cons u l=>obtain ⟨ad,h,_⟩:=hr 0 u rfl;cases h
   subst hn
   obtain rfl:m=0:=by
    rcases Nat.mul_eq_zero.1 hm.symm with h|h
    ·exact h
    ·omega
   refine ⟨v,w,?_,by simpa using hown,⟨rfl,rfl,rfl,Nat.le_refl _,fun _ _ _=>rfl⟩,.inl rfl⟩
   rcases hown.2 with ⟨rfl,rfl⟩|⟨g,cap,cur,rfl,_,_,hnc,_⟩
   ·simp [Builtin.append_,run_underlying ht,sizeOf,typeInfo,hi0,Builtin.lenOf,Builtin.firstCells]
   ·simp [Builtin.append_,run_underlying ht,sizeOf,typeInfo,hi0,Builtin.lenOf,Builtin.firstCells,hnc,storeCells]
 | some ad =>
   obtain ⟨v',w',hrun,h2,h3,_,h5⟩:=run_append_own_at (P:=P) w base t ty e i z k bytes ht hi0 hz hsz hby hzs hk v n xs hown ad m c news hm
    (fun j u hj=>by obtain ⟨ad',e',_,hc⟩:=hr j u hj;cases e';exact hc) h1 h63 hbytes hbase
   exact ⟨v',w',hrun,h2,h3,h5⟩
theorem zd5 {w:World} {base k n:Nat} {e:TypeId} {v:Value} {xs:List Value} (h:w.ownsRow base e k v n xs):∃A cap,v = .slice A n cap:=by
 rcases h.2 with ⟨rfl,rfl⟩|⟨g,cap,cur,rfl,_⟩
 ·exact ⟨none,0,rfl⟩
 ·exact ⟨_,cap,rfl⟩
theorem zd7 {r0 : List Rw} {xr : Rw} (hB : Hid (Bxs w0 w l r F)) (hgd : op.guard = none) (s x : Operand) (t : TypeId) (ho : op.op = .call { callee := .builtin .append, args := #[s, x], argTypes := #[t, t] })
  (A0:Option Addr) (n0 cap0:Nat) (hs:a.eval s = .slice A0 n0 cap0) [hx0:RmR A0 xr r r0] (bytes:Nat) (e:TypeId) (k:Nat) (xs:List Value) (hxr:xr=⟨A0,cap0,e,k,n0,xs⟩)
  (ht:P.underlying t=some (.slice e)) (hi:(P.info? e).map (fun i=>(i.zero.map (·.cells.size),i.size,i.bytes))=some (some k,k,bytes)) (hk:0 < k)
  (A:Option Addr) (m c:Nat) (hx:a.eval x = .slice A m c) (B:Nat) (news:List Value) (hr:Rd w B A news) (hm:news.length=m * k) (h1:∀u∈news,u.oneCell'=true)
  (h63:n0+m≤maxLen) (hbytes:(n0+m) * bytes≤140737488355328)
  (h:∀A' c' w',n0+m≤c'→c'≤maxLen→Hid (Bxs w0 w' l (⟨A',c',e,k,n0+m,xs++news⟩::r0) F)→wpList P ops Q rest (a.put op.dst (.slice A' (n0+m) c')) w'):wpList P ops Q (op::rest) a w :=
 wpList_plain hgd fun K hK=>by
  subst hxr
  have hf:=hB.out.front hx0.rm
  obtain ⟨v',w',hrun,h2,h3,h4⟩:=zk4 (P:=P) w w0.heap.size t op.type e k bytes ht hi hk _ n0 xs (hf.rows _ (List.mem_cons_self ..)).1 B A m c news hm hr h1 h63 hbytes hB.out.size
  obtain ⟨A',c',rfl⟩:=zd5 h2
  unfold Oper.wp execOp
  simp only [ho,resolve,invoke,builtin,Sem.run_bind,Sem.run_pure,Result.andThen_ok,List.map_toArray,List.map_cons,List.map_nil,hs,hx,hrun]
  have hle:=Rw.own.le (x:=⟨A',c',e,k,n0+m,xs++news⟩) (w0:=w0) (w:=w') h2
  exact hK _ _ (h A' c' w' hle.1 hle.2 (Lib.hid (hf.rowTo (.head _) h3 h2 h4)))
theorem zdw (hB : Hid (Bxs w0 w l r F)) (hgd : op.guard = none) (s x : Operand) (t : TypeId) (ho : op.op = .call { callee := .builtin .append, args := #[s, x], argTypes := #[t, t] })
  (hs:a.eval s = .slice none 0 0) (bytes:Nat) (e:TypeId) (k:Nat)
  (ht:P.underlying t=some (.slice e)) (hi:(P.info? e).map (fun i=>(i.zero.map (·.cells.size),i.size,i.bytes))=some (some k,k,bytes)) (hk:0 < k)
  (A:Option Addr) (m c:Nat) (hx:a.eval x = .slice A m c) (B:Nat) (news:List Value) (hr:Rd w B A news) (hm:news.length=m * k) (h1:∀u∈news,u.oneCell'=true)
  (h63:m≤maxLen) (hbytes:m * bytes≤140737488355328)
  (h:∀A' c' w',m≤c'→c'≤maxLen→Hid (Bxs w0 w' l (⟨A',c',e,k,m,news⟩::r) F)→wpList P ops Q rest (a.put op.dst (.slice A' m c')) w'):wpList P ops Q (op::rest) a w :=
 wpList_plain hgd fun K hK=>by
  obtain ⟨v',w',hrun,h2,h3,h4⟩:=zk4 (P:=P) w w0.heap.size t op.type e k bytes ht hi hk (.slice none 0 0) 0 [] ⟨by simp,.inl ⟨rfl,rfl⟩⟩ B A m c news hm hr h1 (by omega) (by rw [Nat.zero_add];exact hbytes) hB.out.size
  rw [Nat.zero_add,List.nil_append] at h2
  obtain ⟨A',c',rfl⟩:=zd5 h2
  unfold Oper.wp execOp
  simp only [ho,resolve,invoke,builtin,Sem.run_bind,Sem.run_pure,Result.andThen_ok,List.map_toArray,List.map_cons,List.map_nil,hs,hx,hrun]
  have hle:=Rw.own.le (x:=⟨A',c',e,k,m,news⟩) (w0:=w0) (w:=w') h2
  exact hK _ _ (h A' c' w' hle.1 hle.2 (Lib.hid (hB.out.row h3 h2 h4)))
theorem zbh {fn : Func} {p : Tmp} {ty : TypeId} (hB : Hid (Bxs w0 w l r F)) (h : fn.results = #[.cell p ty]) (tmps : Array Value) (b : Nat) (cs : List Value) (hp : tmps.getD p undef = .pointer (some ⟨b, 0, none⟩)) [hm : InL b cs l]
  (hA:(isAgg ty).run P w = .ok true w) (hS:(sizeOf ty).run P w = .ok cs.length w):(results fn tmps).run P w = .ok (.agg cs.toArray) w:=by
 have hp':tmps[p]?.getD undef = .pointer (some ⟨b,0,none⟩):=by simpa using hp
 simp [results,h,hp',asAddr,zc3 w b 0 cs.length ty cs cs (hB.out.range hm.mem) (by rw [List.drop_zero,List.take_length]) rfl (row_of hA) (zim hS)]
theorem za7 {w0:World} {l:List (Nat×List Value)} {r:List Rw} {F:Fz}:zdc (fun w'=>Bxs w0 w' l r F):=fun _ _ h hb=>h.call hb
theorem zau {id : Nat} (hB : Hid (Bxs w0 w l r F)) (D : Nat → Bool) (hm : P.follows .mixedOrders = true)
  (h:anyW P .any ops Q (fun w'=>Bxs w0 w' l r F) D ops.size (Array.replicate ops.size false) (At a (fun w'=>Bxs w0 w' l r F))):(Code.region id ops true).wp P Q a w :=
 region_W (fun w'=>Bxs w0 w' l r F) D hm hB.out.drew h
theorem zom {K : Act → World → Prop} (hB : Bxs w0 w l r F) (ty : TypeId) (ho : op.op = .alloc ty) (z : Value) (cs : List Value) (hz : (zeroValue ty).run P w = .ok z w) (hv : z.cells = cs.toArray)
  (h:∀b w',Bxs w0 w' ((b,cs)::l) r F→K (a.put op.dst (.pointer (some ⟨b,0,none⟩))) w'):op.wp P a w K Q:=by
 unfold Oper.wp execOp
 have h3:(Instr.alloc ty true (.tuple #[])).run P w = .ok (.pointer (some ⟨w.heap.size,0,none⟩)) (w.alloc (.cells cs.toArray ty)):=by
  simp [Instr.alloc,newVar,newRow,hz,hv]
 simp only [ho,Sem.run_bind,h3,Result.andThen_ok,Sem.run_pure]
 exact h _ _ (hB.alloc cs ty)
variable {md:Region.Mode} {D:Nat→Bool} {C:World→Prop}
theorem zal {i : Nat} {oi : Oper} {listed : Array Bool} {n : Nat} (hi : ops[i]? = some oi) (hr : Region.ready md ops listed = [i]) (hn : Region.wanted oi (yielded ops a.tmps) = true) (hd : D i = true) (hdst : oi.dst = none)
  (ty:TypeId) (x y:Operand) (ho:oi.op = .store ty x y) (b:Nat) (hx:a.eval x = .pointer (some ⟨b,0,none⟩)) (cs:List Value) (hy:a.eval y = .agg cs.toArray) (old:List Value)
  [hs:SetL b cs l old l'] (hl:cs.length=old.length) (hS:∀w,(sizeOf ty).run P w = .ok cs.length w) (h1:cs.all (·.oneCell')=true)
  (h:anyW P md ops Q C D n (listed.setIfInBounds i true) (At a (fun w'=>Bxs w0 w' l' r F))):anyW P md ops Q C D (n+1) listed (At a (fun w'=>Bxs w0 w' l r F)) :=
 zda (At a (fun w'=>Bxs w0 w' l' r F)) (At.bears za7) hi hr hn (.inl hd)
  (fun w hw=>zc0 hw ty x y ho b hx _ hy cs rfl old (by rw [zfd hl];exact hs.set) (by omega) (hS w) h1 fun _ hw'=>⟨by rw [hdst];rfl,hw'⟩) h
theorem zar {o i : Nat} {oi : Oper} {listed : Array Bool} {n : Nat} (hi : ops[i]? = some oi) (hr : Region.ready md ops listed = [i]) (hn : Region.wanted oi (yielded ops a.tmps) = true) (hd : D i = true) (hdst : oi.dst = none)
  (ty:TypeId) (x y:Operand) (ho:oi.op = .store ty x y) (b:Nat) (hx:a.eval x = .pointer (some ⟨b,o,none⟩)) (cs:List Value) (hy:a.eval y = .agg cs.toArray) (old new:List Value)
  [hs:SetL b new l old l'] (hnew:splice old o cs=new) (hl:o+cs.length≤old.length) (hS:∀w,(sizeOf ty).run P w = .ok cs.length w) (h1:cs.all (·.oneCell')=true)
  (h:anyW P md ops Q C D n (listed.setIfInBounds i true) (At a (fun w'=>Bxs w0 w' l' r F))):anyW P md ops Q C D (n+1) listed (At a (fun w'=>Bxs w0 w' l r F)) :=
 zda (At a (fun w'=>Bxs w0 w' l' r F)) (At.bears za7) hi hr hn (.inl hd)
  (fun w hw=>zc0 hw ty x y ho b hx _ hy cs rfl old (by rw [hnew];exact hs.set) hl (hS w) h1 fun _ hw'=>⟨by rw [hdst];rfl,hw'⟩) h
theorem zaq {o i : Nat} {oi : Oper} {listed : Array Bool} {n : Nat} (hi : ops[i]? = some oi) (hr : Region.ready md ops listed = [i]) (hn : Region.wanted oi (yielded ops a.tmps) = true) (hd : D i = true) (hdst : oi.dst = none)
  (ty:TypeId) (x:Operand) (v:Value) (ho:oi.op = .store ty x (.const v)) (b:Nat) (hx:a.eval x = .pointer (some ⟨b,o,none⟩)) (h1:v.oneCell'=true) (old new:List Value)
  [hs:SetL b new l old l'] (hnew:old.set o v=new) (hl:o < old.length) (hS:∀w,(sizeOf ty).run P w = .ok 1 w)
  (h:anyW P md ops Q C D n (listed.setIfInBounds i true) (At a (fun w'=>Bxs w0 w' l' r F))):anyW P md ops Q C D (n+1) listed (At a (fun w'=>Bxs w0 w' l r F)) :=
 zda (At a (fun w'=>Bxs w0 w' l' r F)) (At.bears za7) hi hr hn (.inl hd)
  (fun w hw => zc0 hw ty x _ ho b hx v rfl [v] (cells_one h1) old (by
    have e:splice old o [v]=new:=by rw [←hnew,List.set_eq_take_append_cons_drop,if_pos hl];rfl
    rw [e];exact hs.set) (by show o+1≤_;omega) (hS w) (by simp [h1]) fun _ hw'=>⟨by rw [hdst];rfl,hw'⟩) h
theorem zao {o i : Nat} {oi : Oper} {listed : Array Bool} {n : Nat} (hi : ops[i]? = some oi) (hr : Region.ready md ops listed = [i]) (hn : Region.wanted oi (yielded ops a.tmps) = true) (hd : D i = true) (hdst : oi.dst = none)
  (ty:TypeId) (x:Operand) (k:Nat) (ho:oi.op = .store ty x (.tmp k)) (b:Nat) (hx:a.eval x = .pointer (some ⟨b,o,none⟩)) (v:Value) (hy:a.tmps[k]? = some v) (h1:v.oneCell'=true) (old new:List Value)
  [hs:SetL b new l old l'] (hnew:old.set o v=new) (hl:o < old.length) (hS:∀w,(sizeOf ty).run P w = .ok 1 w)
  (h:anyW P md ops Q C D n (listed.setIfInBounds i true) (At a (fun w'=>Bxs w0 w' l' r F))):anyW P md ops Q C D (n+1) listed (At a (fun w'=>Bxs w0 w' l r F)) :=
 zda (At a (fun w'=>Bxs w0 w' l' r F)) (At.bears za7) hi hr hn (.inl hd)
  (fun w hw => zc0 hw ty x _ ho b hx v (zhs hy) [v] (cells_one h1) old (by
    have e:splice old o [v]=new:=by rw [←hnew,List.set_eq_take_append_cons_drop,if_pos hl];rfl
    rw [e];exact hs.set) (by show o+1≤_;omega) (hS w) (by simp [h1]) fun _ hw'=>⟨by rw [hdst];rfl,hw'⟩) h
end
end Go.Proofs.YtponpgcpmlcdpaaGreatDoor.Kx
