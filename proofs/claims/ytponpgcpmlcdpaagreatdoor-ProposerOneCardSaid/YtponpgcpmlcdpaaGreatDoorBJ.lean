import Derived.Test.YtponpgcpmlcdpaaGreatDoorBJm
import Derived.Test.YtponpgcpmlcdpaaGreatDoorBFs
import Derived.Test.YtponpgcpmlcdpaaGreatDoorKitM
import Derived.Test.YtponpgcpmlcdpaaGreatDoorBFj
import Derived.Test.YtponpgcpmlcdpaaGreatDoorKitH
set_option maxRecDepth 100000
namespace Go.Proofs.YtponpgcpmlcdpaaGreatDoor
open Go.RowKit Go.Shelf Km
structure Out (S:Nat→Prop) (w w':World):Prop where
 os:w'.os=w.os
 tape:w'.tape=w.tape
 output:w'.output=w.output
 size:w.heap.size≤w'.heap.size
 block:∀k,k < w.heap.size→¬ S k→w'.heap[k]? = w.heap[k]?
def Sx (S:Nat→Prop) (w w':World):Nat→Prop:=fun b=>S b∨(w.heap.size≤b∧b < w'.heap.size)
section
variable {S D:Nat→Prop} {w w' w'':World}
theorem Out.refl:Out S w w:=⟨rfl,rfl,rfl,Nat.le_refl _,fun _ _ _=>rfl⟩
theorem Out.below (h:Below w.heap.size w w'):Out S w w':=⟨h.os,h.tape,h.output,h.size,fun k hk _=>h.block k hk⟩
theorem Out.grown {row:Option Nat} (h:w.grownBy w' row) (hr:∀b,row=some b→S b):Out S w w':=⟨h.os,h.tape,h.output,h.size,fun k hk hn=>h.block k hk (fun e=>hn (hr k e.symm))⟩
theorem Out.trans (h:Out S w w') (k:Out (Sx S w w') w' w''):Out S w w'' :=
 ⟨k.os.trans h.os,k.tape.trans h.tape,k.output.trans h.output,Nat.le_trans h.size k.size,fun b hb hn=>(k.block b (Nat.lt_of_lt_of_le hb h.size) (fun q=>q.elim hn (fun q=>by omega))).trans (h.block b hb hn)⟩
theorem Out.more (h:Out S w w') (hS:∀b,S b→D b):Out D w w':=⟨h.os,h.tape,h.output,h.size,fun k hk hn=>h.block k hk (fun q=>hn (hS k q))⟩
theorem Out.to {B:Nat} (h:Out S w w') (hS:∀b,S b→B≤b) (hB:B≤w.heap.size):Below B w w' :=
 ⟨h.os,h.tape,h.output,h.size,fun k hk=>h.block k (by omega) (fun q=>by have:=hS k q;omega)⟩
theorem Sx.trans (h:w.heap.size≤w'.heap.size) (h':w'.heap.size≤w''.heap.size):Sx (Sx S w w') w' w''=Sx S w w'':=by
 funext b
 refine propext ⟨fun q => ?_,fun q => ?_⟩
 ·rcases q with (q|q)|q
  ·exact .inl q
  ·exact .inr ⟨q.1,by omega⟩
  ·exact .inr ⟨by omega,q.2⟩
 ·rcases q with q|q
  ·exact .inl (.inl q)
  ·by_cases hb:b < w'.heap.size
   ·exact .inl (.inr ⟨q.1,hb⟩)
   ·exact .inr ⟨by omega,q.2⟩
theorem Sx.in {b:Nat} (h:S b):Sx S w w' b:=.inl h
end
def jvs (kv rv:Value) (burn:Int) (off:Bool):List Value:=[kv,rv,.int .i64 burn,.bool off]
structure JAt (w:World) (S:Nat→Prop) (g:Nat) (s:Jm.St) (kv rv:Value):Prop where
 rng:w.rangeAt g 0 (jvs kv rv s.burn s.off)
 th:w.there g 0 4
 sg:S g
 lt:∀b,S b→b < w.heap.size
 kr:w.ownsRow 0 5 1 kv s.kept.length (u8s s.kept)
 rr:w.ownsRow 0 5 1 rv s.rest.length (u8s s.rest)
 kS:∀b,kv.ownBlock=some b→S b∧b≠g
 rS:∀b,rv.ownBlock=some b→S b∧b≠g
 k2:∀b,kv.ownBlock=some b→rv.ownBlock≠some b
 ok:Jm.Ok s
section
variable {S D:Nat→Prop} {w w':World} {g:Nat} {s:Jm.St} {kv rv:Value}
theorem JAt.same (h:JAt w S g s kv rv) (hb:∀b,S b→w'.heap[b]? = w.heap[b]?) (hs:w.heap.size≤w'.heap.size):JAt w' S g s kv rv:=by
 refine ⟨fun j v hv => ?_,fun j hj => ?_,h.sg,fun b q=>Nat.lt_of_lt_of_le (h.lt b q) hs,zb2 h.kr fun b e=>hb b (h.kS b e).1,zb2 h.rr fun b e=>hb b (h.rS b e).1,h.kS,h.rS,h.k2,h.ok⟩
 ·rw [World.cell?_of_block (hb g h.sg)];exact h.rng j v hv
 ·rw [World.cell?_of_block (hb g h.sg),World.frozen?_of_block (hb g h.sg)];exact h.th j hj
theorem JAt.out (h:JAt w S g s kv rv) (ho:Out D w w') (hd:∀b,S b→¬ D b):JAt w' S g s kv rv:=h.same (fun b q=>ho.block b (h.lt b q) (hd b q)) ho.size
theorem JAt.below (h:JAt w S g s kv rv) (hb:Below w.heap.size w w'):JAt w' S g s kv rv:=h.same (fun b q=>hb.block b (h.lt b q)) hb.size
theorem JAt.more (h:JAt w S g s kv rv) (hS:∀b,S b→D b) (hD:∀b,D b→b < w.heap.size):JAt w D g s kv rv :=
 ⟨h.rng,h.th,hS _ h.sg,hD,h.kr,h.rr,fun b e=>⟨hS _ (h.kS b e).1,(h.kS b e).2⟩,fun b e=>⟨hS _ (h.rS b e).1,(h.rS b e).2⟩,h.k2,h.ok⟩
theorem JAt.sx (h:JAt w' S g s kv rv):JAt w' (Sx S w w') g s kv rv:=h.more (fun _ q => .inl q) (fun b q=>q.elim (h.lt b) (·.2))
theorem JAt.at (h:JAt w S g s kv rv) (j:Nat) {v:Value} (hv:(jvs kv rv s.burn s.off)[j]? = some v):w.cell? ⟨g,j,none⟩=some v∧w.frozen? ⟨g,j,none⟩=false:=by
 have hj:j < 4:=(List.getElem?_eq_some_iff.1 hv).1
 have:=(h.th j hj).2
 rw [Nat.zero_add] at this
 refine ⟨?_,this⟩
 have h2:=h.rng j v hv
 rwa [Nat.zero_add] at h2
end
end Go.Proofs.YtponpgcpmlcdpaaGreatDoor
namespace Go.Proofs.YtponpgcpmlcdpaaGreatDoor
open Go.RowKit Go.Shelf Km
section
variable {S:Nat→Prop} {w w':World} {g:Nat} {s s':Jm.St} {kv rv kv' rv':Value}
theorem zfs {b k:Nat} (h:w.grownBy w' (some b)) (hk:k < w.heap.size) (hn:k≠b):w'.heap[k]? = w.heap[k]?:=h.block k hk (fun e=>hn (by injection e))
theorem JAt.set (h : JAt w S g s kv rv) (p : Nat) (v : Value) (hp : p < 4) (e : jvs kv' rv' s'.burn s'.off = (jvs kv rv s.burn s.off).set p v)
  (kr:w.ownsRow 0 5 1 kv' s'.kept.length (u8s s'.kept)) (rr:w.ownsRow 0 5 1 rv' s'.rest.length (u8s s'.rest))
  (kS:∀b,kv'.ownBlock=some b→S b∧b≠g) (rS:∀b,rv'.ownBlock=some b→S b∧b≠g) (k2:∀b,kv'.ownBlock=some b→rv'.ownBlock≠some b) (ok:Jm.Ok s'):JAt (w.setCell ⟨g,p,none⟩ v) S g s' kv' rv':=by
 have hg:=zbj g p v w
 refine ⟨?_,World.there_setCells h.th g p [v],h.sg,fun b q=>Nat.lt_of_lt_of_le (h.lt b q) hg.size,zb2 kr fun b q=>zfs hg (h.lt b (kS b q).1) (kS b q).2,zb2 rr fun b q=>zfs hg (h.lt b (rS b q).1) (rS b q).2,kS,rS,k2,ok⟩
 rw [e]
 match p,hp with
 |0,_=>exact zc7 (p:=0) (xs:=[]) (ys:=[kv]) (zs:=[rv,.int .i64 s.burn,.bool s.off]) (cs:=[v]) h.rng rfl rfl (zb6 h.th (Nat.zero_le _) (Nat.le_of_ble_eq_true rfl))
 |1,_=>exact zc7 (p:=1) (xs:=[kv]) (ys:=[rv]) (zs:=[.int .i64 s.burn,.bool s.off]) (cs:=[v]) h.rng rfl rfl (zb6 h.th (Nat.zero_le _) (Nat.le_of_ble_eq_true rfl))
 |2,_=>exact zc7 (p:=2) (xs:=[kv,rv]) (ys:=[.int .i64 s.burn]) (zs:=[.bool s.off]) (cs:=[v]) h.rng rfl rfl (zb6 h.th (Nat.zero_le _) (Nat.le_of_ble_eq_true rfl))
 |3,_=>exact zc7 (p:=3) (xs:=[kv,rv,.int .i64 s.burn]) (ys:=[.bool s.off]) (zs:=[]) (cs:=[v]) h.rng rfl rfl (zb6 h.th (Nat.zero_le _) (Nat.le_of_ble_eq_true rfl))
theorem JAt.burn (h:JAt w S g s kv rv) (n:Int) (ok:Jm.Ok { s with burn:=n }):JAt (w.setCell ⟨g,2,none⟩ (.int .i64 n)) S g { s with burn:=n } kv rv :=
 h.set 2 _ (by decide) rfl h.kr h.rr h.kS h.rS h.k2 ok
theorem JAt.offs (h:JAt w S g s kv rv) (b:Bool):JAt (w.setCell ⟨g,3,none⟩ (.bool b)) S g { s with off:=b } kv rv :=
 h.set 3 _ (by decide) rfl h.kr h.rr h.kS h.rS h.k2 ⟨h.ok.k,h.ok.r,h.ok.lo,h.ok.hi⟩
theorem JAt.norest (h:JAt w S g s kv rv):JAt (w.setCell ⟨g,1,none⟩ (.slice none 0 0)) S g { s with rest:=[] } kv (.slice none 0 0) :=
 h.set 1 _ (by decide) rfl h.kr (World.ownsRow_nil _ _ _ _) h.kS (fun b e=>nomatch e) (fun b _ e=>nomatch e) ⟨h.ok.k,Fm.By.nil,h.ok.lo,h.ok.hi⟩
theorem JAt.zf7 (h:JAt w S g s kv rv) (p:Nat) (v:Value):Out S w (w.setCell ⟨g,p,none⟩ v):=Out.grown (zbj g p v w) (fun b e=>by injection e with e;subst e;exact h.sg)
theorem JAt.rest (h : JAt w S g s kv rv) (hg : w.grownBy w' rv.ownBlock) {b : List Int} (hb : Fm.By b) {v' : Value} (hown : w'.ownsRow 0 5 1 v' (s.rest ++ b).length (u8s (s.rest ++ b)))
  (hone:v'.ownBlock=rv.ownBlock∨v'.ownBlock=some w.heap.size):JAt (w'.setCell ⟨g,1,none⟩ v') (Sx S w w') g { s with rest:=s.rest++b } kv v'∧Out S w (w'.setCell ⟨g,1,none⟩ v'):=by
 have hgl:=h.lt g h.sg
 have keep:∀k,k < w.heap.size→rv.ownBlock≠some k→w'.heap[k]? = w.heap[k]?:=fun k hk hn=>hg.block k hk (fun e=>hn e.symm)
 have kg:w'.heap[g]? = w.heap[g]?:=keep g hgl (fun e=>(h.rS g e).2 rfl)
 have vS:∀q,v'.ownBlock=some q→Sx S w w' q∧q≠g:=fun q e=>by
  rcases hone with e1|e1
  ·rw [e1] at e
   exact ⟨.inl (h.rS q e).1,(h.rS q e).2⟩
  ·have hl:=(hown.lt q e).2
   rw [e1] at e
   injection e with e
   exact ⟨.inr ⟨by omega,hl⟩,by omega⟩
 have base:w'.rangeAt g 0 (jvs kv rv s.burn s.off)∧w'.there g 0 4:=⟨fun j v hv=>by rw [World.cell?_of_block kg];exact h.rng j v hv,fun j hj=>by rw [World.cell?_of_block kg,World.frozen?_of_block kg];exact h.th j hj⟩
 have kr':w'.ownsRow 0 5 1 kv s.kept.length (u8s s.kept):=zb2 h.kr fun q e=>keep q (h.lt q (h.kS q e).1) (fun e2=>h.k2 q e e2)
 have hs:=zbj g 1 v' w'
 have hgl':=Nat.lt_of_lt_of_le hgl hg.size
 refine ⟨⟨?_,World.there_setCells base.2 g 1 [v'],.inl h.sg,fun q hq=>Nat.lt_of_lt_of_le (hq.elim (fun hq=>Nat.lt_of_lt_of_le (h.lt q hq) hg.size) (fun hq=>hq.2)) hs.size,zb2 kr' fun q e=>zfs hs (Nat.lt_of_lt_of_le (h.lt q (h.kS q e).1) hg.size) (h.kS q e).2,
  zb2 hown fun q e=>zfs hs (hown.lt q e).2 (vS q e).2,fun q e=>⟨.inl (h.kS q e).1,(h.kS q e).2⟩,vS,fun q e e2 => ?_,⟨h.ok.k,h.ok.r.app hb,h.ok.lo,h.ok.hi⟩⟩,?_⟩
 ·exact zc7 (p:=1) (xs:=[kv]) (ys:=[rv]) (zs:=[.int .i64 s.burn,.bool s.off]) (cs:=[v']) base.1 rfl rfl (zb6 base.2 (Nat.zero_le _) (Nat.le_of_ble_eq_true rfl))
 ·rcases hone with e1|e1
  ·exact h.k2 q e (e1▸e2)
  ·rw [e1] at e2
   injection e2 with e2
   have:=h.lt q (h.kS q e).1
   omega
 ·exact (Out.grown hg (fun q e=>(h.rS q e).1)).trans (Out.grown hs (fun q e=>by injection e with e;subst e;exact .inl h.sg))
theorem JAt.kept (h : JAt w S g s kv rv) (hg : w.grownBy w' kv.ownBlock) {b : List Int} (hb : Fm.By b) {v' : Value} (hown : w'.ownsRow 0 5 1 v' (s.kept ++ b).length (u8s (s.kept ++ b)))
  (hone:v'.ownBlock=kv.ownBlock∨v'.ownBlock=some w.heap.size):JAt (w'.setCell ⟨g,0,none⟩ v') (Sx S w w') g { s with kept:=s.kept++b } v' rv∧Out S w (w'.setCell ⟨g,0,none⟩ v'):=by
 have hgl:=h.lt g h.sg
 have keep:∀k,k < w.heap.size→kv.ownBlock≠some k→w'.heap[k]? = w.heap[k]?:=fun k hk hn=>hg.block k hk (fun e=>hn e.symm)
 have kg:w'.heap[g]? = w.heap[g]?:=keep g hgl (fun e=>(h.kS g e).2 rfl)
 have vS:∀q,v'.ownBlock=some q→Sx S w w' q∧q≠g:=fun q e=>by
  rcases hone with e1|e1
  ·rw [e1] at e
   exact ⟨.inl (h.kS q e).1,(h.kS q e).2⟩
  ·have hl:=(hown.lt q e).2
   rw [e1] at e
   injection e with e
   exact ⟨.inr ⟨by omega,hl⟩,by omega⟩
 have base:w'.rangeAt g 0 (jvs kv rv s.burn s.off)∧w'.there g 0 4:=⟨fun j v hv=>by rw [World.cell?_of_block kg];exact h.rng j v hv,fun j hj=>by rw [World.cell?_of_block kg,World.frozen?_of_block kg];exact h.th j hj⟩
 have rr':w'.ownsRow 0 5 1 rv s.rest.length (u8s s.rest):=zb2 h.rr fun q e=>keep q (h.lt q (h.rS q e).1) (fun e2=>h.k2 q e2 e)
 have hs:=zbj g 0 v' w'
 refine ⟨⟨?_,World.there_setCells base.2 g 0 [v'],.inl h.sg,fun q hq=>Nat.lt_of_lt_of_le (hq.elim (fun hq=>Nat.lt_of_lt_of_le (h.lt q hq) hg.size) (fun hq=>hq.2)) hs.size,zb2 hown fun q e=>zfs hs (hown.lt q e).2 (vS q e).2,
  zb2 rr' fun q e=>zfs hs (Nat.lt_of_lt_of_le (h.lt q (h.rS q e).1) hg.size) (h.rS q e).2,vS,fun q e=>⟨.inl (h.rS q e).1,(h.rS q e).2⟩,fun q e e2 => ?_,⟨h.ok.k.app hb,h.ok.r,h.ok.lo,h.ok.hi⟩⟩,?_⟩
 ·exact zc7 (p:=0) (xs:=[]) (ys:=[kv]) (zs:=[rv,.int .i64 s.burn,.bool s.off]) (cs:=[v']) base.1 rfl rfl (zb6 base.2 (Nat.zero_le _) (Nat.le_of_ble_eq_true rfl))
 ·rcases hone with e1|e1
  ·exact h.k2 q (e1▸e) e2
  ·rw [e1] at e
   injection e with e
   have:=h.lt q (h.rS q e2).1
   omega
 ·exact (Out.grown hg (fun q e=>(h.kS q e).1)).trans (Out.grown hs (fun q e=>by injection e with e;subst e;exact .inl h.sg))
theorem JAt.fresh (h : JAt w S g s kv rv) (hb : Below w.heap.size w w') {b : List Int} (hy : Fm.By b) {v' : Value} (hown : w'.ownsRow w.heap.size 5 1 v' b.length (u8s b)) :
  JAt (w'.setCell ⟨g,0,none⟩ v') (Sx S w w') g { s with kept:=b } v' rv∧Out S w (w'.setCell ⟨g,0,none⟩ v'):=by
 have hgl:=h.lt g h.sg
 have h':=(h.below hb).sx (w:=w)
 have vS:∀q,v'.ownBlock=some q→Sx S w w' q∧q≠g:=fun q e=>⟨.inr (hown.lt q e),by have:=(hown.lt q e).1;omega⟩
 refine ⟨h'.set 0 v' (by decide) rfl (zb3 hown (Nat.zero_le _)) h'.rr vS h'.rS (fun q e e2 => ?_) ⟨hy,h.ok.r,h.ok.lo,h.ok.hi⟩,(Out.below hb).trans (h'.zf7 0 v')⟩
 have h1:=(hown.lt q e).1
 have h2:=h.lt q (h.rS q e2).1
 omega
theorem JAt.at_set {p:Nat} {v:Value} (h:JAt (w'.setCell ⟨g,p,none⟩ v) (Sx S w w') g s kv rv):JAt (w'.setCell ⟨g,p,none⟩ v) (Sx S w (w'.setCell ⟨g,p,none⟩ v)) g s kv rv :=
 h.more (fun _ q=>q.imp id (fun q=>⟨q.1,Nat.lt_of_lt_of_le q.2 (zbj g p v w').size⟩)) (fun b q=>q.elim (fun q=>h.lt b (.inl q)) (fun q=>q.2))
end
end Go.Proofs.YtponpgcpmlcdpaaGreatDoor
namespace Go.Proofs.YtponpgcpmlcdpaaGreatDoor
open Go.RowKit Go.Shelf Km
def Jat (w:World) (S:Nat→Prop) (g:Nat) (s:Jm.St):Prop:=∃kv rv,JAt w S g s kv rv
theorem Jm.ok_fall {s:Jm.St} (h:Jm.Ok s):Jm.Ok { s with burn := -1 }:=⟨h.k,h.r,by show (-1:Int) ≤ -1;decide,by show (-1:Int)≤9223372036854775807;decide⟩
section
variable {w:World} {S:Nat→Prop} {g:Nat} {s:Jm.St} {kv rv:Value}
set_option maxHeartbeats 1000000 in
theorem zn9 (h : JAt w S g s kv rv) :
  Calls Tryz.prog 31 #[.pointer (some ⟨g,0,none⟩)] w fun e w'=>e = .returned (.tuple #[])∧JAt w' S g { s with burn := -1,off:=true } kv rv∧Out S w w':=by
 have h1:=h.burn (-1) (Jm.ok_fall h.ok)
 have h2:=h1.offs true
 have o1:=h.zf7 2 (.int .i64 (-1))
 have o2:=h1.zf7 3 (.bool true)
 obtain ⟨c1,f1⟩:=h.at 2 rfl
 obtain ⟨c2,f2⟩:=h1.at 3 rfl
 have HE:=Lib.hid (show JAt _ S g _ kv rv∧Out S w _ from ⟨h2,o1.trans (o2.more fun _ q => .inl q)⟩)
 clear h h1 h2 o1 o2
 go_enter Tryz.func31,Tryz.ntmps31
 go_wp2
 go_end0
 exact ⟨rfl,HE.out⟩
set_option maxHeartbeats 1000000 in
theorem down_any (h : JAt w S g s kv rv) :
  Calls Tryz.prog 36 #[.pointer (some ⟨g,0,none⟩)] w fun e w'=>e = .returned (.bool s.off)∧w'=w:=by
 obtain ⟨c1,f1⟩:=h.at 3 rfl
 clear h
 go_enter Tryz.func36,Tryz.ntmps36
 go_wp2
 go_ret
 exact ⟨rfl,rfl⟩
theorem zes {w:World} {base:Nat} {e:TypeId} {v:Value} {n:Nat} {xs:List Value} (h:w.ownsRow base e 1 v n xs):∃A cap,v = .slice A n cap∧n≤cap∧cap≤maxLen∧Rd w w.heap.size A xs∧(A=none→cap=0):=by
 rcases h.2 with ⟨rfl,rfl⟩|⟨g,cap,cur,rfl,_,_,h1,h2,_⟩
 ·have:xs=[]:=List.eq_nil_of_length_eq_zero (by simpa using h.1)
  subst this
  exact ⟨none,0,rfl,Nat.le_refl _,Nat.zero_le _,Rd.nil _ _ _,fun _=>rfl⟩
 ·exact ⟨_,cap,rfl,h1,h2,Rd.zqs h,fun e=>by cases e⟩
end
theorem JAt.make (w:World) (t:TypeId):JAt (w.alloc (.cells #[.slice none 0 0,.slice none 0 0,.int .i64 (-1),.bool false] t)) (fun b=>b=w.heap.size) w.heap.size Jm.new (.slice none 0 0) (.slice none 0 0) :=
 ⟨zct w [.slice none 0 0,.slice none 0 0,.int .i64 (-1),.bool false] t,zby w [.slice none 0 0,.slice none 0 0,.int .i64 (-1),.bool false] t,rfl,
  (fun b e=>by rw [e,World.size_alloc];omega),World.ownsRow_nil _ _ _ _,World.ownsRow_nil _ _ _ _,(fun b e=>nomatch e),(fun b e=>nomatch e),(fun b e=>nomatch e),Jm.ok_new⟩
end Go.Proofs.YtponpgcpmlcdpaaGreatDoor
namespace Go.Proofs.YtponpgcpmlcdpaaGreatDoor
open Go.RowKit Go.Shelf Km
section
variable {w:World} {S:Nat→Prop} {g:Nat} {s:Jm.St} {kv rv:Value}
theorem zcv {P : Program} {f : FuncId} {fn : Func} {c : Code} (hf : P.funcs[f]? = some fn) (hname : (fn.name == "runtime.NumGoroutine") = false) (hb : fn.body = some c) (args : Array Value) (w : World) :
  (callFunc f args).run P w = .ok (.enter f args) w:=by
 have h1 : fn.name ≠ "runtime.NumGoroutine" := by simpa using hname
 simp [callFunc,hf,h1,hb]
theorem JAt.hid {w':World} {s':Jm.St} {kv' rv':Value} (k:JAt w' S g s' kv' rv') (o:Out S w w'):Hid (JAt w' S g s' kv' rv'∧Out S w w'):=⟨k,o⟩
theorem JAt.burned (h:JAt w S g s kv rv) (h0:0 < s.burn):JAt (w.setCell ⟨g,2,none⟩ (.int .i64 (s.burn - 1))) S g { s with burn:=s.burn - 1 } kv rv :=
 h.burn _ ⟨h.ok.k,h.ok.r,(by show -1≤s.burn - 1;omega),(by show s.burn - 1≤_;have:=h.ok.hi;omega)⟩
set_option maxHeartbeats 1000000 in
theorem zf5 {Q : World → Prop} (h : JAt w S g s kv rv) (f : FuncId) (lb : Array Value) (hin : ∀ W, (callFunc f lb).run Tryz.prog W = .ok (.enter f lb) W)
  (hD:(Jm.eff s).2=0→∀w',JAt w' S g (Jm.eff s).1 kv rv→Out S w w'→Calls Tryz.prog f lb w' fun e w''=>e = .returned (.tuple #[])∧Q w'')
  (hE:(Jm.eff s).2≠0→∀w',JAt w' S g (Jm.eff s).1 kv rv→Out S w w'→Q w') :
  Calls Tryz.prog 54 #[.pointer (some ⟨g,0,none⟩),.func (.func f) #[] lb] w fun e w'=>e = .returned (.int .i64 (Jm.eff s).2)∧Q w':=by
 obtain ⟨c3,f3⟩:=h.at 3 rfl
 obtain ⟨c2,f2⟩:=h.at 2 rfl
 by_cases h1:s.off=true
 ·rw [Jm.eff_off h1] at hE ⊢
  have HQ:=Lib.hid (hE (by show (61:Int)≠0;decide) w h Out.refl)
  rw [h1] at c3
  clear h hD hE f2 f3
  go_enter Tryz.func54,Tryz.ntmps54
  go_wp2
  go_ret
  exact ⟨rfl,HQ.out⟩
 have h1':s.off=false:=by simpa using h1
 rw [h1'] at c3
 by_cases h2:s.burn=0
 ·rw [Jm.zkn h1' h2] at hE ⊢
  have HQ:=Lib.hid (hE (by show (61:Int)≠0;decide))
  have HF:=Lib.hid (zn9 h)
  rw [h2] at c2
  clear h hD hE f2 f3 h1 h1' h2
  go_enter Tryz.func54,Tryz.ntmps54
  go_wp2_with (go_at_call 31;refine HF.out.mono ?_;rintro e w' ⟨rfl,k1,k2⟩)
  go_ret
  exact ⟨rfl,HQ.out _ k1 k2⟩
 by_cases h3:0 < s.burn
 ·rw [Jm.zko h1' h3] at hD ⊢
  have HC:=Lib.hid (hD rfl _ (h.burned h3) (h.zf7 2 _))
  have hw:IntKind.i64.wrap (s.burn - 1)=s.burn - 1:=IntWalk.i64_in _ (by have:=h.ok.hi;omega)
  have hn:(s.burn == 0)=false:=by simpa using h2
  generalize s.burn=n at *
  clear h hD hE f3 h1 h1'
  go_enter Tryz.func54,Tryz.ntmps54
  go_wp2_with (refine HC.out.mono ?_;rintro e w' ⟨rfl,k1⟩)
  go_ret
  exact ⟨rfl,k1⟩
 ·rw [Jm.zgl h1' (by omega)] at hD ⊢
  have HC:=Lib.hid (hD rfl _ h Out.refl)
  have hn:(s.burn == 0)=false:=by simpa using h2
  generalize s.burn=n at *
  clear h hD hE f3 f2 h1 h1'
  go_enter Tryz.func54,Tryz.ntmps54
  go_wp2_with (refine HC.out.mono ?_;rintro e w' ⟨rfl,k1⟩)
  go_ret
  exact ⟨rfl,k1⟩
end
end Go.Proofs.YtponpgcpmlcdpaaGreatDoor
namespace Go.Proofs.YtponpgcpmlcdpaaGreatDoor
open Go.RowKit Go.Shelf Km
def Did (S:Nat→Prop) (w w':World) (g:Nat) (s:Jm.St):Prop:=Jat w' (Sx S w w') g s∧Out S w w'
section
variable {w w' w'':World} {S:Nat→Prop} {g:Nat} {s s':Jm.St} {kv rv:Value}
theorem Did.of (k:JAt w' S g s' kv rv) (o:Out S w w'):Did S w w' g s':=⟨⟨_,_,k.sx⟩,o⟩
theorem Did.trans (h:Did S w w' g s) (k:Did (Sx S w w') w' w'' g s'):Did S w w'' g s':=by
 obtain ⟨k1,k2⟩:=k
 rw [Sx.trans h.2.size k2.size] at k1
 exact ⟨k1,h.2.trans k2⟩
theorem JAt.drew (h:JAt w S g s kv rv):JAt w.drew S g s kv rv:=h.same (fun _ _=>rfl) (Nat.le_refl _)
theorem Did.drew (h:Did S w.drew w' g s):Did S w w' g s:=⟨h.1,h.2.os,h.2.tape,h.2.output,h.2.size,h.2.block⟩
theorem zj5 (W:World) (p:Addr) (v:Value):(W.setCell p v).heap.size=W.heap.size:=by
 unfold World.setCell
 split<;>simp
theorem JAt.keeping (h : JAt w S g s kv rv) (hg : w.grownBy w' kv.ownBlock) {b : List Int} (hb : Fm.By b) {v' : Value} (hown : w'.ownsRow 0 5 1 v' (s.kept ++ b).length (u8s (s.kept ++ b)))
  (hone:v'.ownBlock=kv.ownBlock∨v'.ownBlock=some w.heap.size) :
  (w'.cell? ⟨g, 0, none⟩ = some kv ∧ w'.frozen? ⟨g, 0, none⟩ = false) ∧ ((w'.setCell ⟨g, 0, none⟩ v').cell? ⟨g, 1, none⟩ = some rv ∧ (w'.setCell ⟨g, 0, none⟩ v').frozen? ⟨g, 1, none⟩ = false) ∧
    Hid (∃S':Nat→Prop,(∀b,S' b→Sx S w ((w'.setCell ⟨g,0,none⟩ v').setCell ⟨g,1,none⟩ (.slice none 0 0)) b)∧JAt ((w'.setCell ⟨g,0,none⟩ v').setCell ⟨g,1,none⟩ (.slice none 0 0)) S' g { s with kept:=s.kept++b,rest:=[] } v' (.slice none 0 0)) ∧
    Hid (Did S w ((w'.setCell ⟨g,0,none⟩ v').setCell ⟨g,1,none⟩ (.slice none 0 0)) g { s with kept:=s.kept++b,rest:=[] }):=by
 have hgl:=h.lt g h.sg
 have kg:w'.heap[g]? = w.heap[g]?:=hg.block g hgl (fun e=>(h.kS g e.symm).2 rfl)
 obtain ⟨c0,f0⟩:=h.at 0 rfl
 obtain ⟨k1,o1⟩:=h.kept hg hb hown hone
 have k2:=k1.norest
 have o2:=k1.zf7 1 (.slice none 0 0)
 have hs:∀b,Sx S w w' b→Sx S w (w'.setCell ⟨g,0,none⟩ v') b:=fun b q=>q.imp id fun q=>⟨q.1,by rw [zj5];exact q.2⟩
 have hs2:∀b,Sx S w w' b→Sx S w ((w'.setCell ⟨g,0,none⟩ v').setCell ⟨g,1,none⟩ (.slice none 0 0)) b:=fun b q=>q.imp id fun q=>⟨q.1,by rw [zj5,zj5];exact q.2⟩
 refine ⟨⟨(World.cell?_of_block kg).trans c0,(World.frozen?_of_block kg).trans f0⟩,k1.at 1 rfl,⟨_,hs2,k2⟩,⟨_,_,k2.more hs2 fun b q => ?_⟩,o1.trans (o2.more hs)⟩
 rcases q with q|q
 ·exact k2.lt b (.inl q)
 ·exact q.2
set_option maxHeartbeats 2000000 in
theorem zn3 (h : JAt w S g s kv rv) (n : Nat) (hn : n ≤ s.rest.length) (hz : Jm.size s ≤ 16777216) :
  Calls Tryz.prog 30 #[.pointer (some ⟨g,0,none⟩),.int .i64 (n:Int)] w fun e w'=>e = .returned (.tuple #[])∧Did S w w' g { s with kept:=s.kept++s.rest.take n,rest:=[] }:=by
 obtain ⟨i0,hi,hz0,hz1,hz2⟩:=info_parts zci
 obtain ⟨Ar,cr,rfl,hr1,hr2,hrd,-⟩:=zes h.rr
 have hsl:∀W,(Instr.slice 35 (.slice Ar s.rest.length cr) none (some (.int .i64 (n:Int))) none).run Tryz.prog W = .ok (.slice (cutA Ar 0 cr) n cr) W:=fun W=>zh4 (P:=Tryz.prog) Tryz.underlying35 (zbo hi hz1) Ar s.rest.length cr n (by omega) W
 have hrc:=zqd (n:=n) hrd hr1
 have hln:(u8s (s.rest.take n)).length=n:=by rw [List.length_map,List.length_take];omega
 generalize cutA Ar 0 cr=Ac at hsl hrc
 unfold Jm.size at hz
 have HJ:=Lib.hid (fun (W:World) (q:Below w.heap.size w W)=>h.below q)
 go_enter Tryz.func30,Tryz.ntmps30
 go_wp2_with fail
 refine zea (fun W=>Below w.heap.size w W) (fun j=>j == 11 || j == 14) (by kernel_rfl) ?_
 have hC:Below w.heap.size w w.drew:=(Below.refl _ _).drew
 refine zak (i:=0) (v := ?v0_321) (a' := ?a0_321) rfl (by kernel_rfl) (by kernel_rfl) (by kernel_rfl) (fun _ _ _ h=>h) (by first|exact .inl hC|exact .inr (by kernel_rfl)) (by kernel_rfl) ?w0_321 ?y0_321 ?f0_321 ?r0_321
 case w0_321=>kernel_rfl
 case y0_321=>(intro w hC;go_simp;try with_reducible rfl)
 case f0_321=>(go_simp;try with_reducible rfl)
 refine zak (i:=1) (v := ?v1_322) (a' := ?a1_322) rfl (by kernel_rfl) (by kernel_rfl) (by kernel_rfl) (fun _ _ _ h=>h) (by first|exact .inl hC|exact .inr (by kernel_rfl)) (by kernel_rfl) ?w1_322 ?y1_322 ?f1_322 ?r1_322
 case w1_322=>kernel_rfl
 case y1_322=>(intro w hC;go_simp;try with_reducible rfl)
 case f1_322=>(go_simp;try with_reducible rfl)
 refine zak (i:=2) (v := ?v2_323) (a' := ?a2_323) rfl (by kernel_rfl) (by kernel_rfl) (by kernel_rfl) (fun _ _ _ h=>h) (by first|exact .inl hC|exact .inr (by kernel_rfl)) (by kernel_rfl) ?w2_323 ?y2_323 ?f2_323 ?r2_323
 case w2_323=>kernel_rfl
 case y2_323=>(intro w hC;go_simp;try with_reducible rfl)
 case f2_323=>(go_simp;try with_reducible rfl)
 refine zak (i:=3) (v := ?v3_324) (a' := ?a3_324) rfl (by kernel_rfl) (by kernel_rfl) (by kernel_rfl) (fun _ _ _ h=>h) (by first|exact .inl hC|exact .inr (by kernel_rfl)) (by kernel_rfl) ?w3_324 ?y3_324 ?f3_324 ?r3_324
 case w3_324=>kernel_rfl
 case y3_324=>(intro w hC;go_simp;try with_reducible rfl)
 case f3_324=>(go_simp;try with_reducible rfl)
 refine zak (i:=5) (v := ?v5_325) (a' := ?a5_325) rfl (by kernel_rfl) (by kernel_rfl) (by kernel_rfl) (fun _ _ _ h=>h) (by first|exact .inl hC|exact .inr (by kernel_rfl)) (by kernel_rfl) ?w5_325 ?y5_325 ?f5_325 ?r5_325
 case w5_325=>kernel_rfl
 case y5_325=>(intro w hC;go_simp;try with_reducible rfl)
 case f5_325=>(go_simp;try with_reducible rfl)
 refine zak (i:=6) (v := ?v6_326) (a' := ?a6_326) rfl (by kernel_rfl) (by kernel_rfl) (by kernel_rfl) (fun _ _ _ h=>h) (by first|exact .inl hC|exact .inr (by kernel_rfl)) (by kernel_rfl) ?w6_326 ?y6_326 ?f6_326 ?r6_326
 case w6_326=>kernel_rfl
 case y6_326=>(intro w hC;go_simp;try with_reducible rfl)
 case f6_326=>(go_simp;try with_reducible rfl)
 refine zak (i:=7) (v := ?v7_327) (a' := ?a7_327) rfl (by kernel_rfl) (by kernel_rfl) (by kernel_rfl) (fun _ _ _ h=>h) (by first|exact .inl hC|exact .inr (by kernel_rfl)) (by kernel_rfl) ?w7_327 ?y7_327 ?f7_327 ?r7_327
 case w7_327=>kernel_rfl
 case y7_327=>(intro w hC;go_simp;try with_reducible rfl)
 case f7_327=>(go_simp;try with_reducible rfl)
 refine zak (i:=9) (v := ?v9_328) (a' := ?a9_328) rfl (by kernel_rfl) (by kernel_rfl) (by kernel_rfl) (fun _ _ _ h=>h) (by first|exact .inl hC|exact .inr (by kernel_rfl)) (by kernel_rfl) ?w9_328 ?y9_328 ?f9_328 ?r9_328
 case w9_328=>kernel_rfl
 case y9_328=>(intro w hC;go_simp;try with_reducible rfl)
 case f9_328=>(go_simp;try with_reducible rfl)
 refine zbb (i:=4) (v := ?v4_329) (a' := ?a4_329) rfl (by kernel_rfl) (by kernel_rfl) (by kernel_rfl) (fun _ _ _ h=>h) hC (by kernel_rfl) ?w4_329 ?y4_329 ?f4_329 ?r4_329
 case w4_329=>kernel_rfl
 case y4_329=>(intro w hC;have h4:=((HJ.out w hC).at 0 rfl).1;go_simp;try with_reducible rfl)
 case f4_329=>(go_simp;try with_reducible rfl)
 refine zbb (i:=8) (v := ?v8_330) (a' := ?a8_330) rfl (by kernel_rfl) (by kernel_rfl) (by kernel_rfl) (fun _ _ _ h=>h) hC (by kernel_rfl) ?w8_330 ?y8_330 ?f8_330 ?r8_330
 case w8_330=>kernel_rfl
 case y8_330=>(intro w hC;have h4:=((HJ.out w hC).at 1 rfl).1;go_simp;try with_reducible rfl)
 case f8_330=>(go_simp;try with_reducible rfl)
 refine zak (i:=10) (v := ?v10_331) (a' := ?a10_331) rfl (by kernel_rfl) (by kernel_rfl) (by kernel_rfl) (fun _ _ _ h=>h) (by first|exact .inl hC|exact .inr (by kernel_rfl)) (by kernel_rfl) ?w10_331 ?y10_331 ?f10_331 ?r10_331
 case w10_331=>kernel_rfl
 case y10_331=>(intro w hC;go_simp;try with_reducible rfl)
 case f10_331=>(go_simp;try with_reducible rfl)
 refine zbq (i:=11) rfl (by kernel_rfl) (by kernel_rfl) (fun K hK => ?_)
 refine zqr (.tmp 8) (.tmp 14) 35 rfl 0 5 i0 (.int .u8 0) 1 Tryz.underlying35 hi hz0 hz1 hz2 rfl kv s.kept.length (u8s s.kept) rfl (HJ.out _ hC).kr w.heap.size Ac n cr (u8s (s.rest.take n)) rfl hln hrc (zbs _ _) (by unfold maxLen;omega) (by omega) (Nat.zero_le _) ?_
 intro v' w2 hown hgrow hblk
 obtain ⟨A3,c3,rfl,-,-,-⟩:=za4 hown
 have hown':w2.ownsRow 0 5 1 (.slice A3 (s.kept.length+n) c3) (s.kept++s.rest.take n).length (u8s (s.kept++s.rest.take n)):=by
  have hl2:(s.rest.take n).length=n:=by rw [List.length_take];omega
  rw [List.length_append,hl2,show u8s (s.kept++s.rest.take n)=u8s s.kept++u8s (s.rest.take n) from List.map_append]
  exact hown
 obtain ⟨⟨c0,f0⟩,⟨c1,f1⟩,-,HD⟩:=(HJ.out _ hC).keeping hgrow (h.ok.r.take n) hown' hblk
 refine hK _ _ ⟨.inr (by kernel_rfl),?_⟩
 clear hK K hown hown' hgrow hblk h hrd hrc hsl HJ
 refine zak (i:=12) (v := ?v12_332) (a' := ?a12_332) rfl (by kernel_rfl) (by kernel_rfl) (by kernel_rfl) (fun _ _ _ h=>h) (by first|exact .inl hC|exact .inr (by kernel_rfl)) (by kernel_rfl) ?w12_332 ?y12_332 ?f12_332 ?r12_332
 case w12_332=>kernel_rfl
 case y12_332=>(intro w hC;go_simp;try with_reducible rfl)
 case f12_332=>(go_simp;try with_reducible rfl)
 refine zak (i:=13) (v := ?v13_333) (a' := ?a13_333) rfl (by kernel_rfl) (by kernel_rfl) (by kernel_rfl) (fun _ _ _ h=>h) (by first|exact .inl hC|exact .inr (by kernel_rfl)) (by kernel_rfl) ?w13_333 ?y13_333 ?f13_333 ?r13_333
 case w13_333=>kernel_rfl
 case y13_333=>(intro w hC;go_simp;try with_reducible rfl)
 case f13_333=>(go_simp;try with_reducible rfl)
 refine zbq (i:=14) rfl (by kernel_rfl) (by kernel_rfl) (fun K hK => ?_)
 go_simp
 refine hK _ _ ⟨.inr (by kernel_rfl),?_⟩
 clear hK K c0 f0
 refine zdq (by kernel_rfl) ?_
 go_wp2
 go_end0
 exact ⟨rfl,HD.out.drew⟩
end
end Go.Proofs.YtponpgcpmlcdpaaGreatDoor
namespace Go.Proofs.YtponpgcpmlcdpaaGreatDoor
open Go.RowKit Go.Shelf Km
section
variable {w w' w'':World} {S:Nat→Prop} {g:Nat} {s s':Jm.St} {kv rv:Value}
theorem Did.pre (d:Did S w' w'' g s) (hb:Below w.heap.size w w'):Did S w w'' g s:=by
 obtain ⟨⟨kv,rv,k⟩,o⟩:=d
 refine ⟨⟨kv,rv,k.more (fun b q=>q.imp id fun q=>⟨Nat.le_trans hb.size q.1,q.2⟩) fun b q => ?_⟩,(Out.below hb).trans (o.more fun _ q => .inl q)⟩
 rcases q with q|q
 ·exact k.lt b (.inl q)
 ·exact q.2
theorem own_out {base:Nat} {e:TypeId} {v:Value} {n:Nat} {xs:List Value} (h:w.ownsRow base e 1 v n xs) (ho:Out S w w') (hS:∀b,S b→b < base):w'.ownsRow base e 1 v n xs :=
 zb2 h fun q eq=>ho.block q (h.lt q eq).2 (fun r=>by have:=hS q r;have:=(h.lt q eq).1;omega)
theorem zdm {b j:Nat} {v:Value} (h:w.cell? ⟨b,j,none⟩=some v) (ho:Out S w w') (hS:¬ S b):w'.cell? ⟨b,j,none⟩=some v :=
 (World.cell?_of_block (ho.block b (World.block_lt_of_cell? w _ h) hS)).trans h
theorem zrq (g c:Nat):cutA (some ⟨g,0,none⟩) 0 c=some ⟨g,0,none⟩:=by
 unfold cutA
 split
 ·rfl
 ·simp [Addr.add]
theorem own_cut {base:Nat} {e:TypeId} {A:Option Addr} {c n:Nat} {xs:List Value} (h:w.ownsRow base e 1 (.slice A n c) n xs) {m:Nat} (hm:m≤n):w.ownsRow base e 1 (.slice (cutA A 0 c) m c) m (xs.take m)∧(Value.slice (cutA A 0 c) m c).ownBlock=(Value.slice A n c).ownBlock:=by
 rcases h.2 with ⟨e1,e2⟩|⟨q,cap,cur,e1,h1,h2,h3,h4,h5,h6⟩
 ·injection e1 with e1 e3 e4
  subst e1 e4
  have hm0:m=0:=by omega
  subst hm0
  rw [show cutA none 0 0=none from rfl,List.take_zero]
  exact ⟨World.ownsRow_nil _ _ _ _,rfl⟩
 ·injection e1 with e1 e3 e4
  subst e1 e4
  rw [zrq]
  refine ⟨⟨by have:=h.1;rw [List.length_take];omega,.inr ⟨q,c,cur,rfl,h1,h2,by omega,h4,h5,?_⟩⟩,rfl⟩
  rw [←h6,List.take_take]
  congr 1
  omega
theorem JAt.adding (h : JAt w S g s kv rv) (hg : w.grownBy w' rv.ownBlock) {b : List Int} (hb : Fm.By b) {v' : Value} (hown : w'.ownsRow 0 5 1 v' (s.rest ++ b).length (u8s (s.rest ++ b)))
  (hone:v'.ownBlock=rv.ownBlock∨v'.ownBlock=some w.heap.size) :
  (w'.cell? ⟨g,1,none⟩=some rv∧w'.frozen? ⟨g,1,none⟩=false)∧Hid (Did S w (w'.setCell ⟨g,1,none⟩ v') g { s with rest:=s.rest++b }):=by
 have hgl:=h.lt g h.sg
 have kg:w'.heap[g]? = w.heap[g]?:=hg.block g hgl (fun e=>(h.rS g e.symm).2 rfl)
 obtain ⟨c0,f0⟩:=h.at 1 rfl
 obtain ⟨k1,o1⟩:=h.rest hg hb hown hone
 exact ⟨⟨(World.cell?_of_block kg).trans c0,(World.frozen?_of_block kg).trans f0⟩,⟨_,_,k1.at_set⟩,o1⟩
theorem JAt.cut {A:Option Addr} {c:Nat} (h:JAt w S g s (.slice A s.kept.length c) rv) {m:Nat} (hm:m≤s.kept.length):JAt (w.setCell ⟨g,0,none⟩ (.slice (cutA A 0 c) m c)) S g { s with kept:=s.kept.take m } (.slice (cutA A 0 c) m c) rv:=by
 obtain ⟨h1,h2⟩:=own_cut h.kr hm
 refine h.set 0 _ (by decide) rfl ?_ h.rr (fun b e=>h.kS b (h2▸e)) h.rS (fun b e=>h.k2 b (h2▸e)) ⟨h.ok.k.take m,h.ok.r,h.ok.lo,h.ok.hi⟩
 have hl:(s.kept.take m).length=m:=by rw [List.length_take];omega
 show World.ownsRow _ _ _ _ _ (s.kept.take m).length (u8s (s.kept.take m))
 rw [hl,show u8s (s.kept.take m)=(u8s s.kept).take m from List.map_take]
 exact h1
set_option maxHeartbeats 2000000 in
theorem zpx (h : JAt w S g s kv rv) {B : Nat} (hB : w.cell? ⟨B, 0, none⟩ = some (.pointer (some ⟨g, 0, none⟩))) (hz : Jm.size s ≤ 16777216) :
  Calls Tryz.prog 120 #[.pointer (some ⟨B,0,none⟩)] w fun e w'=>e = .returned (.tuple #[])∧Did S w w' g { s with kept:=s.kept++s.rest,rest:=[] }:=by
 obtain ⟨Ar,cr,rfl,hr1,hr2,hrd,-⟩:=zes h.rr
 have HJ:=Lib.hid (fun (W:World) (q:Below w.heap.size w W)=>h.below q)
 have hBl:=World.block_lt_of_cell? w _ hB
 have HB:=Lib.hid (fun (W:World) (q:Below w.heap.size w W)=>(q.cell (p:=⟨B,0,none⟩) hBl).trans hB)
 have HC:=Lib.hid (zn3 h.drew s.rest.length (Nat.le_refl _) hz)
 clear h hr1 hr2 hrd hB hBl
 go_enter Tryz.func120,Tryz.ntmps120
 go_wp2_with fail
 refine zea (fun W=>Below w.heap.size w W) (fun j=>j == 6) (by kernel_rfl) ?_
 have hC:Below w.heap.size w w.drew:=(Below.refl _ _).drew
 refine zbb (i:=0) (v := ?v0_334) (a' := ?a0_334) rfl (by kernel_rfl) (by kernel_rfl) (by kernel_rfl) (fun _ _ _ h=>h) hC (by kernel_rfl) ?w0_334 ?y0_334 ?f0_334 ?r0_334
 case w0_334=>kernel_rfl
 case y0_334=>(intro w hC;have h4:=HB.out w hC;go_simp;try with_reducible rfl)
 case f0_334=>(go_simp;try with_reducible rfl)
 refine zbb (i:=1) (v := ?v1_335) (a' := ?a1_335) rfl (by kernel_rfl) (by kernel_rfl) (by kernel_rfl) (fun _ _ _ h=>h) hC (by kernel_rfl) ?w1_335 ?y1_335 ?f1_335 ?r1_335
 case w1_335=>kernel_rfl
 case y1_335=>(intro w hC;have h4:=HB.out w hC;go_simp;try with_reducible rfl)
 case f1_335=>(go_simp;try with_reducible rfl)
 refine zak (i:=2) (v := ?v2_336) (a' := ?a2_336) rfl (by kernel_rfl) (by kernel_rfl) (by kernel_rfl) (fun _ _ _ h=>h) (by first|exact .inl hC|exact .inr (by kernel_rfl)) (by kernel_rfl) ?w2_336 ?y2_336 ?f2_336 ?r2_336
 case w2_336=>kernel_rfl
 case y2_336=>(intro w hC;go_simp;try with_reducible rfl)
 case f2_336=>(go_simp;try with_reducible rfl)
 refine zak (i:=3) (v := ?v3_337) (a' := ?a3_337) rfl (by kernel_rfl) (by kernel_rfl) (by kernel_rfl) (fun _ _ _ h=>h) (by first|exact .inl hC|exact .inr (by kernel_rfl)) (by kernel_rfl) ?w3_337 ?y3_337 ?f3_337 ?r3_337
 case w3_337=>kernel_rfl
 case y3_337=>(intro w hC;go_simp;try with_reducible rfl)
 case f3_337=>(go_simp;try with_reducible rfl)
 refine zbb (i:=4) (v := ?v4_338) (a' := ?a4_338) rfl (by kernel_rfl) (by kernel_rfl) (by kernel_rfl) (fun _ _ _ h=>h) hC (by kernel_rfl) ?w4_338 ?y4_338 ?f4_338 ?r4_338
 case w4_338=>kernel_rfl
 case y4_338=>(intro w hC;have h4:=((HJ.out w hC).at 1 rfl).1;go_simp;try with_reducible rfl)
 case f4_338=>(go_simp;try with_reducible rfl)
 refine zak (i:=5) (v := ?v5_339) (a' := ?a5_339) rfl (by kernel_rfl) (by kernel_rfl) (by kernel_rfl) (fun _ _ _ h=>h) (by first|exact .inl hC|exact .inr (by kernel_rfl)) (by kernel_rfl) ?w5_339 ?y5_339 ?f5_339 ?r5_339
 case w5_339=>kernel_rfl
 case y5_339=>(intro w hC;go_simp;try with_reducible rfl)
 case f5_339=>(go_simp;try with_reducible rfl)
 refine zbq (i:=6) rfl (by kernel_rfl) (by kernel_rfl) (fun K hK => ?_)
 go_simp
 refine HC.out.mono ?_
 rintro e w2 ⟨rfl,hd⟩
 refine hK _ _ ⟨.inr (by kernel_rfl),?_⟩
 refine zdq (by kernel_rfl) ?_
 go_wp2
 go_end0
 rw [List.take_length] at hd
 exact ⟨rfl,hd.drew⟩
set_option maxHeartbeats 2000000 in
theorem znc (h : JAt w S g s kv rv) {B D base : Nat} {v : Value} {b : List Int} (hB : w.cell? ⟨B, 0, none⟩ = some (.pointer (some ⟨g, 0, none⟩))) (nB : ¬ S B) (hD : w.cell? ⟨D, 0, none⟩ = some v) (nD : ¬ S D)
  (hv:w.ownsRow base 5 1 v b.length (u8s b)) (hb:Fm.By b) (hl:b.length≤16777216) (hz:Jm.size s≤16777216) :
  Calls Tryz.prog 119 #[.pointer (some ⟨B,0,none⟩),.pointer (some ⟨D,0,none⟩)] w fun e w'=>e = .returned (.tuple #[])∧Did S w w' g { s with rest:=s.rest++b }:=by
 obtain ⟨i0,hi,hz0,hz1,hz2⟩:=info_parts zci
 unfold Jm.size at hz
 obtain ⟨Av,cv,rfl,hv1,hv2,hvd,-⟩:=zes hv
 have hBl:=World.block_lt_of_cell? w _ hB
 have hDl:=World.block_lt_of_cell? w _ hD
 have hgl:=h.lt g h.sg
 have hR:w.drew.cell? ⟨g,1,none⟩=some rv:=(h.drew.at 1 rfl).1
 have HJ:=Lib.hid h.drew
 have hB':w.drew.cell? ⟨B,0,none⟩=some (.pointer (some ⟨g,0,none⟩)):=hB
 have hD':w.drew.cell? ⟨D,0,none⟩=some (.slice Av b.length cv):=hD
 have hvd':Rd w.drew w.heap.size Av (u8s b):=hvd
 have hsd:w.drew.heap.size=w.heap.size:=rfl
 have rS:=h.rS
 clear hB hD hvd hv
 go_enter Tryz.func119,Tryz.ntmps119
 go_wp2_with fail
 refine zea (fun W=>W.cell? ⟨B,0,none⟩=some (.pointer (some ⟨g,0,none⟩))∧W.cell? ⟨g,1,none⟩=some rv∧W.cell? ⟨D,0,none⟩=some (.slice Av b.length cv)) (fun j=>j == 9) (by kernel_rfl) ?_
 have hC:w.drew.cell? ⟨B,0,none⟩=some (.pointer (some ⟨g,0,none⟩))∧w.drew.cell? ⟨g,1,none⟩=some rv∧w.drew.cell? ⟨D,0,none⟩=some (.slice Av b.length cv):=⟨hB',hR,hD'⟩
 refine zbb (i:=0) (v := ?v0_340) (a' := ?a0_340) rfl (by kernel_rfl) (by kernel_rfl) (by kernel_rfl) (fun _ _ _ h=>h) hC (by kernel_rfl) ?w0_340 ?y0_340 ?f0_340 ?r0_340
 case w0_340=>kernel_rfl
 case y0_340=>(intro w hC;have h4:=hC.1;go_simp;try with_reducible rfl)
 case f0_340=>(go_simp;try with_reducible rfl)
 refine zbb (i:=1) (v := ?v1_341) (a' := ?a1_341) rfl (by kernel_rfl) (by kernel_rfl) (by kernel_rfl) (fun _ _ _ h=>h) hC (by kernel_rfl) ?w1_341 ?y1_341 ?f1_341 ?r1_341
 case w1_341=>kernel_rfl
 case y1_341=>(intro w hC;have h4:=hC.1;go_simp;try with_reducible rfl)
 case f1_341=>(go_simp;try with_reducible rfl)
 refine zak (i:=2) (v := ?v2_342) (a' := ?a2_342) rfl (by kernel_rfl) (by kernel_rfl) (by kernel_rfl) (fun _ _ _ h=>h) (by first|exact .inl hC|exact .inr (by kernel_rfl)) (by kernel_rfl) ?w2_342 ?y2_342 ?f2_342 ?r2_342
 case w2_342=>kernel_rfl
 case y2_342=>(intro w hC;go_simp;try with_reducible rfl)
 case f2_342=>(go_simp;try with_reducible rfl)
 refine zak (i:=3) (v := ?v3_343) (a' := ?a3_343) rfl (by kernel_rfl) (by kernel_rfl) (by kernel_rfl) (fun _ _ _ h=>h) (by first|exact .inl hC|exact .inr (by kernel_rfl)) (by kernel_rfl) ?w3_343 ?y3_343 ?f3_343 ?r3_343
 case w3_343=>kernel_rfl
 case y3_343=>(intro w hC;go_simp;try with_reducible rfl)
 case f3_343=>(go_simp;try with_reducible rfl)
 refine zbb (i:=4) (v := ?v4_344) (a' := ?a4_344) rfl (by kernel_rfl) (by kernel_rfl) (by kernel_rfl) (fun _ _ _ h=>h) hC (by kernel_rfl) ?w4_344 ?y4_344 ?f4_344 ?r4_344
 case w4_344=>kernel_rfl
 case y4_344=>(intro w hC;have h4:=hC.2.1;go_simp;try with_reducible rfl)
 case f4_344=>(go_simp;try with_reducible rfl)
 refine zbb (i:=5) (v := ?v5_345) (a' := ?a5_345) rfl (by kernel_rfl) (by kernel_rfl) (by kernel_rfl) (fun _ _ _ h=>h) hC (by kernel_rfl) ?w5_345 ?y5_345 ?f5_345 ?r5_345
 case w5_345=>kernel_rfl
 case y5_345=>(intro w hC;have h4:=hC.2.2;go_simp;try with_reducible rfl)
 case f5_345=>(go_simp;try with_reducible rfl)
 refine zbq (i:=6) rfl (by kernel_rfl) (by kernel_rfl) (fun K hK => ?_)
 refine zqr (.tmp 6) (.tmp 7) 35 rfl 0 5 i0 (.int .u8 0) 1 Tryz.underlying35 hi hz0 hz1 hz2 rfl rv s.rest.length (u8s s.rest) rfl HJ.out.rr w.heap.size Av b.length cv (u8s b) rfl (by rw [List.length_map]) hvd' (zbs _ _) (by unfold maxLen;omega) (by omega) (Nat.zero_le _) ?_
 intro v' w2 hown hgrow hblk
 obtain ⟨A3,c3,rfl,-,-,-⟩:=za4 hown
 have hown':w2.ownsRow 0 5 1 (.slice A3 (s.rest.length+b.length) c3) (s.rest++b).length (u8s (s.rest++b)):=by
  rw [List.length_append,show u8s (s.rest++b)=u8s s.rest++u8s b from List.map_append]
  exact hown
 obtain ⟨⟨c1,f1⟩,HD⟩:=HJ.out.adding hgrow hb hown' hblk
 have hC2:w2.cell? ⟨B,0,none⟩=some (.pointer (some ⟨g,0,none⟩))∧w2.cell? ⟨g,1,none⟩=some rv∧w2.cell? ⟨D,0,none⟩=some (.slice Av b.length cv) :=
  ⟨hgrow.cell hC.1 (fun e=>nB (rS _ e.symm).1),c1,hgrow.cell hC.2.2 (fun e=>nD (rS _ e.symm).1)⟩
 refine hK _ _ ⟨.inl hC2,?_⟩
 clear hK K hown hown' hgrow hblk h hvd' HJ hC hR hB' hD' rS
 refine zak (i:=7) (v := ?v7_346) (a' := ?a7_346) rfl (by kernel_rfl) (by kernel_rfl) (by kernel_rfl) (fun _ _ _ h=>h) (by first|exact .inl hC2|exact .inr (by kernel_rfl)) (by kernel_rfl) ?w7_346 ?y7_346 ?f7_346 ?r7_346
 case w7_346=>kernel_rfl
 case y7_346=>(intro w hC;go_simp;try with_reducible rfl)
 case f7_346=>(go_simp;try with_reducible rfl)
 refine zak (i:=8) (v := ?v8_347) (a' := ?a8_347) rfl (by kernel_rfl) (by kernel_rfl) (by kernel_rfl) (fun _ _ _ h=>h) (by first|exact .inl hC2|exact .inr (by kernel_rfl)) (by kernel_rfl) ?w8_347 ?y8_347 ?f8_347 ?r8_347
 case w8_347=>kernel_rfl
 case y8_347=>(intro w hC;go_simp;try with_reducible rfl)
 case f8_347=>(go_simp;try with_reducible rfl)
 refine zbq (i:=9) rfl (by kernel_rfl) (by kernel_rfl) (fun K hK => ?_)
 go_simp
 refine hK _ _ ⟨.inr (by kernel_rfl),?_⟩
 clear hK K c1 f1 hC2
 refine zdq (by kernel_rfl) ?_
 go_wp2
 go_end0
 exact ⟨rfl,HD.out.drew⟩
set_option maxHeartbeats 2000000 in
theorem zqq (h : JAt w S g s kv rv) {B D m : Nat} (hB : w.cell? ⟨B, 0, none⟩ = some (.pointer (some ⟨g, 0, none⟩))) (hD : w.cell? ⟨D, 0, none⟩ = some (.int .i64 (m : Int))) (hm : m ≤ s.kept.length) :
  Calls Tryz.prog 55 #[.pointer (some ⟨B,0,none⟩),.pointer (some ⟨D,0,none⟩)] w fun e w'=>e = .returned (.tuple #[])∧Jat w' S g { s with kept:=s.kept.take m }∧Out S w w':=by
 obtain ⟨i0,hi,hz0,hz1,hz2⟩:=info_parts zci
 obtain ⟨Ar,cr,rfl,hr1,hr2,hrd,-⟩:=zes h.kr
 have hsl:∀W,(Instr.slice 35 (.slice Ar s.kept.length cr) none (some (.int .i64 (m:Int))) none).run Tryz.prog W = .ok (.slice (cutA Ar 0 cr) m cr) W:=fun W=>zh4 (P:=Tryz.prog) Tryz.underlying35 (zbo hi hz1) Ar s.kept.length cr m (by omega) W
 have HJ:=Lib.hid (fun (W:World) (q:Below w.heap.size w W)=>h.below q)
 have hBl:=World.block_lt_of_cell? w _ hB
 have HB:=Lib.hid (fun (W:World) (q:Below w.heap.size w W)=>(q.cell (p:=⟨B,0,none⟩) hBl).trans hB)
 have hDl:=World.block_lt_of_cell? w _ hD
 have HD:=Lib.hid (fun (W:World) (q:Below w.heap.size w W)=>(q.cell (p:=⟨D,0,none⟩) hDl).trans hD)
 have HX:=Lib.hid (fun (u:Value) (hu : .slice (cutA Ar 0 cr) m cr=u)=>by have k:=h.drew.cut hm;rw [hu] at k;exact (⟨⟨_,_,k⟩,(show Out S w _ from ⟨rfl,rfl,rfl,(h.drew.zf7 0 u).size,(h.drew.zf7 0 u).block⟩)⟩ : Jat (w.drew.setCell ⟨g,0,none⟩ u) S g { s with kept:=s.kept.take m }∧Out S w (w.drew.setCell ⟨g,0,none⟩ u)))
 obtain ⟨c0,f0⟩:=h.drew.at 0 rfl
 clear hB hBl hD hDl hrd h
 generalize cutA Ar 0 cr=Ac at hsl HX
 go_enter Tryz.func55,Tryz.ntmps55
 go_wp2_with fail
 refine zea (fun W=>Below w.heap.size w W) (fun j=>j == 9) (by kernel_rfl) ?_
 have hC:Below w.heap.size w w.drew:=(Below.refl _ _).drew
 refine zbb (i:=0) (v := ?v0_348) (a' := ?a0_348) rfl (by kernel_rfl) (by kernel_rfl) (by kernel_rfl) (fun _ _ _ h=>h) hC (by kernel_rfl) ?w0_348 ?y0_348 ?f0_348 ?r0_348
 case w0_348=>kernel_rfl
 case y0_348=>(intro w hC;have h4:=HB.out w hC;go_simp;try with_reducible rfl)
 case f0_348=>(go_simp;try with_reducible rfl)
 refine zbb (i:=1) (v := ?v1_349) (a' := ?a1_349) rfl (by kernel_rfl) (by kernel_rfl) (by kernel_rfl) (fun _ _ _ h=>h) hC (by kernel_rfl) ?w1_349 ?y1_349 ?f1_349 ?r1_349
 case w1_349=>kernel_rfl
 case y1_349=>(intro w hC;have h4:=HB.out w hC;go_simp;try with_reducible rfl)
 case f1_349=>(go_simp;try with_reducible rfl)
 refine zak (i:=2) (v := ?v2_350) (a' := ?a2_350) rfl (by kernel_rfl) (by kernel_rfl) (by kernel_rfl) (fun _ _ _ h=>h) (by first|exact .inl hC|exact .inr (by kernel_rfl)) (by kernel_rfl) ?w2_350 ?y2_350 ?f2_350 ?r2_350
 case w2_350=>kernel_rfl
 case y2_350=>(intro w hC;go_simp;try with_reducible rfl)
 case f2_350=>(go_simp;try with_reducible rfl)
 refine zak (i:=3) (v := ?v3_351) (a' := ?a3_351) rfl (by kernel_rfl) (by kernel_rfl) (by kernel_rfl) (fun _ _ _ h=>h) (by first|exact .inl hC|exact .inr (by kernel_rfl)) (by kernel_rfl) ?w3_351 ?y3_351 ?f3_351 ?r3_351
 case w3_351=>kernel_rfl
 case y3_351=>(intro w hC;go_simp;try with_reducible rfl)
 case f3_351=>(go_simp;try with_reducible rfl)
 refine zbb (i:=4) (v := ?v4_352) (a' := ?a4_352) rfl (by kernel_rfl) (by kernel_rfl) (by kernel_rfl) (fun _ _ _ h=>h) hC (by kernel_rfl) ?w4_352 ?y4_352 ?f4_352 ?r4_352
 case w4_352=>kernel_rfl
 case y4_352=>(intro w hC;have h4:=((HJ.out w hC).at 0 rfl).1;go_simp;try with_reducible rfl)
 case f4_352=>(go_simp;try with_reducible rfl)
 refine zbb (i:=5) (v := ?v5_353) (a' := ?a5_353) rfl (by kernel_rfl) (by kernel_rfl) (by kernel_rfl) (fun _ _ _ h=>h) hC (by kernel_rfl) ?w5_353 ?y5_353 ?f5_353 ?r5_353
 case w5_353=>kernel_rfl
 case y5_353=>(intro w hC;have h4:=HD.out w hC;go_simp;try with_reducible rfl)
 case f5_353=>(go_simp;try with_reducible rfl)
 refine zak (i:=6) (v := ?v6_354) (a' := ?a6_354) rfl (by kernel_rfl) (by kernel_rfl) (by kernel_rfl) (fun _ _ _ h=>h) (by first|exact .inl hC|exact .inr (by kernel_rfl)) (by kernel_rfl) ?w6_354 ?y6_354 ?f6_354 ?r6_354
 case w6_354=>kernel_rfl
 case y6_354=>(intro w hC;go_simp;try with_reducible rfl)
 case f6_354=>(go_simp;try with_reducible rfl)
 refine zak (i:=7) (v := ?v7_355) (a' := ?a7_355) rfl (by kernel_rfl) (by kernel_rfl) (by kernel_rfl) (fun _ _ _ h=>h) (by first|exact .inl hC|exact .inr (by kernel_rfl)) (by kernel_rfl) ?w7_355 ?y7_355 ?f7_355 ?r7_355
 case w7_355=>kernel_rfl
 case y7_355=>(intro w hC;go_simp;try with_reducible rfl)
 case f7_355=>(go_simp;try with_reducible rfl)
 refine zak (i:=8) (v := ?v8_356) (a' := ?a8_356) rfl (by kernel_rfl) (by kernel_rfl) (by kernel_rfl) (fun _ _ _ h=>h) (by first|exact .inl hC|exact .inr (by kernel_rfl)) (by kernel_rfl) ?w8_356 ?y8_356 ?f8_356 ?r8_356
 case w8_356=>kernel_rfl
 case y8_356=>(intro w hC;go_simp;try with_reducible rfl)
 case f8_356=>(go_simp;try with_reducible rfl)
 refine zbq (i:=9) rfl (by kernel_rfl) (by kernel_rfl) (fun K hK => ?_)
 go_simp
 refine hK _ _ ⟨.inr (by kernel_rfl),?_⟩
 clear hK K c0 f0
 refine zdq (by kernel_rfl) ?_
 go_wp2
 go_end0
 exact ⟨rfl,HX.out _ rfl⟩
end
end Go.Proofs.YtponpgcpmlcdpaaGreatDoor
namespace Go.Proofs.YtponpgcpmlcdpaaGreatDoor
open Go.RowKit Go.Shelf Km
section
variable {w w' w'':World} {S:Nat→Prop} {g:Nat} {s s':Jm.St} {kv rv:Value}
set_option maxHeartbeats 2000000 in
theorem zph (h : JAt w S g s kv rv) (k : Int) (A : Option Addr) (n cap B : Nat) (xs : List Int) (hk : 0 ≤ k ∧ k ≤ 255) (hx : Rd w B A (u8s xs)) (hn : xs.length = n) (hnc : n ≤ cap) (hcap : cap ≤ maxLen) (hB : B ≤ w.heap.size) (hb : Fm.By xs) (ht : HTab w)
  (hz:Jm.size s≤16777216) :
  Calls Tryz.prog 103 #[.pointer (some ⟨g,0,none⟩),.int .u8 k,.slice A n cap] w fun e w'=>e = .returned (.int .i64 (Jm.append s k xs).2)∧Did S w w' g (Jm.append s k xs).1:=by
 obtain ⟨w1,hw1⟩ : ∃w1,w1=w.alloc (.cells #[.pointer (some ⟨g,0,none⟩)] 40):=⟨_,rfl⟩
 have hb1:Below w.heap.size w w1:=by rw [hw1];exact (Below.refl _ w).alloc (Nat.le_refl _) _
 have hs1:w1.heap.size=w.heap.size+1:=by rw [hw1,World.size_alloc]
 have hc1:w1.cell? ⟨w.heap.size,0,none⟩=some (.pointer (some ⟨g,0,none⟩)):=by rw [hw1];exact (Boxed.new w _ _).cell
 have HP:=Lib.hid (FPut_any k A n cap B xs w1 hk (hx.below (hb1.mono hB)) hn hnc hcap (Nat.le_trans hB hb1.size) hb (ht.below hb1 (Nat.le_refl _)))
 by_cases hm:8192 < xs.length
 ·rw [Jm.znd hm]
  rw [Fm.znx hm] at HP
  have HD:Hid (∀w',Below w.heap.size w w'→Did S w w' g s):=fun w' q=>Did.of (h.below q) (Out.below q)
  clear h hx ht hb hc1
  go_enter Tryz.func103,Tryz.ntmps103
  go_wp2_with (go_at_call 118;fail)
  rw [←hw1]
  refine HP.out.mono ?_
  rintro e w2 ⟨v,rfl,hown,hb2⟩
  obtain ⟨A2,c2,rfl,-,-,-⟩:=za4 hown
  clear hown
  go_wp2
  go_ret
  refine ⟨rfl,HD.out _ ?_⟩
  exact (hb1.trans (hb2.mono hb1.size)).alloc (by have:=hb2.size;omega) _
 rw [Fm.zfy (by omega)] at HP
 dsimp only at HP
 have HFL:=Lib.hid (Fm.zds k xs)
 have HFB:=Lib.hid (Fm.zre hk hb (by omega))
 generalize hfx:Fm.frm k xs=fx at HP HFL HFB
 have HJ:=Lib.hid (fun (W:World) (q:Below w.heap.size w W)=>h.below q)
 have hSl:=h.lt
 have he0:=Jm.zdl s
 have HA:Hid ((Jm.append s k xs).2=(Jm.eff s).2∧((Jm.eff s).2=0→(Jm.append s k xs).1={ (Jm.eff s).1 with rest:=(Jm.eff s).1.rest++fx })∧((Jm.eff s).2≠0→(Jm.append s k xs).1=(Jm.eff s).1)):=by
  by_cases h0:(Jm.eff s).2=0
  ·rw [Jm.ziw hm h0]
   exact ⟨h0.symm,fun _=>by rw [he0.2,hfx],fun q=>absurd h0 q⟩
  ·rw [Jm.zjw hm h0]
   exact ⟨rfl,fun q=>absurd q h0,fun _=>rfl⟩
 have hze:Jm.size (Jm.eff s).1≤16777216:=by rw [Jm.zhm];exact hz
 have HQ : Hid (∀ (w3 : World) (D base : Nat) (v : Value), Below w.heap.size w w3 → w3.cell? ⟨w.heap.size, 0, none⟩ = some (.pointer (some ⟨g, 0, none⟩)) → w3.cell? ⟨D, 0, none⟩ = some v → w.heap.size ≤ D → w.heap.size ≤ base → w3.ownsRow base 5 1 v fx.length (u8s fx) →
   Calls Tryz.prog 54 #[.pointer (some ⟨g,0,none⟩),.func (.func 119) #[] #[.pointer (some ⟨w.heap.size,0,none⟩),.pointer (some ⟨D,0,none⟩)]] w3 fun e w'=>e = .returned (.int .i64 (Jm.append s k xs).2)∧Did S w w' g (Jm.append s k xs).1):=by
  intro w3 D base v q1 q2 q3 q4 q5 q6
  have nS:∀b,w.heap.size≤b→¬ S b:=fun b hb hs=>by have:=hSl b hs;omega
  rw [HA.out.1]
  refine (zf5 (Q:=fun w'=>Did S w3 w' g (Jm.append s k xs).1) (HJ.out w3 q1) 119 _ (fun W=>zcv Tryz.func119 rfl rfl _ _) (fun h0 w' k1 k2 => ?_) (fun h0 w' k1 k2 => ?_)).mono ?_
  ·refine (znc (k1.sx (w:=w3)) (B:=w.heap.size) (D:=D) (base:=base) (v:=v) (b:=fx) (zdm q2 k2 (nS _ (Nat.le_refl _))) ?_ (zdm q3 k2 (nS _ q4)) ?_ (own_out q6 k2 fun b hs=>by have:=hSl b hs;omega) HFB.out (by rw [HFL.out];omega) hze).mono ?_
   ·exact fun q=>q.elim (nS _ (Nat.le_refl _)) (fun q=>by have:=World.block_lt_of_cell? w3 _ q2;dsimp only at this;omega)
   ·exact fun q=>q.elim (nS _ q4) (fun q=>by have:=World.block_lt_of_cell? w3 _ q3;dsimp only at this;omega)
   ·rintro e w'' ⟨rfl,d⟩
    rw [HA.out.2.1 h0]
    exact ⟨rfl,(Did.of k1 k2).trans d⟩
  ·rw [HA.out.2.2 h0]
   exact Did.of k1 k2
  ·rintro e w' ⟨rfl,d⟩
   exact ⟨rfl,d.pre q1⟩
 clear h hx hb ht HA hm he0 hfx hz hze HJ hSl
 generalize Jm.append s k xs=r at HQ ⊢
 go_enter Tryz.func103,Tryz.ntmps103
 go_wp2_with (go_at_call 118;fail)
 rw [←hw1]
 refine HP.out.mono ?_
 rintro e w2 ⟨v,rfl,hown,hb2⟩
 obtain ⟨A2,c2,rfl,-,-,-⟩:=za4 hown
 have hb2':=hb1.trans (hb2.mono hb1.size)
 obtain ⟨w3,hw3⟩ : ∃w3,w3=w2.alloc (.cells #[.slice A2 fx.length c2] 35):=⟨_,rfl⟩
 have hs2:w.heap.size < w2.heap.size:=by have:=hb2.size;omega
 have hb3:Below w.heap.size w w3:=by rw [hw3];exact hb2'.alloc (by omega) _
 have hc2:w2.cell? ⟨w.heap.size,0,none⟩=some (.pointer (some ⟨g,0,none⟩)):=(hb2.cell (by dsimp only;omega)).trans hc1
 have hc3:w3.cell? ⟨w.heap.size,0,none⟩=some (.pointer (some ⟨g,0,none⟩)):=by rw [hw3];exact (World.cell?_alloc_lt _ _ _ (by dsimp only;omega)).trans hc2
 have hd3:w3.cell? ⟨w2.heap.size,0,none⟩=some (.slice A2 fx.length c2):=by rw [hw3];exact (Boxed.new w2 _ _).cell
 have ho3:w3.ownsRow w1.heap.size 5 1 (.slice A2 fx.length c2) fx.length (u8s fx):=by rw [hw3];exact own_below hown ((Below.refl _ w2).alloc (Nat.le_refl _) _) (Nat.le_refl _)
 have HC:=Lib.hid (HQ.out w3 w2.heap.size w1.heap.size _ hb3 hc3 hd3 (by omega) hb1.size ho3)
 clear hown hb2 hb2' hb3 hc3 hd3 ho3 hc1
 go_wp2_with (go_at_call 54;fail)
 rw [←hw3]
 refine HC.out.mono ?_
 rintro e w' ⟨rfl,hd⟩
 go_wp2
 go_ret
 exact ⟨rfl,hd⟩
end
end Go.Proofs.YtponpgcpmlcdpaaGreatDoor
namespace Go.Proofs.YtponpgcpmlcdpaaGreatDoor
open Go.RowKit Go.Shelf Km
section
variable {w w' w'':World} {S:Nat→Prop} {g:Nat} {s s':Jm.St} {kv rv:Value}
set_option maxHeartbeats 2000000 in
theorem sync_any (h : JAt w S g s kv rv) (hz : Jm.size s ≤ 16777216) :
  Calls Tryz.prog 104 #[.pointer (some ⟨g,0,none⟩)] w fun e w'=>e = .returned (.int .i64 (Jm.sync s).2)∧Did S w w' g (Jm.sync s).1:=by
 obtain ⟨w1,hw1⟩ : ∃w1,w1=w.alloc (.cells #[.pointer (some ⟨g,0,none⟩)] 40):=⟨_,rfl⟩
 have hb1:Below w.heap.size w w1:=by rw [hw1];exact (Below.refl _ w).alloc (Nat.le_refl _) _
 have hc1:w1.cell? ⟨w.heap.size,0,none⟩=some (.pointer (some ⟨g,0,none⟩)):=by rw [hw1];exact (Boxed.new w _ _).cell
 have hk:=Jm.zdl s
 have hze:Jm.size (Jm.eff s).1≤16777216:=by rw [Jm.zhm];exact hz
 have nS:¬ S w.heap.size:=fun hs=>by have:=h.lt _ hs;omega
 have he:(Jm.sync s).2=(Jm.eff s).2:=by
  by_cases h0:(Jm.eff s).2=0
  ·rw [Jm.zj3 h0,h0]
  ·rw [Jm.zj4 h0]
 have HQ:Hid (Calls Tryz.prog 54 #[.pointer (some ⟨g,0,none⟩),.func (.func 120) #[] #[.pointer (some ⟨w.heap.size,0,none⟩)]] w1 fun e w'=>e = .returned (.int .i64 (Jm.sync s).2)∧Did S w w' g (Jm.sync s).1):=by
  show Calls _ _ _ _ _
  rw [he]
  refine (zf5 (Q:=fun w'=>Did S w1 w' g (Jm.sync s).1) (h.below hb1) 120 _ (fun W=>zcv Tryz.func120 rfl rfl _ _) (fun h0 w' k1 k2 => ?_) (fun h0 w' k1 k2 => ?_)).mono ?_
  ·refine (zpx (k1.sx (w:=w1)) (B:=w.heap.size) (zdm hc1 k2 nS) hze).mono ?_
   rintro e w'' ⟨rfl,d⟩
   rw [Jm.zj3 h0]
   rw [hk.1,hk.2] at d
   exact ⟨rfl,(Did.of k1 k2).trans d⟩
  ·rw [Jm.zj4 h0]
   exact Did.of k1 k2
  ·rintro e w' ⟨rfl,d⟩
   exact ⟨rfl,d.pre hb1⟩
 clear h hk hze he nS hb1
 generalize Jm.sync s=r at *
 go_enter Tryz.func104,Tryz.ntmps104
 go_wp2_with (go_at_call 54;fail)
 rw [←hw1]
 refine HQ.out.mono ?_
 rintro e w2 ⟨rfl,hd⟩
 go_wp2
 go_ret
 exact ⟨rfl,hd⟩
theorem part_of (s:Jm.St) (n:Int):((Jm.part s n:Nat):Int)=(if (s.rest.length:Int) < (if n < 0 then 0 else n) then (s.rest.length:Int) else if n < 0 then 0 else n)∧Jm.part s n≤s.rest.length:=by
 unfold Jm.part
 split
 ·rw [if_neg (by omega)];exact ⟨rfl,Nat.zero_le _⟩
 ·split
  ·exact ⟨rfl,Nat.le_refl _⟩
  ·exact ⟨by omega,by omega⟩
set_option maxHeartbeats 2000000 in
theorem zrr (h : JAt w S g s kv rv) (n : Int) (hz : Jm.size s ≤ 16777216) :
  Calls Tryz.prog 11 #[.pointer (some ⟨g,0,none⟩),.int .i64 n] w fun e w'=>e = .returned (.tuple #[])∧Did S w w' g (Jm.crash s n):=by
 obtain ⟨hp1,hp2⟩:=part_of s n
 have HK:=Lib.hid (fun (m:Int) (hm:((Jm.part s n:Nat):Int)=m)=>by
  have:=zn3 h (Jm.part s n) hp2 hz
  rw [hm] at this
  exact this)
 obtain ⟨c1,-⟩:=h.at 1 rfl
 obtain ⟨Ar,cr,rfl,hr1,hr2,hrd,-⟩:=zes h.rr
 clear h hr1 hr2 hrd
 go_enter Tryz.func11,Tryz.ntmps11
 go_wp2_with (go_at_call 30;fail)
 all_goals
  refine (HK.out _ (by rw [hp1];(repeat' split)<;>omega)).mono ?_
  rintro e w1 ⟨rfl,⟨kv1,rv1,k1⟩,o1⟩
  have HF:=Lib.hid (zn9 k1)
  have HT:Hid (∀W,JAt W (Sx S w w1) g _ kv1 rv1∧Out (Sx S w w1) w1 W→Did S w W g (Jm.crash s n)):=fun W q=>Did.trans ⟨⟨kv1,rv1,k1⟩,o1⟩ (Did.of q.1 q.2)
  clear k1 o1 HK
  go_wp2_with (go_at_call 31;refine HF.out.mono ?_;rintro e w2 ⟨rfl,k2⟩)
  go_end0
  exact ⟨rfl,HT.out _ k2⟩
end
end Go.Proofs.YtponpgcpmlcdpaaGreatDoor
namespace Go.Proofs.YtponpgcpmlcdpaaGreatDoor
open Go.RowKit Go.Shelf Km
section
variable {w w' w'':World} {S:Nat→Prop} {g:Nat} {s s':Jm.St} {kv rv:Value}
def Told (base:Nat) (w:World) (kk bb:Value) (l:List (Int×List Int)):Prop:=Acc base w kk bb (l.map (·.1)) (l.map (·.2))
theorem HTab.out (h:HTab w) (o:Out S w w') (nT:¬ S 1):HTab w':=fun k hk=>zdm (h k hk) o nT
theorem whole_le (h:Jm.Ok s):Jm.whole s≤s.kept.length:=(Fm.al_ok _ s.kept (Nat.le_refl _) h.k).2.1
theorem zmu (h : JAt w S g (Jm.up s) kv rv) {B D : Nat} (hB : w.cell? ⟨B, 0, none⟩ = some (.pointer (some ⟨g, 0, none⟩))) (nB : ¬ S B) (hD : w.cell? ⟨D, 0, none⟩ = some (.int .i64 ((Jm.whole s : Nat) : Int))) (nD : ¬ S D) (hw : Jm.whole s < s.kept.length) :
  Calls Tryz.prog 54 #[.pointer (some ⟨g,0,none⟩),.func (.func 55) #[] #[.pointer (some ⟨B,0,none⟩),.pointer (some ⟨D,0,none⟩)]] w fun e w'=>e = .returned (.int .i64 (Jm.opn s).2.2)∧Jat w' S g (Jm.opn s).1∧Out S w w':=by
 have he0:=Jm.zdl (Jm.up s)
 have e2:(Jm.opn s).2.2=(Jm.eff (Jm.up s)).2:=by
  by_cases h0:(Jm.eff (Jm.up s)).2=0
  ·rw [Jm.zkb hw h0,h0]
  ·rw [Jm.zka hw h0]
   exact ((Jm.eff_err _).resolve_left h0).symm
 rw [e2]
 refine zf5 (Q:=fun w'=>Jat w' S g (Jm.opn s).1∧Out S w w') h 55 _ (fun W=>zcv Tryz.func55 rfl rfl _ _) (fun h0 w' k1 k2 => ?_) (fun h0 w' k1 k2 => ?_)
 ·refine (zqq k1 (B:=B) (D:=D) (m:=Jm.whole s) (zdm hB k2 nB) (zdm hD k2 nD) (by rw [he0.1];exact Nat.le_of_lt hw)).mono ?_
  rintro e w'' ⟨rfl,d,o⟩
  rw [Jm.zkb hw h0]
  rw [he0.1] at d
  exact ⟨rfl,d,k2.trans (o.more fun _ q => .inl q)⟩
 ·rw [Jm.zka hw h0]
  exact ⟨⟨_,_,k1⟩,k2⟩
theorem Out.in {w0:World} (o:Out S w' w'') (hb:Below w0.heap.size w0 w'):Out S w0 w'':=(Out.below hb).trans (o.more fun _ q => .inl q)
set_option maxHeartbeats 2000000 in
theorem open_any (h : JAt w S g s kv rv) (ht : HTab w) (nT : ¬ S 1) (hz : Jm.size s ≤ 4194304) :
  Calls Tryz.prog 32 #[.pointer (some ⟨g,0,none⟩)] w fun e w'=>∃kk bb,e = .returned (.tuple #[kk,bb,.int .i64 (Jm.opn s).2.2])∧Told w.heap.size w' kk bb (Jm.opn s).2.1∧Jat w' S g (Jm.opn s).1∧Out S w w':=by
 obtain ⟨w1,hw1⟩ : ∃w1,w1=w.alloc (.cells #[.pointer (some ⟨g,0,none⟩)] 40):=⟨_,rfl⟩
 have hb1:Below w.heap.size w w1:=by rw [hw1];exact (Below.refl _ w).alloc (Nat.le_refl _) _
 have hs1:w1.heap.size=w.heap.size+1:=by rw [hw1,World.size_alloc]
 have hc1:w1.cell? ⟨w.heap.size,0,none⟩=some (.pointer (some ⟨g,0,none⟩)):=by rw [hw1];exact (Boxed.new w _ _).cell
 have nS:¬ S w.heap.size:=fun hs=>by have:=h.lt _ hs;omega
 have j1:=(h.below hb1).drew
 have j2:=j1.norest
 have j3:=j2.offs false
 obtain ⟨c1,f1⟩:=j1.at 1 rfl
 obtain ⟨c3,f3⟩:=(h.below hb1).at 3 rfl
 have o2:=j1.zf7 1 (.slice none 0 0)
 have o3:=j2.zf7 3 (.bool false)
 have hCa:w1.drew.cell? ⟨w.heap.size,0,none⟩=some (.pointer (some ⟨g,0,none⟩)):=hc1
 have HU : Hid (JAt ((w1.drew.setCell ⟨g, 1, none⟩ (.slice none 0 0)).setCell ⟨g, 3, none⟩ (.bool false)) S g (Jm.up s) kv (.slice none 0 0) ∧ Out S w ((w1.drew.setCell ⟨g, 1, none⟩ (.slice none 0 0)).setCell ⟨g, 3, none⟩ (.bool false)) ∧
   ((w1.drew.setCell ⟨g,1,none⟩ (.slice none 0 0)).setCell ⟨g,3,none⟩ (.bool false)).cell? ⟨w.heap.size,0,none⟩=some (.pointer (some ⟨g,0,none⟩))) :=
  ⟨j3,(o2.trans (o3.more fun _ q => .inl q)).in hb1.drew,zdm (zdm hCa o2 nS) o3 nS⟩
 have hCb:(w1.drew.setCell ⟨g,1,none⟩ (.slice none 0 0)).cell? ⟨w.heap.size,0,none⟩=some (.pointer (some ⟨g,0,none⟩)):=zdm hCa o2 nS
 have HL:=Lib.hid h.lt
 clear j1 j2 j3 o2 o3 h
 go_enter Tryz.func32,Tryz.ntmps32
 go_wp2_with fail
 rw [←hw1]
 clear hw1
 refine zc6 (fun W=>W.cell? ⟨w.heap.size,0,none⟩=some (.pointer (some ⟨g,0,none⟩))) (by kernel_rfl) ?_
 refine zaf (i:=0) (v := ?v0_357) (a' := ?a0_357) rfl (by kernel_rfl) (by kernel_rfl) (by kernel_rfl) (fun _ _ _ h=>h) hCa ?w0_357 ?y0_357 ?f0_357 ?r0_357
 case w0_357=>kernel_rfl
 case y0_357=>(intro w hC;have h4:=hC;go_simp;try with_reducible rfl)
 case f0_357=>(go_simp;try with_reducible rfl)
 refine zaf (i:=1) (v := ?v1_358) (a' := ?a1_358) rfl (by kernel_rfl) (by kernel_rfl) (by kernel_rfl) (fun _ _ _ h=>h) hCa ?w1_358 ?y1_358 ?f1_358 ?r1_358
 case w1_358=>kernel_rfl
 case y1_358=>(intro w hC;have h4:=hC;go_simp;try with_reducible rfl)
 case f1_358=>(go_simp;try with_reducible rfl)
 refine zaf (i:=2) (v := ?v2_359) (a' := ?a2_359) rfl (by kernel_rfl) (by kernel_rfl) (by kernel_rfl) (fun _ _ _ h=>h) hCa ?w2_359 ?y2_359 ?f2_359 ?r2_359
 case w2_359=>kernel_rfl
 case y2_359=>(intro w hC;go_simp;try with_reducible rfl)
 case f2_359=>(go_simp;try with_reducible rfl)
 refine zaf (i:=3) (v := ?v3_360) (a' := ?a3_360) rfl (by kernel_rfl) (by kernel_rfl) (by kernel_rfl) (fun _ _ _ h=>h) hCa ?w3_360 ?y3_360 ?f3_360 ?r3_360
 case w3_360=>kernel_rfl
 case y3_360=>(intro w hC;go_simp;try with_reducible rfl)
 case f3_360=>(go_simp;try with_reducible rfl)
 refine za5 (i:=4) rfl (by kernel_rfl) (by kernel_rfl) (fun K hK => ?_)
 go_simp
 refine hK _ _ ⟨hCb,?_⟩
 clear hK K c1 f1
 refine zaf (i:=5) (v := ?v5_361) (a' := ?a5_361) rfl (by kernel_rfl) (by kernel_rfl) (by kernel_rfl) (fun _ _ _ h=>h) hCb ?w5_361 ?y5_361 ?f5_361 ?r5_361
 case w5_361=>kernel_rfl
 case y5_361=>(intro w hC;go_simp;try with_reducible rfl)
 case f5_361=>(go_simp;try with_reducible rfl)
 refine zaf (i:=6) (v := ?v6_362) (a' := ?a6_362) rfl (by kernel_rfl) (by kernel_rfl) (by kernel_rfl) (fun _ _ _ h=>h) hCb ?w6_362 ?y6_362 ?f6_362 ?r6_362
 case w6_362=>kernel_rfl
 case y6_362=>(intro w hC;go_simp;try with_reducible rfl)
 case f6_362=>(go_simp;try with_reducible rfl)
 refine za5 (i:=7) rfl (by kernel_rfl) (by kernel_rfl) (fun K hK => ?_)
 go_simp
 refine hK _ _ ⟨HU.out.2.2,?_⟩
 clear hK K c3 f3
 refine zbc (by kernel_rfl) ?_
 obtain ⟨j3, o3, b3⟩ : JAt ((w1.setCell ⟨g, 1, none⟩ (.slice none 0 0)).setCell ⟨g, 3, none⟩ (.bool false)).drew S g (Jm.up s) kv (.slice none 0 0) ∧ Out S w ((w1.setCell ⟨g, 1, none⟩ (.slice none 0 0)).setCell ⟨g, 3, none⟩ (.bool false)).drew ∧
   ((w1.setCell ⟨g,1,none⟩ (.slice none 0 0)).setCell ⟨g,3,none⟩ (.bool false)).drew.cell? ⟨w.heap.size,0,none⟩=some (.pointer (some ⟨g,0,none⟩)):=HU.out
 generalize ((w1.setCell ⟨g,1,none⟩ (.slice none 0 0)).setCell ⟨g,3,none⟩ (.bool false)).drew=w2 at *
 clear hCa hCb HU
 have hwl:=whole_le j3.ok
 have hok:=j3.ok
 have hT2:=ht.out o3 nT
 obtain ⟨Ak,ck,rfl,hk1,hk2,hkd,-⟩:=zes (show w2.ownsRow 0 5 1 kv s.kept.length (u8s s.kept) from j3.kr)
 have c0:w2.cell? ⟨g,0,none⟩=some (.slice Ak s.kept.length ck):=(j3.at 0 rfl).1
 unfold Jm.size at hz
 have HC:=Lib.hid (All_any Ak s.kept.length ck w2.heap.size s.kept w2 hkd rfl hk1 hk2 (Nat.le_refl _) hok.k hT2 (by omega))
 rw [show (Fm.cat (Fm.al s.kept)).length=Jm.whole s from rfl] at HC
 have HJ:=Lib.hid (fun (W:World) (q:Below w2.heap.size w2 W)=>j3.below q)
 have HB:=Lib.hid (fun (W:World) (q:Below w2.heap.size w2 W)=>zdm b3 (Out.below (S:=fun _=>False) q) (fun h=>h))
 have HO:=Lib.hid (fun (W:World) (q:Below w2.heap.size w2 W)=>o3.trans ((Out.below q).more fun _ q => .inl q:Out (Sx S w w2) w2 W))
 have hs2:=o3.size
 have hwl':Jm.whole s≤s.kept.length:=hwl
 clear hkd hT2 ht hok j3 o3 hwl
 go_wp2_with (go_at_call 53;fail)
 refine HC.out.mono ?_
 rintro e w3 ⟨kk,bb,rfl,hacc,hb3⟩
 obtain ⟨A3,c3,vs,A4,c4,rfl,rfl,-⟩:=hacc.outF
 have hb4:Below w2.heap.size w2 (w3.alloc (.cells #[.int .i64 ((Jm.whole s:Nat):Int)] 3)):=hb3.alloc hb3.size _
 have hbx:=HB.out _ hb4
 have hcx:(w3.alloc (.cells #[.int .i64 ((Jm.whole s:Nat):Int)] 3)).cell? ⟨g,0,none⟩=some (.slice Ak s.kept.length ck):=((HJ.out _ hb4).at 0 rfl).1
 have HA:=Lib.hid (hacc.below ((Below.refl w3.heap.size w3).alloc (Nat.le_refl _) (.cells #[.int .i64 ((Jm.whole s:Nat):Int)] 3)))
 have hdx:(w3.alloc (.cells #[.int .i64 ((Jm.whole s:Nat):Int)] 3)).cell? ⟨w3.heap.size,0,none⟩=some (.int .i64 ((Jm.whole s:Nat):Int)):=(Boxed.new w3 _ _).cell
 have hs3:=hb3.size
 have HB4:=Lib.hid hb4
 have HAl:Hid (Told w.heap.size (w3.alloc (.cells #[.int .i64 ((Jm.whole s:Nat):Int)] 3)) (.slice A3 (Fm.al s.kept).length c3) (.slice A4 (Fm.al s.kept).length c4) (Fm.al s.kept)):=HA.out.mono hs2
 clear hacc hb3 hb4 HC HA c0 b3
 generalize (Fm.al s.kept).length=nl at *
 go_wp2_with fail
 generalize w3.alloc (.cells #[.int .i64 ((Jm.whole s:Nat):Int)] 3)=w4 at *
 by_cases hw:Jm.whole s < s.kept.length
 ·have HQ:=Lib.hid (fun (W:World)=>zmu (w:=W) (S:=S) (g:=g) (s:=s) (kv:=.slice Ak s.kept.length ck) (rv:=.slice none 0 0) (B:=w.heap.size) (D:=w3.heap.size))
  have HW:=Lib.hid hw
  have hd1:decide (((Jm.whole s:Nat):Int) < (s.kept.length:Int))=true:=by simpa using hw
  have nD:¬ S w3.heap.size:=fun q=>by have:=HL.out _ q;omega
  have hopn:((Jm.opn s).2.2=0∧(Jm.opn s).2.1=Fm.al s.kept)∨((Jm.opn s).2.2≠0∧(Jm.opn s).2.1=[]):=by
   by_cases h0:(Jm.eff (Jm.up s)).2=0
   ·rw [Jm.zkb hw h0];exact .inl ⟨rfl,rfl⟩
   ·rw [Jm.zka hw h0];exact .inr ⟨by show (61:Int)≠0;decide,rfl⟩
  obtain ⟨⟨s9,l9,e9⟩,hr⟩ : ∃r,Jm.opn s=r:=⟨_,rfl⟩
  rw [hr] at HQ hopn
  have HR:=Lib.hid hr
  clear hr
  dsimp only at HQ hopn
  rcases hopn with ⟨rfl,rfl⟩|⟨he9,rfl⟩
  ·go_quiet (fail)
   go_wp2_with (go_at_call 54;fail)
   have hq:=za8 HB4.out nq
   refine (HQ.out (w4.drewN nq) (HJ.out _ hq) (HB.out _ hq) nS hdx nD HW.out).mono ?_
   rintro e w5 ⟨rfl,k1,k2⟩
   have HF:Hid (Told w.heap.size w5 (.slice A3 nl c3) (.slice A4 nl c4) (Fm.al s.kept)):=Acc.keep (w:=w4) HAl.out k2.size (fun b h1 h2=>k2.block b h2 (fun q=>by have:=HL.out b q;omega))
   have HX:=Lib.hid ((HO.out _ hq).trans (k2.more fun _ q => .inl q:Out (Sx S w (w4.drewN nq)) (w4.drewN nq) w5))
   have HK:=Lib.hid k1
   clear k1 k2 hbx hcx hdx
   go_wp2
   go_ret3
   rw [HR.out]
   exact ⟨_,_,rfl,HF.out,HK.out,HX.out⟩
  ·have hne:(e9 != 0)=true:=by rw [bne_iff_ne];exact he9
   go_quiet (fail)
   go_wp2_with (go_at_call 54;fail)
   have hq:=za8 HB4.out nq
   refine (HQ.out (w4.drewN nq) (HJ.out _ hq) (HB.out _ hq) nS hdx nD HW.out).mono ?_
   rintro e w5 ⟨rfl,k1,k2⟩
   have HX:=Lib.hid ((HO.out _ hq).trans (k2.more fun _ q => .inl q:Out (Sx S w (w4.drewN nq)) (w4.drewN nq) w5))
   have HK:=Lib.hid k1
   clear k1 k2 hbx hcx hdx
   go_wp2
   go_ret3
   rw [HR.out]
   exact ⟨_,_,rfl,Acc.nil _ _ HX.out.size,HK.out,HX.out⟩
 ·have hd1:decide (((Jm.whole s:Nat):Int) < (s.kept.length:Int))=false:=by simpa using hw
  have HE:=Lib.hid (Jm.zmt hw)
  go_quiet (fail)
  go_wp2
  go_ret3
  rw [HE.out]
  have hq:=za8 HB4.out nq
  exact ⟨_,_,rfl,HAl.out,⟨_,_,HJ.out _ hq⟩,HO.out _ hq⟩
end
end Go.Proofs.YtponpgcpmlcdpaaGreatDoor
