import Derived.Test.YtponpgcpmlcdpaaGreatDoorHa
import Derived.Test.YtponpgcpmlcdpaaGreatDoorBMa
import Derived.Test.YtponpgcpmlcdpaaGreatDoorKitLt
import Derived.Test.YtponpgcpmlcdpaaGreatDoorBJ
set_option maxRecDepth 100000
namespace Go.Proofs.YtponpgcpmlcdpaaGreatDoor
open Go.RowKit Go.Shelf Km Kx Kc Kt
set_option linter.unusedVariables false
set_option linter.unusedSimpArgs false
instance:Kx.OneC Tryz.prog 31:=⟨Tryz.isAgg31⟩
instance:Kx.OneC Tryz.prog 40:=⟨Tryz.isAgg40⟩
instance:Kx.AggC Tryz.prog 37 26:=⟨Tryz.isAgg37,Tryz.sizeOf37⟩
structure Ac where
 c:Cf
 node:Int
 e:Int
 kn:Pt
 pr:Int
 ac:Int
 pl:Pt
 lo:Int
 hi:Int
 led:Bool
 ld:Int
 wi:Int
 wt:Int
 wr:Int
 lt:Int
def Ac.cells (g:Nat) (a:Ac):List Value :=
 cf a.c++([.int .i64 a.node,.pointer (some ⟨g,0,none⟩),.int .i64 a.e]++(a.kn.cells++([.int .i64 a.pr,.int .i64 a.ac]++(a.pl.cells++[.int .i64 a.lo,.int .i64 a.hi,.bool a.led,.int .i64 a.ld,.int .i64 a.wi,.int .i64 a.wt,.int .i64 a.wr,.int .i64 a.lt]))))
section
variable {g:Nat} {a:Ac} {v:Int} {p:Pt} {b:Bool}
@[simp] theorem Ac.len:(a.cells g).length=67:=rfl
@[simp] theorem Ac.set_e:(a.cells g).set 32 (.int .i64 v)=({ a with e:=v }:Ac).cells g:=rfl
@[simp] theorem Ac.set_pr:(a.cells g).set 45 (.int .i64 v)=({ a with pr:=v }:Ac).cells g:=rfl
@[simp] theorem Ac.set_ac:(a.cells g).set 46 (.int .i64 v)=({ a with ac:=v }:Ac).cells g:=rfl
@[simp] theorem Ac.set_lo:(a.cells g).set 59 (.int .i64 v)=({ a with lo:=v }:Ac).cells g:=rfl
@[simp] theorem Ac.set_hi:(a.cells g).set 60 (.int .i64 v)=({ a with hi:=v }:Ac).cells g:=rfl
@[simp] theorem Ac.set_led:(a.cells g).set 61 (.bool b)=({ a with led:=b }:Ac).cells g:=rfl
@[simp] theorem Ac.set_ld:(a.cells g).set 62 (.int .i64 v)=({ a with ld:=v }:Ac).cells g:=rfl
@[simp] theorem Ac.set_wi:(a.cells g).set 63 (.int .i64 v)=({ a with wi:=v }:Ac).cells g:=rfl
@[simp] theorem Ac.set_wt:(a.cells g).set 64 (.int .i64 v)=({ a with wt:=v }:Ac).cells g:=rfl
@[simp] theorem Ac.set_wr:(a.cells g).set 65 (.int .i64 v)=({ a with wr:=v }:Ac).cells g:=rfl
@[simp] theorem Ac.set_lt:(a.cells g).set 66 (.int .i64 v)=({ a with lt:=v }:Ac).cells g:=rfl
@[simp high] theorem Ac.splice_kn:Kx.splice (a.cells g) 33 p.cells=({ a with kn:=p }:Ac).cells g:=rfl
@[simp high] theorem Ac.splice_pl:Kx.splice (a.cells g) 47 p.cells=({ a with pl:=p }:Ac).cells g:=rfl
@[simp high] theorem Ac.splice_no:Kx.splice (a.cells g) 47 [.int .i64 0,.int .i64 0,.int .i64 0,.int .i64 0,.int .i64 0,.int .i64 0,.int .i64 0,.int .i64 0,.int .u64 0,.int .u64 0,.slice none 0 0,.slice none 0 0]=({ a with pl:=noPt }:Ac).cells g:=rfl
@[simp] theorem Ac.take_kn:((a.cells g).drop 33).take 12=a.kn.cells:=rfl
@[simp] theorem Ac.take_pl:((a.cells g).drop 47).take 12=a.pl.cells:=rfl
@[simp] theorem Pt.cells_len':p.cells.length=12:=rfl
end
def Ac.enter (a:Ac) (e:Int):Ac:=if a.hi < e then { a with e:=e,ac:=0,pl:=noPt,lo:=0,hi:=0 } else { a with e:=e,ac:=0,pl:=noPt,lo:=if a.lo < e then e else a.lo }
def Ac.widen (a:Ac) (e:Int):Ac:=if a.lo=0∧a.hi=0 then { a with lo:=e,hi:=e } else { a with lo:=if e < a.lo then e else a.lo,hi:=if a.hi < e then e else a.hi }
section
variable {w0 w:World} {ga g:Nat} {a:Ac} {l:List (Nat×List Value)} {r:List Rw} {F:Fz}
set_option maxHeartbeats 1000000 in
theorem zrj (HB0 : Bxs w0 w ((ga, a.cells g) :: l) r F) (e : Int) :
  Calls Tryz.prog 57 #[.pointer (some ⟨ga,32,none⟩),.int .i64 e] w fun en w'=>en = .returned (.tuple #[])∧Bxs w0 w' ((ga,(a.enter e).cells g)::l) r F:=by
 have HB:=Lib.hid HB0
 clear HB0
 by_cases hc:a.hi < e
 ·have HE:=Lib.hid (show a.enter e=_ from if_pos hc)
  go_enter Tryz.func57,Tryz.ntmps57
  go_wp2_with (first|((with_reducible refine zah HB ?_);clear HB;intro w_ HB)|((with_reducible refine zae ?_);(first|refine boxa HB rfl ?_|refine boxt HB rfl rfl ?_|refine box1 HB rfl rfl ?_);clear HB;intro b_ w_ HB;refine Kx.fr ?_)|((with_reducible refine zaa ?_);(first|refine ala HB ?_|refine al1 HB ?_);clear HB;intro b_ w_ HB;refine Kx.fr ?_)|((with_reducible refine zab ?_);first|refine Kx.l1 HB rfl rfl ?_|refine Kx.la HB rfl ?_)|((with_reducible refine zac ?_);first|refine l1g HB rfl rfl rfl ?_|refine Kx.lag HB rfl rfl ?_)|((with_reducible refine zad ?_);(first|refine stwa HB rfl rfl ?_|refine sta HB rfl rfl ?_|refine Kx.stc HB rfl rfl ?_|refine Kx.stt HB rfl rfl rfl ?_|refine Kx.st1 HB rfl rfl rfl ?_);clear HB;intro w_ HB))
  all_goals
   go_end0
   rw [HE.out]
   exact ⟨rfl,HB.out⟩
 ·have HE:=Lib.hid (show a.enter e=_ from if_neg hc)
  go_enter Tryz.func57,Tryz.ntmps57
  go_wp2_with (first|((with_reducible refine zah HB ?_);clear HB;intro w_ HB)|((with_reducible refine zae ?_);(first|refine boxa HB rfl ?_|refine boxt HB rfl rfl ?_|refine box1 HB rfl rfl ?_);clear HB;intro b_ w_ HB;refine Kx.fr ?_)|((with_reducible refine zaa ?_);(first|refine ala HB ?_|refine al1 HB ?_);clear HB;intro b_ w_ HB;refine Kx.fr ?_)|((with_reducible refine zab ?_);first|refine Kx.l1 HB rfl rfl ?_|refine Kx.la HB rfl ?_)|((with_reducible refine zac ?_);first|refine l1g HB rfl rfl rfl ?_|refine Kx.lag HB rfl rfl ?_)|((with_reducible refine zad ?_);(first|refine stwa HB rfl rfl ?_|refine sta HB rfl rfl ?_|refine Kx.stc HB rfl rfl ?_|refine Kx.stt HB rfl rfl rfl ?_|refine Kx.st1 HB rfl rfl rfl ?_);clear HB;intro w_ HB))
  all_goals
   go_end0
   rw [HE.out]
   exact ⟨rfl,HB.out⟩
set_option maxHeartbeats 1000000 in
theorem zps (HB0 : Bxs w0 w ((ga, a.cells g) :: l) r F) (e : Int) :
  Calls Tryz.prog 58 #[.pointer (some ⟨ga,32,none⟩),.int .i64 e] w fun en w'=>en = .returned (.tuple #[])∧Bxs w0 w' ((ga,(a.widen e).cells g)::l) r F:=by
 have HB:=Lib.hid HB0
 clear HB0
 by_cases h1:a.lo=0∧a.hi=0
 ·have HE:=Lib.hid (show a.widen e=_ from if_pos h1)
  have e1:(a.lo == 0)=true:=by simpa using h1.1
  have e2:(a.hi == 0)=true:=by simpa using h1.2
  clear h1
  go_enter Tryz.func58,Tryz.ntmps58
  go_wp2_with (first|((with_reducible refine zah HB ?_);clear HB;intro w_ HB)|((with_reducible refine zae ?_);(first|refine boxa HB rfl ?_|refine boxt HB rfl rfl ?_|refine box1 HB rfl rfl ?_);clear HB;intro b_ w_ HB;refine Kx.fr ?_)|((with_reducible refine zaa ?_);(first|refine ala HB ?_|refine al1 HB ?_);clear HB;intro b_ w_ HB;refine Kx.fr ?_)|((with_reducible refine zab ?_);first|refine Kx.l1 HB rfl rfl ?_|refine Kx.la HB rfl ?_)|((with_reducible refine zac ?_);first|refine l1g HB rfl rfl rfl ?_|refine Kx.lag HB rfl rfl ?_)|((with_reducible refine zad ?_);(first|refine stwa HB rfl rfl ?_|refine sta HB rfl rfl ?_|refine Kx.stc HB rfl rfl ?_|refine Kx.stt HB rfl rfl rfl ?_|refine Kx.st1 HB rfl rfl rfl ?_);clear HB;intro w_ HB))
  refine bodyPost_ret (results_none rfl _ _ _) rfl ?_
  rw [HE.out]
  exact ⟨rfl,HB.out⟩
 ·have HE:=Lib.hid (show a.widen e=_ from if_neg h1)
  have hd:(a.lo == 0)=false∨((a.lo == 0)=true∧(a.hi == 0)=false):=by
   by_cases q:a.lo=0
   ·exact .inr ⟨by simpa using q,by simpa using fun k=>h1 ⟨q,k⟩⟩
   ·exact .inl (by simpa using q)
  clear h1
  rcases hd with e1|⟨e1,e2⟩
  all_goals
   go_enter Tryz.func58,Tryz.ntmps58
   go_upto_region 2 with (first|((with_reducible refine zah HB ?_);clear HB;intro w_ HB)|((with_reducible refine zae ?_);(first|refine boxa HB rfl ?_|refine boxt HB rfl rfl ?_|refine box1 HB rfl rfl ?_);clear HB;intro b_ w_ HB;refine Kx.fr ?_)|((with_reducible refine zaa ?_);(first|refine ala HB ?_|refine al1 HB ?_);clear HB;intro b_ w_ HB;refine Kx.fr ?_)|((with_reducible refine zab ?_);first|refine Kx.l1 HB rfl rfl ?_|refine Kx.la HB rfl ?_)|((with_reducible refine zac ?_);first|refine l1g HB rfl rfl rfl ?_|refine Kx.lag HB rfl rfl ?_)|((with_reducible refine zad ?_);(first|refine stwa HB rfl rfl ?_|refine sta HB rfl rfl ?_|refine Kx.stc HB rfl rfl ?_|refine Kx.stt HB rfl rfl rfl ?_|refine Kx.st1 HB rfl rfl rfl ?_);clear HB;intro w_ HB))
   have hsub:∀w',Bxs w0 w' ((ga,a.cells g)::l) r F→∃v,Bxs w0 w' ((ga,({ a with lo:=v }:Ac).cells g)::l) r F:=fun w' h=>⟨a.lo,h⟩
   refine Kx.zc5 (fun w'=>∃v,Bxs w0 w' ((ga,({ a with lo:=v }:Ac).cells g)::l) r F) (fun w'=>Bxs w0 w' ((ga,a.cells g)::l) r F) (fun i=>i == 19) (by kernel_rfl) HB.out.drew ?_
   refine tkS 0 rfl hsub ?_
   refine tkS 1 rfl hsub ?_
   refine tkS 2 rfl hsub ?_
   refine tkS 3 rfl hsub ?_
   refine tkS 4 rfl hsub ?_
   refine tkS 6 rfl hsub ?_
   refine tkS 8 rfl hsub ?_
   refine tkS 9 rfl hsub ?_
   refine tkS 10 rfl hsub ?_
   refine tkS 11 rfl hsub ?_ (v:=.int .i64 a.hi) (hy:=fun w ⟨v,hB⟩=>Kx.zbg hB ga 60 rfl _ Kx.InL.head (Tryz.isAgg2 _) rfl)
   refine tkS 12 rfl hsub ?_
   refine tkS 13 rfl hsub ?_
   refine lsS 5 rfl hsub ?_ (hy:=fun w hB=>Kx.zbg hB ga 59 rfl _ Kx.InL.head (Tryz.isAgg2 _) rfl)
   refine lsS 7 rfl hsub ?_
   refine lsS 14 rfl hsub ?_
   refine lsS 15 rfl hsub ?_
   refine Kx.st1S 16 rfl rfl rfl rfl (fun w h=>⟨_,h⟩) ?_
   refine lsS 17 rfl (fun w h=>⟨_,h⟩) ?_
   refine lsS 18 rfl (fun w h=>⟨_,h⟩) ?_
   first|(refine zal (i:=19) rfl (by kernel_rfl) (by kernel_rfl) (by rfl) rfl _ _ _ rfl _ rfl _ rfl _ (by rfl) (fun w=>(Tryz.sizeOf2 w)) (by rfl) ?_)|(refine zar (i:=19) rfl (by kernel_rfl) (by kernel_rfl) (by rfl) rfl _ _ _ rfl _ rfl _ rfl _ _ (by simp [Kx.splice]<;>rfl) (by simp) (fun w=>(Tryz.sizeOf2 w)) (by rfl) ?_)|(refine zaq (i:=19) rfl (by kernel_rfl) (by kernel_rfl) (by rfl) rfl _ _ _ rfl _ rfl rfl _ _ (by simp<;>rfl) (by simp) (fun w=>(Tryz.sizeOf2 w)) ?_)|(refine zao (i:=19) rfl (by kernel_rfl) (by kernel_rfl) (by rfl) rfl _ _ _ rfl _ rfl _ rfl rfl _ _ (by simp<;>rfl) (by simp) (fun w=>(Tryz.sizeOf2 w)) ?_)
   refine zan (by kernel_rfl) ?_
   clear HB
   intro w_ HB_
   have HB:=Lib.hid HB_
   clear HB_
   go_wp2
   all_goals
    go_end0
    rw [HE.out]
    exact ⟨rfl,HB.out⟩
end
end Go.Proofs.YtponpgcpmlcdpaaGreatDoor

namespace Go.Proofs.YtponpgcpmlcdpaaGreatDoor
open Go.RowKit Go.Shelf Km Kx Kc Kt
set_option linter.unusedVariables false
set_option linter.unusedSimpArgs false
theorem Kx.Bxs.perm {w0 w:World} {l l':List (Nat×List Value)} {r:List Rw} {F:Fz} (h:Bxs w0 w l r F) (hp:l.Perm l'):Bxs w0 w l' r F :=
 ⟨h.below,(hp.map _).nodup_iff.1 h.nodup,fun p hm=>h.each p (hp.mem_iff.2 hm),fun x hx=>⟨(h.rows x hx).1,fun p hm=>(h.rows x hx).2 p (hp.mem_iff.2 hm)⟩,h.apart,fun q hq=>(h.stay q hq).to fun _ g1 g2 g3=>⟨rfl,g1,fun p hm=>g2 p (hp.mem_iff.2 hm),g3⟩⟩
theorem Kx.Bxs.swap {w0 w:World} {p q:Nat×List Value} {l:List (Nat×List Value)} {r:List Rw} {F:Fz} (h:Bxs w0 w (p::q::l) r F):Bxs w0 w (q::p::l) r F:=h.perm (List.Perm.swap _ _ _)
theorem Kx.Bxs.zde {w0 w:World} {p q:Nat×List Value} {l:List (Nat×List Value)} {r:List Rw} {F:Fz} (h:Bxs w0 w (p::q::l) r F):Bxs w0 w (p::l) r F:=h.swap.tail
theorem Kx.Bxs.third {w0 w:World} {p q s:Nat×List Value} {l:List (Nat×List Value)} {r:List Rw} {F:Fz} (h:Bxs w0 w (p::q::s::l) r F):Bxs w0 w (s::p::q::l) r F:=h.perm ((List.Perm.cons p (List.Perm.swap s q l)).trans (List.Perm.swap s p (q::l)))
theorem Kx.Bxs.tail3 {w0 w:World} {p q s:Nat×List Value} {l:List (Nat×List Value)} {r:List Rw} {F:Fz} (h:Bxs w0 w (p::q::s::l) r F):Bxs w0 w (p::q::l) r F:=h.third.tail
def mpt (x:Mm.Ms) (l:Lo):Pt:=⟨x.plan,l.A1,l.n1,l.c1,l.A2,l.n2,l.c2⟩
section
variable {x:Mm.Ms} {l:Lo} {v:Int}
@[simp] theorem mvs_len':(mvs x l).length=26:=rfl
@[simp] theorem mvs_set_f:(mvs x l).set 1 (.int .i64 v)=mvs { x with f:=v } l:=rfl
@[simp] theorem mvs_set_t:(mvs x l).set 2 (.int .i64 v)=mvs { x with t:=v } l:=rfl
@[simp] theorem mvs_take:((mvs x l).drop 11).take 12=(mpt x l).cells:=rfl
end
def Ac.replay (a:Ac) (x:Mm.Ms) (p:Pt):Ac :=
 if x.k=5 then { (if x.e=a.e then a else a.enter x.e) with kn:=p,pr:=x.b }
 else if x.k=8 then { a with ac:=x.b,pl:=p,pr:=x.b }
 else if x.k=11∧x.co=1 then a.widen x.e
 else if x.k=11∧x.co=2 then { a with led:=true,ld := -1 } else a
section
variable {w0 w:World} {ga g:Nat} {a:Ac} {l:List (Nat×List Value)} {r:List Rw} {F:Fz}
set_option maxHeartbeats 2000000 in
theorem zjd (HB0 : Bxs w0 w ((ga, a.cells g) :: l) r F) (x : Mm.Ms) (lo : Lo) :
  Calls Tryz.prog 34 #[.pointer (some ⟨ga,32,none⟩),.agg (mvs x lo).toArray] w fun en w'=>en = .returned (.tuple #[])∧Bxs w0 w' ((ga,(a.replay x (mpt x lo)).cells g)::l) r F:=by
 have HB:=Lib.hid HB0
 clear HB0
 by_cases h5:x.k=5
 ·have e5:(x.k == 5)=true:=by simpa using h5
  by_cases he:x.e=a.e
  ·have HE:=Lib.hid (show a.replay x (mpt x lo)={ a with kn:=mpt x lo,pr:=x.b } by unfold Ac.replay;rw [if_pos h5,if_pos he])
   have e1:(x.e != a.e)=false:=by simpa using he
   clear h5 he
   go_enter Tryz.func34,Tryz.ntmps34
   go_upto_region 2 with (first|((with_reducible refine zah HB ?_);clear HB;intro w_ HB)|((with_reducible refine zae ?_);(first|refine boxa HB rfl ?_|refine boxt HB rfl rfl ?_|refine box1 HB rfl rfl ?_);clear HB;intro b_ w_ HB;refine Kx.fr ?_)|((with_reducible refine zaa ?_);(first|refine ala HB ?_|refine al1 HB ?_);clear HB;intro b_ w_ HB;refine Kx.fr ?_)|((with_reducible refine zab ?_);first|refine Kx.l1 HB rfl rfl ?_|refine Kx.la HB rfl ?_)|((with_reducible refine zac ?_);first|refine l1g HB rfl rfl rfl ?_|refine Kx.lag HB rfl rfl ?_)|((with_reducible refine zad ?_);(first|refine stwa HB rfl rfl ?_|refine sta HB rfl rfl ?_|refine Kx.stc HB rfl rfl ?_|refine Kx.stt HB rfl rfl rfl ?_|refine Kx.st1 HB rfl rfl rfl ?_);clear HB;intro w_ HB))
   refine zau HB (fun i=>false) (by kernel_rfl) ?_
   refine Kx.tk 0 rfl ?_
   first|refine xl1 1 rfl rfl rfl ?_|refine xla 1 rfl rfl ?_
   refine Kx.tk 2 rfl ?_
   refine Kx.tk 3 rfl ?_
   refine Kx.tk 4 rfl ?_
   first|refine xl1 5 rfl rfl rfl ?_|refine xla 5 rfl rfl ?_
   refine Kx.tk 6 rfl ?_
   refine zan (by kernel_rfl) ?_
   clear HB
   intro w_ HB_
   have HB:=Lib.hid HB_
   clear HB_
   go_upto_region 4 with (first|((with_reducible refine zah HB ?_);clear HB;intro w_ HB)|((with_reducible refine zae ?_);(first|refine boxa HB rfl ?_|refine boxt HB rfl rfl ?_|refine box1 HB rfl rfl ?_);clear HB;intro b_ w_ HB;refine Kx.fr ?_)|((with_reducible refine zaa ?_);(first|refine ala HB ?_|refine al1 HB ?_);clear HB;intro b_ w_ HB;refine Kx.fr ?_)|((with_reducible refine zab ?_);first|refine Kx.l1 HB rfl rfl ?_|refine Kx.la HB rfl ?_)|((with_reducible refine zac ?_);first|refine l1g HB rfl rfl rfl ?_|refine Kx.lag HB rfl rfl ?_)|((with_reducible refine zad ?_);(first|refine stwa HB rfl rfl ?_|refine sta HB rfl rfl ?_|refine Kx.stc HB rfl rfl ?_|refine Kx.stt HB rfl rfl rfl ?_|refine Kx.st1 HB rfl rfl rfl ?_);clear HB;intro w_ HB))
   replace HB:=Lib.hid HB.out.swap
   refine Kx.zd3 67 HB rfl (by kernel_rfl) ?_
   refine tkS 0 rfl (fun w h=>⟨_,rfl,h⟩) ?_
   refine tkS 1 rfl (fun w h=>⟨_,rfl,h⟩) ?_
   refine tkS 2 rfl (fun w h=>⟨_,rfl,h⟩) ?_
   first|refine Kx.xlS 3 rfl rfl rfl rfl ?_|refine Kx.xlaS 3 rfl rfl rfl ?_
   refine tkS 4 rfl (fun w h=>⟨_,rfl,h⟩) ?_
   first|refine Kx.xlS 5 rfl rfl rfl rfl ?_|refine Kx.xlaS 5 rfl rfl rfl ?_
   refine tkS 6 rfl (fun w h=>⟨_,rfl,h⟩) ?_
   refine tkS 7 rfl (fun w h=>⟨_,rfl,h⟩) ?_
   first|refine Kx.stcS 8 rfl rfl rfl (fun w h=>⟨_,rfl,h⟩) ?_|refine Kx.st1S 8 rfl rfl rfl rfl (fun w h=>⟨_,rfl,h⟩) ?_|refine Kx.staS 8 rfl rfl rfl (fun w h=>⟨_,rfl,h⟩) ?_
   refine tkS 9 rfl (fun w h=>⟨_,rfl,h⟩) ?_
   refine tkS 10 rfl (fun w h=>⟨_,rfl,h⟩) ?_
   first|refine Kx.stcS 11 rfl rfl rfl (fun w h=>⟨_,rfl,h⟩) ?_|refine Kx.st1S 11 rfl rfl rfl rfl (fun w h=>⟨_,rfl,h⟩) ?_|refine Kx.staS 11 rfl rfl rfl (fun w h=>⟨_,rfl,h⟩) ?_
   refine zan (by kernel_rfl) ?_
   clear HB
   intro w_ HB_
   have HB:=Lib.hid HB_
   clear HB_
   go_wp2
   go_end0
   rw [HE.out]
   exact ⟨rfl,HB.out.zde⟩
  ·have HE:=Lib.hid (show a.replay x (mpt x lo)={ a.enter x.e with kn:=mpt x lo,pr:=x.b } by unfold Ac.replay;rw [if_pos h5,if_neg he])
   have e1:(x.e != a.e)=true:=by simpa using he
   clear h5 he
   go_enter Tryz.func34,Tryz.ntmps34
   go_upto_region 2 with (first|((with_reducible refine zah HB ?_);clear HB;intro w_ HB)|((with_reducible refine zae ?_);(first|refine boxa HB rfl ?_|refine boxt HB rfl rfl ?_|refine box1 HB rfl rfl ?_);clear HB;intro b_ w_ HB;refine Kx.fr ?_)|((with_reducible refine zaa ?_);(first|refine ala HB ?_|refine al1 HB ?_);clear HB;intro b_ w_ HB;refine Kx.fr ?_)|((with_reducible refine zab ?_);first|refine Kx.l1 HB rfl rfl ?_|refine Kx.la HB rfl ?_)|((with_reducible refine zac ?_);first|refine l1g HB rfl rfl rfl ?_|refine Kx.lag HB rfl rfl ?_)|((with_reducible refine zad ?_);(first|refine stwa HB rfl rfl ?_|refine sta HB rfl rfl ?_|refine Kx.stc HB rfl rfl ?_|refine Kx.stt HB rfl rfl rfl ?_|refine Kx.st1 HB rfl rfl rfl ?_);clear HB;intro w_ HB))
   refine zau HB (fun i=>false) (by kernel_rfl) ?_
   refine Kx.tk 0 rfl ?_
   first|refine xl1 1 rfl rfl rfl ?_|refine xla 1 rfl rfl ?_
   refine Kx.tk 2 rfl ?_
   refine Kx.tk 3 rfl ?_
   refine Kx.tk 4 rfl ?_
   first|refine xl1 5 rfl rfl rfl ?_|refine xla 5 rfl rfl ?_
   refine Kx.tk 6 rfl ?_
   refine zan (by kernel_rfl) ?_
   clear HB
   intro w_ HB_
   have HB:=Lib.hid HB_
   clear HB_
   go_upto_region 4 with (first|(go_at_call 57;refine (zrj HB.out.swap _).mono ?_;rintro en w_ ⟨rfl,hb_⟩;replace HB:=Lib.hid hb_;clear hb_)|(first|((with_reducible refine zah HB ?_);clear HB;intro w_ HB)|((with_reducible refine zae ?_);(first|refine boxa HB rfl ?_|refine boxt HB rfl rfl ?_|refine box1 HB rfl rfl ?_);clear HB;intro b_ w_ HB;refine Kx.fr ?_)|((with_reducible refine zaa ?_);(first|refine ala HB ?_|refine al1 HB ?_);clear HB;intro b_ w_ HB;refine Kx.fr ?_)|((with_reducible refine zab ?_);first|refine Kx.l1 HB rfl rfl ?_|refine Kx.la HB rfl ?_)|((with_reducible refine zac ?_);first|refine l1g HB rfl rfl rfl ?_|refine Kx.lag HB rfl rfl ?_)|((with_reducible refine zad ?_);(first|refine stwa HB rfl rfl ?_|refine sta HB rfl rfl ?_|refine Kx.stc HB rfl rfl ?_|refine Kx.stt HB rfl rfl rfl ?_|refine Kx.st1 HB rfl rfl rfl ?_);clear HB;intro w_ HB)))
   generalize a.enter x.e=a1 at *
   refine Kx.zd3 67 HB rfl (by kernel_rfl) ?_
   refine tkS 0 rfl (fun w h=>⟨_,rfl,h⟩) ?_
   refine tkS 1 rfl (fun w h=>⟨_,rfl,h⟩) ?_
   refine tkS 2 rfl (fun w h=>⟨_,rfl,h⟩) ?_
   first|refine Kx.xlS 3 rfl rfl rfl rfl ?_|refine Kx.xlaS 3 rfl rfl rfl ?_
   refine tkS 4 rfl (fun w h=>⟨_,rfl,h⟩) ?_
   first|refine Kx.xlS 5 rfl rfl rfl rfl ?_|refine Kx.xlaS 5 rfl rfl rfl ?_
   refine tkS 6 rfl (fun w h=>⟨_,rfl,h⟩) ?_
   refine tkS 7 rfl (fun w h=>⟨_,rfl,h⟩) ?_
   first|refine Kx.stcS 8 rfl rfl rfl (fun w h=>⟨_,rfl,h⟩) ?_|refine Kx.st1S 8 rfl rfl rfl rfl (fun w h=>⟨_,rfl,h⟩) ?_|refine Kx.staS 8 rfl rfl rfl (fun w h=>⟨_,rfl,h⟩) ?_
   refine tkS 9 rfl (fun w h=>⟨_,rfl,h⟩) ?_
   refine tkS 10 rfl (fun w h=>⟨_,rfl,h⟩) ?_
   first|refine Kx.stcS 11 rfl rfl rfl (fun w h=>⟨_,rfl,h⟩) ?_|refine Kx.st1S 11 rfl rfl rfl rfl (fun w h=>⟨_,rfl,h⟩) ?_|refine Kx.staS 11 rfl rfl rfl (fun w h=>⟨_,rfl,h⟩) ?_
   refine zan (by kernel_rfl) ?_
   clear HB
   intro w_ HB_
   have HB:=Lib.hid HB_
   clear HB_
   go_wp2
   go_end0
   rw [HE.out]
   exact ⟨rfl,HB.out.zde⟩
 have e5:(x.k == 5)=false:=by simpa using h5
 by_cases h8:x.k=8
 ·have e8:(x.k == 8)=true:=by simpa using h8
  have HE:=Lib.hid (show a.replay x (mpt x lo)={ a with ac:=x.b,pl:=mpt x lo,pr:=x.b } by unfold Ac.replay;rw [if_neg h5,if_pos h8])
  clear h5 h8
  go_enter Tryz.func34,Tryz.ntmps34
  go_upto_region 6 with (first|((with_reducible refine zah HB ?_);clear HB;intro w_ HB)|((with_reducible refine zae ?_);(first|refine boxa HB rfl ?_|refine boxt HB rfl rfl ?_|refine box1 HB rfl rfl ?_);clear HB;intro b_ w_ HB;refine Kx.fr ?_)|((with_reducible refine zaa ?_);(first|refine ala HB ?_|refine al1 HB ?_);clear HB;intro b_ w_ HB;refine Kx.fr ?_)|((with_reducible refine zab ?_);first|refine Kx.l1 HB rfl rfl ?_|refine Kx.la HB rfl ?_)|((with_reducible refine zac ?_);first|refine l1g HB rfl rfl rfl ?_|refine Kx.lag HB rfl rfl ?_)|((with_reducible refine zad ?_);(first|refine stwa HB rfl rfl ?_|refine sta HB rfl rfl ?_|refine Kx.stc HB rfl rfl ?_|refine Kx.stt HB rfl rfl rfl ?_|refine Kx.st1 HB rfl rfl rfl ?_);clear HB;intro w_ HB))
  replace HB:=Lib.hid HB.out.swap
  refine Kx.zd3 67 HB rfl (by kernel_rfl) ?_
  refine tkS 0 rfl (fun w h=>⟨_,rfl,h⟩) ?_
  refine tkS 1 rfl (fun w h=>⟨_,rfl,h⟩) ?_
  refine tkS 2 rfl (fun w h=>⟨_,rfl,h⟩) ?_
  refine tkS 3 rfl (fun w h=>⟨_,rfl,h⟩) ?_
  first|refine Kx.xlS 4 rfl rfl rfl rfl ?_|refine Kx.xlaS 4 rfl rfl rfl ?_
  refine tkS 5 rfl (fun w h=>⟨_,rfl,h⟩) ?_
  first|refine Kx.xlS 6 rfl rfl rfl rfl ?_|refine Kx.xlaS 6 rfl rfl rfl ?_
  refine tkS 7 rfl (fun w h=>⟨_,rfl,h⟩) ?_
  first|refine Kx.xlS 8 rfl rfl rfl rfl ?_|refine Kx.xlaS 8 rfl rfl rfl ?_
  refine tkS 9 rfl (fun w h=>⟨_,rfl,h⟩) ?_
  refine tkS 10 rfl (fun w h=>⟨_,rfl,h⟩) ?_
  first|refine Kx.stcS 11 rfl rfl rfl (fun w h=>⟨_,rfl,h⟩) ?_|refine Kx.st1S 11 rfl rfl rfl rfl (fun w h=>⟨_,rfl,h⟩) ?_|refine Kx.staS 11 rfl rfl rfl (fun w h=>⟨_,rfl,h⟩) ?_
  refine tkS 12 rfl (fun w h=>⟨_,rfl,h⟩) ?_
  refine tkS 13 rfl (fun w h=>⟨_,rfl,h⟩) ?_
  first|refine Kx.stcS 14 rfl rfl rfl (fun w h=>⟨_,rfl,h⟩) ?_|refine Kx.st1S 14 rfl rfl rfl rfl (fun w h=>⟨_,rfl,h⟩) ?_|refine Kx.staS 14 rfl rfl rfl (fun w h=>⟨_,rfl,h⟩) ?_
  refine tkS 15 rfl (fun w h=>⟨_,rfl,h⟩) ?_
  refine tkS 16 rfl (fun w h=>⟨_,rfl,h⟩) ?_
  first|refine Kx.stcS 17 rfl rfl rfl (fun w h=>⟨_,rfl,h⟩) ?_|refine Kx.st1S 17 rfl rfl rfl rfl (fun w h=>⟨_,rfl,h⟩) ?_|refine Kx.staS 17 rfl rfl rfl (fun w h=>⟨_,rfl,h⟩) ?_
  refine zan (by kernel_rfl) ?_
  clear HB
  intro w_ HB_
  have HB:=Lib.hid HB_
  clear HB_
  go_wp2
  go_end0
  rw [HE.out]
  exact ⟨rfl,HB.out.zde⟩
 have e8:(x.k == 8)=false:=by simpa using h8
 by_cases h11:x.k=11
 ·have e11:(x.k == 11)=true:=by simpa using h11
  by_cases c1:x.co=1
  ·have f1:(x.co == 1)=true:=by simpa using c1
   have HE:=Lib.hid (show a.replay x (mpt x lo)=a.widen x.e by unfold Ac.replay;rw [if_neg h5,if_neg h8,if_pos ⟨h11,c1⟩])
   clear h5 h8 h11 c1
   go_enter Tryz.func34,Tryz.ntmps34
   go_wp2_with (first|(go_at_call 58;refine (zps HB.out.swap _).mono ?_;rintro en w_ ⟨rfl,hb_⟩;replace HB:=Lib.hid hb_;clear hb_)|(first|((with_reducible refine zah HB ?_);clear HB;intro w_ HB)|((with_reducible refine zae ?_);(first|refine boxa HB rfl ?_|refine boxt HB rfl rfl ?_|refine box1 HB rfl rfl ?_);clear HB;intro b_ w_ HB;refine Kx.fr ?_)|((with_reducible refine zaa ?_);(first|refine ala HB ?_|refine al1 HB ?_);clear HB;intro b_ w_ HB;refine Kx.fr ?_)|((with_reducible refine zab ?_);first|refine Kx.l1 HB rfl rfl ?_|refine Kx.la HB rfl ?_)|((with_reducible refine zac ?_);first|refine l1g HB rfl rfl rfl ?_|refine Kx.lag HB rfl rfl ?_)|((with_reducible refine zad ?_);(first|refine stwa HB rfl rfl ?_|refine sta HB rfl rfl ?_|refine Kx.stc HB rfl rfl ?_|refine Kx.stt HB rfl rfl rfl ?_|refine Kx.st1 HB rfl rfl rfl ?_);clear HB;intro w_ HB)))
   go_end0
   rw [HE.out]
   exact ⟨rfl,HB.out.zde⟩
  ·have f1:(x.co == 1)=false:=by simpa using c1
   by_cases c2:x.co=2
   ·have f2:(x.co == 2)=true:=by simpa using c2
    have HE:=Lib.hid (show a.replay x (mpt x lo)={ a with led:=true,ld := -1 } by unfold Ac.replay;rw [if_neg h5,if_neg h8,if_neg (fun q=>c1 q.2),if_pos ⟨h11,c2⟩])
    clear h5 h8 h11 c1 c2
    go_enter Tryz.func34,Tryz.ntmps34
    go_wp2_with (first|((with_reducible refine zah HB ?_);clear HB;intro w_ HB)|((with_reducible refine zae ?_);(first|refine boxa HB rfl ?_|refine boxt HB rfl rfl ?_|refine box1 HB rfl rfl ?_);clear HB;intro b_ w_ HB;refine Kx.fr ?_)|((with_reducible refine zaa ?_);(first|refine ala HB ?_|refine al1 HB ?_);clear HB;intro b_ w_ HB;refine Kx.fr ?_)|((with_reducible refine zab ?_);first|refine Kx.l1 HB rfl rfl ?_|refine Kx.la HB rfl ?_)|((with_reducible refine zac ?_);first|refine l1g HB rfl rfl rfl ?_|refine Kx.lag HB rfl rfl ?_)|((with_reducible refine zad ?_);(first|refine stwa HB rfl rfl ?_|refine sta HB rfl rfl ?_|refine Kx.stc HB rfl rfl ?_|refine Kx.stt HB rfl rfl rfl ?_|refine Kx.st1 HB rfl rfl rfl ?_);clear HB;intro w_ HB))
    go_end0
    rw [HE.out]
    exact ⟨rfl,HB.out.tail⟩
   ·have f2:(x.co == 2)=false:=by simpa using c2
    have HE:=Lib.hid (show a.replay x (mpt x lo)=a by unfold Ac.replay;rw [if_neg h5,if_neg h8,if_neg (fun q=>c1 q.2),if_neg (fun q=>c2 q.2)])
    clear h5 h8 h11 c1 c2
    go_enter Tryz.func34,Tryz.ntmps34
    go_wp2_with (first|((with_reducible refine zah HB ?_);clear HB;intro w_ HB)|((with_reducible refine zae ?_);(first|refine boxa HB rfl ?_|refine boxt HB rfl rfl ?_|refine box1 HB rfl rfl ?_);clear HB;intro b_ w_ HB;refine Kx.fr ?_)|((with_reducible refine zaa ?_);(first|refine ala HB ?_|refine al1 HB ?_);clear HB;intro b_ w_ HB;refine Kx.fr ?_)|((with_reducible refine zab ?_);first|refine Kx.l1 HB rfl rfl ?_|refine Kx.la HB rfl ?_)|((with_reducible refine zac ?_);first|refine l1g HB rfl rfl rfl ?_|refine Kx.lag HB rfl rfl ?_)|((with_reducible refine zad ?_);(first|refine stwa HB rfl rfl ?_|refine sta HB rfl rfl ?_|refine Kx.stc HB rfl rfl ?_|refine Kx.stt HB rfl rfl rfl ?_|refine Kx.st1 HB rfl rfl rfl ?_);clear HB;intro w_ HB))
    go_end0
    rw [HE.out]
    exact ⟨rfl,HB.out.tail⟩
 ·have e11:(x.k == 11)=false:=by simpa using h11
  have HE:=Lib.hid (show a.replay x (mpt x lo)=a by unfold Ac.replay;rw [if_neg h5,if_neg h8,if_neg (fun q=>h11 q.1),if_neg (fun q=>h11 q.1)])
  clear h5 h8 h11
  go_enter Tryz.func34,Tryz.ntmps34
  go_wp2_with (first|((with_reducible refine zah HB ?_);clear HB;intro w_ HB)|((with_reducible refine zae ?_);(first|refine boxa HB rfl ?_|refine boxt HB rfl rfl ?_|refine box1 HB rfl rfl ?_);clear HB;intro b_ w_ HB;refine Kx.fr ?_)|((with_reducible refine zaa ?_);(first|refine ala HB ?_|refine al1 HB ?_);clear HB;intro b_ w_ HB;refine Kx.fr ?_)|((with_reducible refine zab ?_);first|refine Kx.l1 HB rfl rfl ?_|refine Kx.la HB rfl ?_)|((with_reducible refine zac ?_);first|refine l1g HB rfl rfl rfl ?_|refine Kx.lag HB rfl rfl ?_)|((with_reducible refine zad ?_);(first|refine stwa HB rfl rfl ?_|refine sta HB rfl rfl ?_|refine Kx.stc HB rfl rfl ?_|refine Kx.stt HB rfl rfl rfl ?_|refine Kx.st1 HB rfl rfl rfl ?_);clear HB;intro w_ HB))
  go_end0
  rw [HE.out]
  exact ⟨rfl,HB.out.tail⟩
end
end Go.Proofs.YtponpgcpmlcdpaaGreatDoor

namespace Go.Proofs.YtponpgcpmlcdpaaGreatDoor
open Go.RowKit Go.Shelf Km Kx Kc Kt
set_option linter.unusedVariables false
set_option linter.unusedSimpArgs false
def jrow (A:Option Addr) (c:Nat) (xs:List Int):Rw:=⟨A,c,5,1,xs.length,u8s xs⟩
def jcs (s:Jm.St) (KA:Option Addr) (KC:Nat) (RA:Option Addr) (RC:Nat):List Value:=jvs (.slice KA s.kept.length KC) (.slice RA s.rest.length RC) s.burn s.off
def Jbx (w0 w:World) (g:Nat) (s:Jm.St) (l:List (Nat×List Value)) (r:List Rw) (F:Fz):Prop :=
 Jm.Ok s∧∃KA KC RA RC,Bxs w0 w ((g,jcs s KA KC RA RC)::l) (jrow KA KC s.kept::jrow RA RC s.rest::r) F
theorem zk8 {w:World} {e:TypeId} {k n B:Nat} {v:Value} {xs:List Value} (h:w.ownsRow 0 e k v n xs) (hB:∀b,v.ownBlock=some b→B≤b):w.ownsRow B e k v n xs:=by
 rcases h.2 with q|⟨g,cap,cur,e,hb,rest⟩
 ·exact ⟨h.1,.inl q⟩
 ·exact ⟨h.1,.inr ⟨g,cap,cur,e,hB g (by rw [e];rfl),rest⟩⟩
theorem zjj {w w':World} {base k:Nat} {e:TypeId} {v:Value} {n:Nat} {xs:List Value} (h:w.ownsRow base e k v n xs) (hk:∀g,v.ownBlock=some g→w'.heap[g]? = w.heap[g]?):w'.ownsRow base e k v n xs:=by
 rcases h.2 with q|⟨g,cap,cur,e,hb,hg,rest⟩
 ·exact ⟨h.1,.inl q⟩
 ·exact ⟨h.1,.inr ⟨g,cap,cur,e,hb,by rw [hk g (by rw [e];rfl)];exact hg,rest⟩⟩
section
variable {w0 w w':World} {g:Nat} {s s':Jm.St} {l:List (Nat×List Value)} {r:List Rw} {F:Fz} {KA RA:Option Addr} {KC RC:Nat}
def jS (g:Nat) (K R:Rw):Nat→Prop:=fun b=>b=g∨K.blk=some b∨R.blk=some b
theorem zil (h : Bxs w0 w ((g, jcs s KA KC RA RC) :: l) (jrow KA KC s.kept :: jrow RA RC s.rest :: r) F) (ok : Jm.Ok s) :
  JAt w (jS g (jrow KA KC s.kept) (jrow RA RC s.rest)) g s (.slice KA s.kept.length KC) (.slice RA s.rest.length RC):=by
 have hg:=h.each _ (List.mem_cons_self ..)
 have hK:=h.rows _ (List.mem_cons_self ..)
 have hR:=h.rows _ (List.mem_cons_of_mem _ (List.mem_cons_self ..))
 have hap:=(List.pairwise_cons.1 h.apart).1 _ (List.mem_cons_self ..)
 refine ⟨hg.2.2.1,hg.2.2.2,.inl rfl,fun b q => ?_,zb3 hK.1 (Nat.zero_le _),zb3 hR.1 (Nat.zero_le _),fun b e=>⟨.inr (.inl e),fun q=>hK.2 _ (List.mem_cons_self ..) (by rw [←q];exact e)⟩,fun b e=>⟨.inr (.inr e),fun q=>hR.2 _ (List.mem_cons_self ..) (by rw [←q];exact e)⟩,fun b e=>hap b e,ok⟩
 rcases q with rfl|q|q
 ·exact hg.2.1
 ·exact (hK.1.lt q).2
 ·exact (hR.1.lt q).2
theorem zm3 (h:Bxs w0 w ((g,jcs s KA KC RA RC)::l) (jrow KA KC s.kept::jrow RA RC s.rest::r) F) (d:Did (jS g (jrow KA KC s.kept) (jrow RA RC s.rest)) w w' g s'):Jbx w0 w' g s' l r F:=by
 obtain ⟨⟨kv,rv,k⟩,o⟩:=d
 obtain ⟨KA',KC',rfl⟩:=zd5 k.kr
 obtain ⟨RA',RC',rfl⟩:=zd5 k.rr
 have hg:=h.each _ (List.mem_cons_self ..)
 have hK:=h.rows _ (List.mem_cons_self ..)
 have hR:=h.rows _ (List.mem_cons_of_mem _ (List.mem_cons_self ..))
 have hp1:=List.pairwise_cons.1 h.apart
 have hp2:=List.pairwise_cons.1 hp1.2
 have hnd:=List.nodup_cons.1 h.nodup
 have nl:∀p∈l,¬ jS g (jrow KA KC s.kept) (jrow RA RC s.rest) p.1:=fun p hp q=>by
  rcases q with q|q|q
  ·exact hnd.1 (by rw [←q];exact List.mem_map.2 ⟨p,hp,rfl⟩)
  ·exact hK.2 p (List.mem_cons_of_mem _ hp) q
  ·exact hR.2 p (List.mem_cons_of_mem _ hp) q
 have nr:∀x∈r,∀b,x.blk=some b→¬ jS g (jrow KA KC s.kept) (jrow RA RC s.rest) b:=fun x hx b e q=>by
  have hx':=h.rows x (List.mem_cons_of_mem _ (List.mem_cons_of_mem _ hx))
  rcases q with q|q|q
  ·exact hx'.2 _ (List.mem_cons_self ..) (by rw [e,q])
  ·exact hp1.1 x (List.mem_cons_of_mem _ hx) b q e
  ·exact hp2.1 x hx b q e
 have low:∀b,jS g (jrow KA KC s.kept) (jrow RA RC s.rest) b→w0.heap.size≤b:=fun b q=>by
  rcases q with rfl|q|q
  ·exact hg.1
  ·exact (hK.1.lt q).1
  ·exact (hR.1.lt q).1
 have sx:∀b,Sx (jS g (jrow KA KC s.kept) (jrow RA RC s.rest)) w w' b→w0.heap.size≤b:=fun b q=>q.elim (low b) (fun q=>Nat.le_trans h.size q.1)
 have bel:Below w0.heap.size w w':=o.to low h.size
 have rown : ∀ (A : Option Addr) (c : Nat) (xs : List Int), w'.ownsRow 0 5 1 (.slice A xs.length c) xs.length (u8s xs) → (∀ b, (Value.slice A xs.length c).ownBlock = some b → Sx (jS g (jrow KA KC s.kept) (jrow RA RC s.rest)) w w' b ∧ b ≠ g) →
   (jrow A c xs).own w0 w'∧∀p∈(g,jcs s' KA' KC' RA' RC')::l,(jrow A c xs).blk≠some p.1:=fun A c xs h1 h2=>by
  refine ⟨zk8 h1 fun b e=>sx b (h2 b e).1,fun p hp e => ?_⟩
  have h3:=h2 p.1 e
  rcases List.mem_cons.1 hp with rfl|hp
  ·exact h3.2 rfl
  ·rcases h3.1 with q|q
   ·exact nl p hp q
   ·have:=(h.each p (List.mem_cons_of_mem _ hp)).2.1;omega
 refine ⟨k.ok,KA',KC',RA',RC',h.below.trans (bel.mono (Nat.le_refl _)),h.nodup,fun p hp => ?_,fun x hx => ?_,?_,fun q hq => ?_⟩
 ·rcases List.mem_cons.1 hp with rfl|hp
  ·exact ⟨hg.1,k.lt _ k.sg,k.rng,k.th⟩
  ·obtain ⟨h1,h2,h3,h4⟩:=h.each p (List.mem_cons_of_mem _ hp)
   have hb:w'.heap[p.1]? = w.heap[p.1]?:=o.block _ h2 (nl p hp)
   exact ⟨h1,Nat.lt_of_lt_of_le h2 o.size,fun j v hv=>(World.cell?_of_block hb).trans (h3 j v hv),fun j hj=>⟨by rw [World.cell?_of_block hb];exact (h4 j hj).1,by rw [World.frozen?_of_block hb];exact (h4 j hj).2⟩⟩
 ·rcases List.mem_cons.1 hx with rfl|hx
  ·exact rown _ _ _ k.kr k.kS
  ·rcases List.mem_cons.1 hx with rfl|hx
   ·exact rown _ _ _ k.rr k.rS
   ·have hx':=h.rows x (List.mem_cons_of_mem _ (List.mem_cons_of_mem _ hx))
    refine ⟨zjj hx'.1 fun b e=>o.block b (hx'.1.lt e).2 (nr x hx b e),fun p hp => ?_⟩
    rcases List.mem_cons.1 hp with rfl|hp
    ·exact hx'.2 (g,jcs s KA KC RA RC) (List.mem_cons_self ..)
    ·exact hx'.2 p (List.mem_cons_of_mem _ hp)
 ·refine List.pairwise_cons.2 ⟨fun x hx b e q => ?_,List.pairwise_cons.2 ⟨fun x hx b e q => ?_,hp2.2⟩⟩
  ·rcases List.mem_cons.1 hx with rfl|hx
   ·exact k.k2 b e q
   ·rcases (k.kS b e).1 with z|z
    ·exact nr x hx b q z
    ·have:=((h.rows x (List.mem_cons_of_mem _ (List.mem_cons_of_mem _ hx))).1.lt q).2;omega
  ·rcases (k.rS b e).1 with z|z
   ·exact nr x hx b q z
   ·have:=((h.rows x (List.mem_cons_of_mem _ (List.mem_cons_of_mem _ hx))).1.lt q).2;omega
 ·intro j u hj
  obtain ⟨ad,e,h1,h2,h3,h4⟩:=h.stay q hq j u hj
  have nS:¬ jS g (jrow KA KC s.kept) (jrow RA RC s.rest) ad.block:=fun z=>by
   rcases z with z|z|z
   ·exact h3 _ (List.mem_cons_self ..) z.symm
   ·exact h4 _ (List.mem_cons_self ..) z
   ·exact h4 _ (List.mem_cons_of_mem _ (List.mem_cons_self ..)) z
  have hb:w'.heap[ad.block]? = w.heap[ad.block]?:=o.block _ h1 nS
  refine ⟨ad,e,Nat.lt_of_lt_of_le h1 o.size,by rw [World.cell?_of_block (show w'.heap[(ad.add j).block]? = w.heap[(ad.add j).block]? by rw [zd0];exact hb)];exact h2,fun p hp => ?_,fun x hx => ?_⟩
  ·rcases List.mem_cons.1 hp with rfl|hp
   ·exact h3 (g,jcs s KA KC RA RC) (List.mem_cons_self ..)
   ·exact h3 p (List.mem_cons_of_mem _ hp)
  ·rcases List.mem_cons.1 hx with rfl|hx
   ·intro z
    rcases (k.kS _ z).1 with y|y
    ·exact nS y
    ·omega
   ·rcases List.mem_cons.1 hx with rfl|hx
    ·intro z
     rcases (k.rS _ z).1 with y|y
     ·exact nS y
     ·omega
    ·exact h4 x (List.mem_cons_of_mem _ (List.mem_cons_of_mem _ hx))
end
section
variable {w0 w:World} {g:Nat} {s:Jm.St} {l:List (Nat×List Value)} {r:List Rw} {F:Fz}
theorem Jbx.bears:zdc (fun w'=>Jbx w0 w' g s l r F):=fun w w' h hb=>by
 obtain ⟨ok,KA,KC,RA,RC,h⟩:=h
 exact ⟨ok,KA,KC,RA,RC,h.call hb⟩
theorem Jbx.bel (h:Jbx w0 w g s l r F):Below w0.heap.size w0 w:=by obtain ⟨_,_,_,_,_,h⟩:=h;exact h.below
theorem append_x (h : Jbx w0 w g s l r F) (k : Int) (A : Option Addr) (n cap B : Nat) (xs : List Int) (hk : 0 ≤ k ∧ k ≤ 255) (hx : Rd w B A (u8s xs)) (hn : xs.length = n) (hnc : n ≤ cap) (hcap : cap ≤ maxLen) (hB : B ≤ w.heap.size) (hb : Fm.By xs) (ht : HTab w0)
  (hz:Jm.size s≤16777216) :
  Calls Tryz.prog 103 #[.pointer (some ⟨g,0,none⟩),.int .u8 k,.slice A n cap] w fun e w'=>e = .returned (.int .i64 (Jm.append s k xs).2)∧Jbx w0 w' g (Jm.append s k xs).1 l r F:=by
 obtain ⟨ok,KA,KC,RA,RC,h⟩:=h
 refine (zph (zil h ok) k A n cap B xs hk hx hn hnc hcap hB hb (ht.below h.below (Nat.le_refl _)) hz).mono ?_
 rintro e w' ⟨rfl,d⟩
 exact ⟨rfl,zm3 h d⟩
theorem sync_x (h : Jbx w0 w g s l r F) (hz : Jm.size s ≤ 16777216) :
  Calls Tryz.prog 104 #[.pointer (some ⟨g,0,none⟩)] w fun e w'=>e = .returned (.int .i64 (Jm.sync s).2)∧Jbx w0 w' g (Jm.sync s).1 l r F:=by
 obtain ⟨ok,KA,KC,RA,RC,h⟩:=h
 refine (sync_any (zil h ok) hz).mono ?_
 rintro e w' ⟨rfl,d⟩
 exact ⟨rfl,zm3 h d⟩
theorem down_x (h:Jbx w0 w g s l r F):Calls Tryz.prog 36 #[.pointer (some ⟨g,0,none⟩)] w fun e w'=>e = .returned (.bool s.off)∧w'=w:=by
 obtain ⟨ok,KA,KC,RA,RC,h⟩:=h
 exact down_any (zil h ok)
end
noncomputable def keep (s:Jm.St) (x:Mm.Ms):Jm.St×Bool :=
 if x.right=true then
  (if (Jm.append s x.k x.body).2=0 then ((Jm.sync (Jm.append s x.k x.body).1).1,decide ((Jm.sync (Jm.append s x.k x.body).1).2=0)) else ((Jm.append s x.k x.body).1,false))
 else (s,false)
def mfz (x:Mm.Ms) (lo:Lo):Fz:=[(lo.A1,i64s x.plan.pen),(lo.A2,i64s x.plan.ch),(lo.A3,i64s x.id),(lo.A4,u8s x.se),(lo.A5,u8s x.pa)]
structure MsOk (x:Mm.Ms) (l:Lo):Prop where
 ok:x.Ok
 l1:x.plan.pen.length=l.n1
 c1:l.n1≤l.c1
 m1:l.c1≤maxLen
 l2:x.plan.ch.length=l.n2
 c2:l.n2≤l.c2
 m2:l.c2≤maxLen
 l3:x.id.length=l.n3
 c3:l.n3≤l.c3
 m3:l.c3≤maxLen
 l4:x.se.length=l.n4
 c4:l.n4≤l.c4
 m4:l.c4≤maxLen
 l5:x.pa.length=l.n5
 c5:l.n5≤l.c5
 m5:l.c5≤maxLen
def Within (G F:Fz):Prop:=∀q∈G,q.2=[]∨q∈F
theorem Within.rd {w0 w:World} {l:List (Nat×List Value)} {r:List Rw} {F G:Fz} (h:Within G F) (hB:Bxs w0 w l r F) {A:Option Addr} {xs:List Value} (hm:(A,xs)∈G):Rd w w.heap.size A xs:=by
 rcases h _ hm with q|q
 ·dsimp only at q;rw [q];exact Rd.nil _ _ _
 ·exact hB.zfc q
theorem MsOk.at {x:Mm.Ms} {lo:Lo} (h:MsOk x lo) {w0 w:World} {l:List (Nat×List Value)} {r:List Rw} {F:Fz} (hs:Within (mfz x lo) F) (hB:Bxs w0 w l r F):MsAt w w.heap.size x lo :=
 ⟨h.ok,⟨h.ok.plan,hs.rd hB (List.mem_cons_self ..),h.l1,h.c1,h.m1,hs.rd hB (List.mem_cons_of_mem _ (List.mem_cons_self ..)),h.l2,h.c2,h.m2⟩,
  hs.rd hB (List.mem_cons_of_mem _ (List.mem_cons_of_mem _ (List.mem_cons_self ..))),h.l3,h.c3,h.m3,
  hs.rd hB (List.mem_cons_of_mem _ (List.mem_cons_of_mem _ (List.mem_cons_of_mem _ (List.mem_cons_self ..)))),h.l4,h.c4,h.m4,
  hs.rd hB (List.mem_cons_of_mem _ (List.mem_cons_of_mem _ (List.mem_cons_of_mem _ (List.mem_cons_of_mem _ (List.mem_cons_self ..))))),h.l5,h.c5,h.m5⟩
end Go.Proofs.YtponpgcpmlcdpaaGreatDoor

namespace Go.Proofs.YtponpgcpmlcdpaaGreatDoor
open Go.RowKit Go.Shelf Km Kx Kc Kt
set_option linter.unusedVariables false
set_option linter.unusedSimpArgs false
noncomputable def Ac.wrote (a:Ac) (s:Jm.St) (x:Mm.Ms) (p:Pt):Ac:=if (keep s x).2=true then a.replay x p else a
theorem Ac.zhk {a:Ac} {s:Jm.St} {x:Mm.Ms} {p:Pt} (h:(keep s x).2=false):a.wrote s x p=a:=if_neg (by rw [h];decide)
theorem Ac.zhx {a:Ac} {s:Jm.St} {x:Mm.Ms} {p:Pt} (h:(keep s x).2=true):a.wrote s x p=a.replay x p:=if_pos h
section
variable {w0 w:World} {ga g:Nat} {a:Ac} {s:Jm.St} {l:List (Nat×List Value)} {r:List Rw} {F:Fz}
set_option maxHeartbeats 2000000 in
theorem zpp (h : Jbx w0 w g s ((ga, a.cells g) :: l) r F) (x : Mm.Ms) (lo : Lo) (hm : MsOk x lo) (hs : Within (mfz x lo) F) (ht : Tab w0) (hh : HTab w0) (hz : Jm.size s ≤ 16000000) :
  Calls Tryz.prog 91 #[.pointer (some ⟨g,0,none⟩),.agg (mvs x lo).toArray,.func (.func 34) #[.pointer (some ⟨ga,32,none⟩)] #[]] w fun e w' =>
   e = .returned (.bool (keep s x).2)∧Jbx w0 w' g (keep s x).1 ((ga,(a.wrote s x (mpt x lo)).cells g)::l) r F:=by
 obtain ⟨ok,KA,KC,RA,RC,HB0⟩:=h
 have HB:=Lib.hid HB0
 have HBo:Hid (∀ {W:World} {l' r'},Bxs w0 W l' r' F→Calls Tryz.prog 102 #[.agg (mvs x lo).toArray] W fun e w'=>∃v,e = .returned (.tuple #[.int .u8 x.zhi.1,v,.int .i64 x.zhi.2.2])∧w'.ownsRow W.heap.size 5 1 v x.zhi.2.1.length (u8s x.zhi.2.1)∧Below W.heap.size W w') :=
  Lib.hid (fun hB=>zr7 x lo _ _ (hm.at hs hB) (Nat.le_refl _) (ht.below hB.below (Nat.le_refl _)))
 clear HB0
 cases hR:x.right with
 | false =>
   rw [Mm.zod hR] at HBo
   have HK:=Lib.hid (show keep s x=(s,false) from if_neg (by rw [hR];decide))
   have HW:=Lib.hid (show a.wrote s x (mpt x lo)=a from Ac.zhk (by rw [HK.out]))
   clear hm hs hR
   generalize a.wrote s x (mpt x lo)=a' at *
   generalize keep s x=ks at *
   go_enter Tryz.func91,Tryz.ntmps91
   go_wp2_with (first|(go_at_call 102;refine (HBo.out HB.out).mono ?_;rintro e w_ ⟨v,rfl,hown_,hb_⟩;replace HB:=Lib.hid (HB.out.call hb_);clear hb_ hown_)|(first|((with_reducible refine zah HB ?_);clear HB;intro w_ HB)|((with_reducible refine zae ?_);(first|refine boxa HB rfl ?_|refine boxt HB rfl rfl ?_|refine box1 HB rfl rfl ?_);clear HB;intro b_ w_ HB;refine Kx.fr ?_)|((with_reducible refine zaa ?_);(first|refine ala HB ?_|refine al1 HB ?_);clear HB;intro b_ w_ HB;refine Kx.fr ?_)|((with_reducible refine zab ?_);first|refine Kx.l1 HB rfl rfl ?_|refine Kx.la HB rfl ?_|refine Kx.lo HB rfl HC.out ?_)|((with_reducible refine zac ?_);first|refine l1g HB rfl rfl rfl ?_|refine Kx.lag HB rfl rfl ?_|refine Kx.log HB rfl HC.out rfl ?_)|((with_reducible refine zad ?_);(first|refine stwa HB rfl rfl ?_|refine sta HB rfl rfl ?_|refine Kx.stc HB rfl rfl ?_|refine Kx.stt HB rfl rfl rfl ?_|refine Kx.st1 HB rfl rfl rfl ?_);clear HB;intro w_ HB)))
   go_ret
   rw [HK.out,HW.out]
   exact ⟨rfl,ok,KA,KC,RA,RC,HB.out.tail⟩
 | true =>
   rw [Mm.zoc hR] at HBo
   have hk:0≤x.k∧x.k≤255:=by have:=(Mm.zbr.1 hR);have h1:=this.1;have h2:=this.2.1;omega
   have hby:=Mm.znb hm.ok hR
   have hbl:=Mm.ze5 hR
   have HAp:Hid (∀ {W:World} {l' r'},Jbx w0 W g s l' r' F→∀(v:Value),W.ownsRow w0.heap.size 5 1 v x.body.length (u8s x.body)→∃A c,v = .slice A x.body.length c∧Calls Tryz.prog 103 #[.pointer (some ⟨g,0,none⟩),.int .u8 x.k,.slice A x.body.length c] W fun e w'=>e = .returned (.int .i64 (Jm.append s x.k x.body).2)∧Jbx w0 w' g (Jm.append s x.k x.body).1 l' r' F) :=
    Lib.hid (fun hB v hown=>by
     obtain ⟨A,c,rfl⟩:=zd5 hown
     obtain ⟨A2,c2,e,k1,k2,-⟩:=za4 hown
     cases e
     exact ⟨A,c,rfl,append_x hB x.k A _ c _ x.body hk (Rd.zqs hown) rfl k1 k2 (Nat.le_refl _) hby hh (by omega)⟩)
   have hsz:=(Jm.size_append s x.k x.body).1
   have HSy:Hid (∀ {W:World} {l' r'},Jbx w0 W g (Jm.append s x.k x.body).1 l' r' F→Calls Tryz.prog 104 #[.pointer (some ⟨g,0,none⟩)] W fun e w'=>e = .returned (.int .i64 (Jm.sync (Jm.append s x.k x.body).1).2)∧Jbx w0 w' g (Jm.sync (Jm.append s x.k x.body).1).1 l' r' F) :=
    Lib.hid (fun hB=>sync_x hB (by omega))
   have HK:Hid (keep s x=if (Jm.append s x.k x.body).2=0 then ((Jm.sync (Jm.append s x.k x.body).1).1,decide ((Jm.sync (Jm.append s x.k x.body).1).2=0)) else ((Jm.append s x.k x.body).1,false)):=Lib.hid (if_pos hR)
   have hin:∀W,(callFunc 34 #[.pointer (some ⟨ga,32,none⟩),.agg (mvs x lo).toArray]).run Tryz.prog W = .ok (.enter 34 #[.pointer (some ⟨ga,32,none⟩),.agg (mvs x lo).toArray]) W:=fun W=>zcv Tryz.func34 rfl rfl _ _
   have HW0:=Lib.hid (fun q:(keep s x).2=false=>Ac.zhk (a:=a) (p:=mpt x lo) q)
   have HW1:=Lib.hid (fun q:(keep s x).2=true=>Ac.zhx (a:=a) (p:=mpt x lo) q)
   have HOk:=Lib.hid ok
   clear hm hs hR hk hby hbl hsz ok hz
   generalize a.wrote s x (mpt x lo)=a' at *
   generalize keep s x=ks at *
   generalize Jm.append s x.k x.body=ap at *
   generalize Jm.sync ap.1=sy at *
   go_enter Tryz.func91,Tryz.ntmps91
   go_wp2_with (first|(go_at_call 102;fail)|(first|((with_reducible refine zah HB ?_);clear HB;intro w_ HB)|((with_reducible refine zae ?_);(first|refine boxa HB rfl ?_|refine boxt HB rfl rfl ?_|refine box1 HB rfl rfl ?_);clear HB;intro b_ w_ HB;refine Kx.fr ?_)|((with_reducible refine zaa ?_);(first|refine ala HB ?_|refine al1 HB ?_);clear HB;intro b_ w_ HB;refine Kx.fr ?_)|((with_reducible refine zab ?_);first|refine Kx.l1 HB rfl rfl ?_|refine Kx.la HB rfl ?_|refine Kx.lo HB rfl HC.out ?_)|((with_reducible refine zac ?_);first|refine l1g HB rfl rfl rfl ?_|refine Kx.lag HB rfl rfl ?_|refine Kx.log HB rfl HC.out rfl ?_)|((with_reducible refine zad ?_);(first|refine stwa HB rfl rfl ?_|refine sta HB rfl rfl ?_|refine Kx.stc HB rfl rfl ?_|refine Kx.stt HB rfl rfl rfl ?_|refine Kx.st1 HB rfl rfl rfl ?_);clear HB;intro w_ HB)))
   refine (HBo.out HB.out).mono ?_
   rintro e w2 ⟨v,rfl,hown,hb2⟩
   have h2:=HB.out.call hb2
   obtain ⟨A,c,rfl,HC⟩:=HAp.out (l':=_) (r':=_) ⟨HOk.out,_,_,_,_,h2.swap⟩ v (zb3 hown HB.out.size)
   have HCA:=Lib.hid HC
   clear HC h2 hb2 hown HB
   by_cases ha:ap.2=0
   ·rw [if_pos ha] at HK
    have ea:(ap.2 != 0)=false:=by simpa using ha
    clear ha
    go_wp2_with (go_at_call 103;fail)
    refine HCA.out.mono ?_
    rintro e w3 ⟨rfl,HJ3⟩
    have HCS:=Lib.hid (HSy.out HJ3)
    clear HCA HJ3
    by_cases hc:sy.2=0
    ·rw [decide_eq_true hc] at HK
     have ec:(sy.2 != 0)=false:=by simpa using hc
     clear hc
     have HWy:=Lib.hid (HW1.out (by rw [HK.out]))
     go_wp2_with (go_at_call 104;fail)
     refine HCS.out.mono ?_
     rintro e w4 ⟨rfl,hok,KA',KC',RA',RC',HB4⟩
     have HOk4:=Lib.hid hok
     have HB:=Lib.hid HB4
     clear HCS HB4 hok
     go_wp2_with (first|(refine (zjd HB.out.third _ _).mono ?_;rintro e w_ ⟨rfl,HB5⟩;replace HB:=Lib.hid HB5;clear HB5)|(first|((with_reducible refine zah HB ?_);clear HB;intro w_ HB)|((with_reducible refine zae ?_);(first|refine boxa HB rfl ?_|refine boxt HB rfl rfl ?_|refine box1 HB rfl rfl ?_);clear HB;intro b_ w_ HB;refine Kx.fr ?_)|((with_reducible refine zaa ?_);(first|refine ala HB ?_|refine al1 HB ?_);clear HB;intro b_ w_ HB;refine Kx.fr ?_)|((with_reducible refine zab ?_);first|refine Kx.l1 HB rfl rfl ?_|refine Kx.la HB rfl ?_|refine Kx.lo HB rfl HC.out ?_)|((with_reducible refine zac ?_);first|refine l1g HB rfl rfl rfl ?_|refine Kx.lag HB rfl rfl ?_|refine Kx.log HB rfl HC.out rfl ?_)|((with_reducible refine zad ?_);(first|refine stwa HB rfl rfl ?_|refine sta HB rfl rfl ?_|refine Kx.stc HB rfl rfl ?_|refine Kx.stt HB rfl rfl rfl ?_|refine Kx.st1 HB rfl rfl rfl ?_);clear HB;intro w_ HB)))
     go_ret
     rw [HK.out,HWy.out]
     exact ⟨rfl,HOk4.out,_,_,_,_,HB.out.swap.tail3⟩
    ·rw [decide_eq_false hc] at HK
     have ec:(sy.2 != 0)=true:=by simpa using hc
     clear hc
     have HWy:=Lib.hid (HW0.out (by rw [HK.out]))
     go_wp2_with (go_at_call 104;refine HCS.out.mono ?_;rintro e w4 ⟨rfl,HJ4⟩)
     go_ret
     rw [HK.out,HWy.out]
     obtain ⟨hok,KA',KC',RA',RC',HB4⟩:=HJ4
     exact ⟨rfl,hok,_,_,_,_,HB4.zde⟩
   ·rw [if_neg ha] at HK
    have ea:(ap.2 != 0)=true:=by simpa using ha
    clear ha
    have HWy:=Lib.hid (HW0.out (by rw [HK.out]))
    go_wp2_with (go_at_call 103;refine HCA.out.mono ?_;rintro e w3 ⟨rfl,HJ3⟩)
    go_ret
    rw [HK.out,HWy.out]
    obtain ⟨hok,KA',KC',RA',RC',HB4⟩:=HJ3
    exact ⟨rfl,hok,_,_,_,_,HB4.zde⟩
end
end Go.Proofs.YtponpgcpmlcdpaaGreatDoor
