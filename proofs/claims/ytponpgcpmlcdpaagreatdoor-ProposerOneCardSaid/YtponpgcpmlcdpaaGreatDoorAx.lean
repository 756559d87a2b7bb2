import Derived.Test.YtponpgcpmlcdpaaGreatDoorAaw
set_option maxRecDepth 100000
namespace Go.Proofs.YtponpgcpmlcdpaaGreatDoor
open Go.RowKit Go.Shelf Km Kx Kc Kt
set_option linter.unusedVariables false
set_option linter.unusedSimpArgs false
def mk (k e b ac n co:Int) (has:Bool) (p:Pm.Pl):Mm.Ms:=⟨k,0,0,e,b,ac,n,0,0,co,has,p,[],[],[]⟩
def loOf (p:Pt):Lo:=⟨p.A,p.n,p.c,p.A',p.n',p.c',none,0,0,none,0,0,none,0,0⟩
def reply (a:Ac) (m y:Mm.Ms):Mm.Ms:={ y with f:=a.node,t:=m.f }
def decided (a:Ac) (m:Mm.Ms):Mm.Ms:=reply a m (mk 9 a.kn.x.e 0 0 0 0 true a.kn.x)
def zg8 (a:Ac) (m:Mm.Ms):Mm.Ms:=reply a m (mk 6 m.e a.pr 0 0 0 false Pm.zero)
theorem zkp (e:Int) (p:Pt):Tryz.prog.built 37 [(0,.int .i64 9),(3,.int .i64 e),(10,.bool true),(11,.agg p.cells.toArray)]=some (mvs (mk 9 e 0 0 0 0 true p.x) (loOf p)).toArray:=by kernel_rfl
theorem zld (e b:Int):Tryz.prog.built 37 [(0,.int .i64 6),(3,.int .i64 e),(4,.int .i64 b)]=some (mvs (mk 6 e b 0 0 0 false Pm.zero) Lo.zero).toArray:=by kernel_rfl
def Ans1 (w0 w':World) (L:List (Nat×List Value)) (r:List Rw) (F:Fz) (y:Mm.Ms) (lo:Lo) (e:Ending):Prop:=∃b,e = .returned (.slice (some ⟨b,0,none⟩) 1 1)∧Bxs w0 w' ((b,mvs y lo)::L) r F
section
variable {w0 w:World} {ga g:Nat} {a:Ac} {L:List (Nat×List Value)} {r:List Rw} {F:Fz}
set_option maxHeartbeats 2000000 in
theorem zft (h : Bxs w0 w L r F) [hin : InL ga (a.cells g) L] (m : Mm.Ms) (lo : Lo) (y : Mm.Ms) (yl : Lo) :
  Calls Tryz.prog 66 #[.pointer (some ⟨ga,0,none⟩),.agg (mvs m lo).toArray,.agg (mvs y yl).toArray] w fun e w'=>Ans1 w0 w' L r F (reply a m y) yl e:=by
 have HB:=Lib.hid h
 clear h
 go_enter Tryz.func66,Tryz.ntmps66
 go_upto_region 1 with (first|((with_reducible refine zah HB ?_);clear HB;intro w_ HB)|((with_reducible refine zae ?_);(first|refine boxa HB rfl ?_|refine boxt HB rfl rfl ?_|refine box1 HB rfl rfl ?_);clear HB;intro b_ w_ HB;refine Kx.fr ?_)|((with_reducible refine zaa ?_);(first|refine ala HB ?_|refine al1 HB ?_);clear HB;intro b_ w_ HB;refine Kx.fr ?_)|((with_reducible refine zab ?_);first|refine Kx.l1 HB rfl rfl ?_|refine Kx.la HB rfl ?_)|((with_reducible refine zac ?_);first|refine l1g HB rfl rfl rfl ?_|refine Kx.lag HB rfl rfl ?_)|((with_reducible refine zad ?_);(first|refine stwa HB rfl rfl ?_|refine sta HB rfl rfl ?_|refine Kx.stc HB rfl rfl ?_|refine Kx.stt HB rfl rfl rfl ?_|refine Kx.st1 HB rfl rfl rfl ?_);clear HB;intro w_ HB))
 refine Kx.zd3 26 HB rfl (by kernel_rfl) ?_
 refine tkS 0 rfl (fun w h=>⟨_,rfl,h⟩) ?_
 refine tkS 1 rfl (fun w h=>⟨_,rfl,h⟩) ?_
 refine tkS 2 rfl (fun w h=>⟨_,rfl,h⟩) ?_
 first|refine Kx.xlS 3 rfl rfl rfl rfl ?_|refine Kx.xlaS 3 rfl rfl rfl ?_
 refine tkS 4 rfl (fun w h=>⟨_,rfl,h⟩) ?_
 first|refine Kx.xlS 5 rfl rfl rfl rfl ?_|refine Kx.xlaS 5 rfl rfl rfl ?_
 refine tkS 6 rfl (fun w h=>⟨_,rfl,h⟩) ?_
 first|refine Kx.stcS 7 rfl rfl rfl (fun w h=>⟨_,rfl,h⟩) ?_|refine Kx.st1S 7 rfl rfl rfl rfl (fun w h=>⟨_,rfl,h⟩) ?_|refine Kx.staS 7 rfl rfl rfl (fun w h=>⟨_,rfl,h⟩) ?_
 refine tkS 8 rfl (fun w h=>⟨_,rfl,h⟩) ?_
 first|refine Kx.stcS 9 rfl rfl rfl (fun w h=>⟨_,rfl,h⟩) ?_|refine Kx.st1S 9 rfl rfl rfl rfl (fun w h=>⟨_,rfl,h⟩) ?_|refine Kx.staS 9 rfl rfl rfl (fun w h=>⟨_,rfl,h⟩) ?_
 refine zan (by kernel_rfl) ?_
 clear HB
 intro w_ HB_
 have HB:=Lib.hid HB_
 clear HB_
 have HY:Hid (({ ({ y with f:=a.node }:Mm.Ms) with t:=m.f }:Mm.Ms)=reply a m y):=Lib.hid rfl
 go_wp2_with (first|((with_reducible refine zf2 ?_);refine zdr HB rfl 47 37 _ rfl 26 (mvs (reply a m y) yl) rfl rfl _ Tryz.underlying47 (Tryz.sizeOf37 _) (Tryz.zeroValue37 _) (by decide) (by decide) ?_;clear HB;intro g_ w_ HB;refine Kx.framed ?_ (by simp only [Act.put,List.setIfInBounds_toArray,List.set_cons_succ,List.set_cons_zero]<;>rfl))|(first|((with_reducible refine zah HB ?_);clear HB;intro w_ HB)|((with_reducible refine zae ?_);(first|refine boxa HB rfl ?_|refine boxt HB rfl rfl ?_|refine box1 HB rfl rfl ?_);clear HB;intro b_ w_ HB;refine Kx.fr ?_)|((with_reducible refine zaa ?_);(first|refine ala HB ?_|refine al1 HB ?_);clear HB;intro b_ w_ HB;refine Kx.fr ?_)|((with_reducible refine zab ?_);first|refine Kx.l1 HB rfl rfl ?_|refine Kx.la HB rfl ?_)|((with_reducible refine zac ?_);first|refine l1g HB rfl rfl rfl ?_|refine Kx.lag HB rfl rfl ?_)|((with_reducible refine zad ?_);(first|refine stwa HB rfl rfl ?_|refine sta HB rfl rfl ?_|refine Kx.stc HB rfl rfl ?_|refine Kx.stt HB rfl rfl rfl ?_|refine Kx.st1 HB rfl rfl rfl ?_);clear HB;intro w_ HB)))
 go_ret
 exact ⟨_,rfl,HB.out.zde.zde⟩
theorem zg6 {P : Program} {fn : Func} {p t u v : Tmp} {ty : TypeId} (h : fn.results = #[.tmp t, .tmp u, .tmp v, .cell p ty]) {w0 w : World} {l : List (Nat × List Value)} {r : List Rw} {F : Fz} (hB : Hid (Bxs w0 w l r F)) (tmps : Array Value) (b : Nat) (cs : List Value) (hp : tmps.getD p undef = .pointer (some ⟨b, 0, none⟩)) [hm : InL b cs l]
  (hA:(isAgg ty).run P w = .ok true w) (hS:(sizeOf ty).run P w = .ok cs.length w):(results fn tmps).run P w = .ok (.tuple #[tmps.getD t undef,tmps.getD u undef,tmps.getD v undef,.agg cs.toArray]) w:=by
 have hp':tmps[p]?.getD undef = .pointer (some ⟨b,0,none⟩):=by simpa using hp
 simp [results,h,hp',asAddr,zc3 w b 0 cs.length ty cs cs (hB.out.range hm.mem) (by rw [List.drop_zero,List.take_length]) rfl (row_of hA) (zim hS)]
def Ac.spl (a:Ac):Pt:=if a.ac=0 then noPt else a.pl
set_option maxHeartbeats 2000000 in
theorem zr4 (h : Bxs w0 w L r F) [hin : InL ga (a.cells g) L] :
  Calls Tryz.prog 13 #[.pointer (some ⟨ga,0,none⟩)] w fun e w'=>e = .returned (.tuple #[.int .i64 a.e,.int .i64 a.pr,.int .i64 a.ac,.agg a.spl.cells.toArray])∧Bxs w0 w' L r F:=by
 have HB:=Lib.hid h
 clear h
 by_cases h0:a.ac=0
 ·have HS:=Lib.hid (show a.spl=noPt from if_pos h0)
  have H0:=Lib.hid h0
  have e0:(a.ac == 0)=true:=by simpa using h0
  clear h0
  go_enter Tryz.func13,Tryz.ntmps13
  go_upto_region 2 with (first|((with_reducible refine zah HB ?_);clear HB;intro w_ HB)|((with_reducible refine zae (d:=some 5) ?_);(first|refine boxa HB rfl ?_|refine boxt HB rfl rfl ?_|refine box1 HB rfl rfl ?_);clear HB;intro b5 w_ HB;refine Kx.fr ?_)|((with_reducible refine zaa (d:=some 5) ?_);(first|refine ala HB ?_|refine al1 HB ?_);clear HB;intro b5 w_ HB;refine Kx.fr ?_)|((with_reducible refine zae ?_);(first|refine boxa HB rfl ?_|refine boxt HB rfl rfl ?_|refine box1 HB rfl rfl ?_);clear HB;intro b_ w_ HB;refine Kx.fr ?_)|((with_reducible refine zaa ?_);(first|refine ala HB ?_|refine al1 HB ?_);clear HB;intro b_ w_ HB;refine Kx.fr ?_)|((with_reducible refine zab ?_);first|refine Kx.l1 HB rfl rfl ?_|refine Kx.la HB rfl ?_)|((with_reducible refine zac ?_);first|refine l1g HB rfl rfl rfl ?_|refine Kx.lag HB rfl rfl ?_)|((with_reducible refine zad ?_);(first|refine stwa HB rfl rfl ?_|refine sta HB rfl rfl ?_|refine Kx.stc HB rfl rfl ?_|refine Kx.stt HB rfl rfl rfl ?_|refine Kx.st1 HB rfl rfl rfl ?_);clear HB;intro w_ HB))
  refine Kx.zd3 12 HB rfl (by kernel_rfl) ?_
  refine tkS 0 rfl (fun w h=>⟨_,rfl,h⟩) ?_
  refine tkS 1 rfl (fun w h=>⟨_,rfl,h⟩) ?_
  refine tkS 2 rfl (fun w h=>⟨_,rfl,h⟩) ?_
  refine tkS 3 rfl (fun w h=>⟨_,rfl,h⟩) ?_
  first|refine Kx.xlS 4 rfl rfl rfl rfl ?_|refine Kx.xlaS 4 rfl rfl rfl ?_
  refine tkS 5 rfl (fun w h=>⟨_,rfl,h⟩) ?_
  refine tkS 6 rfl (fun w h=>⟨_,rfl,h⟩) ?_
  refine tkS 7 rfl (fun w h=>⟨_,rfl,h⟩) ?_
  refine tkS 8 rfl (fun w h=>⟨_,rfl,h⟩) ?_
  first|refine Kx.xlS 9 rfl rfl rfl rfl ?_|refine Kx.xlaS 9 rfl rfl rfl ?_
  refine tkS 10 rfl (fun w h=>⟨_,rfl,h⟩) ?_
  refine tkS 11 rfl (fun w h=>⟨_,rfl,h⟩) ?_
  refine tkS 12 rfl (fun w h=>⟨_,rfl,h⟩) ?_
  refine tkS 13 rfl (fun w h=>⟨_,rfl,h⟩) ?_
  first|refine Kx.stcS 14 rfl rfl rfl (fun w h=>⟨_,rfl,h⟩) ?_|refine Kx.st1S 14 rfl rfl rfl rfl (fun w h=>⟨_,rfl,h⟩) ?_|refine Kx.staS 14 rfl rfl rfl (fun w h=>⟨_,rfl,h⟩) ?_
  refine zan (by kernel_rfl) ?_
  clear HB
  intro w_ HB_
  have HB:=Lib.hid HB_
  clear HB_
  go_wp2
  refine bodyPost_ret (zg6 rfl HB _ _ _ rfl (Tryz.isAgg34 _) (Tryz.sizeOf34 _)) rfl ?_
  rw [HS.out,H0.out]
  exact ⟨rfl,HB.out.tail⟩
 ·have HS:=Lib.hid (show a.spl=a.pl from if_neg h0)
  have e0:(a.ac == 0)=false:=by simpa using h0
  clear h0
  go_enter Tryz.func13,Tryz.ntmps13
  go_upto_region 3 with (first|((with_reducible refine zah HB ?_);clear HB;intro w_ HB)|((with_reducible refine zae (d:=some 5) ?_);(first|refine boxa HB rfl ?_|refine boxt HB rfl rfl ?_|refine box1 HB rfl rfl ?_);clear HB;intro b5 w_ HB;refine Kx.fr ?_)|((with_reducible refine zaa (d:=some 5) ?_);(first|refine ala HB ?_|refine al1 HB ?_);clear HB;intro b5 w_ HB;refine Kx.fr ?_)|((with_reducible refine zae ?_);(first|refine boxa HB rfl ?_|refine boxt HB rfl rfl ?_|refine box1 HB rfl rfl ?_);clear HB;intro b_ w_ HB;refine Kx.fr ?_)|((with_reducible refine zaa ?_);(first|refine ala HB ?_|refine al1 HB ?_);clear HB;intro b_ w_ HB;refine Kx.fr ?_)|((with_reducible refine zab ?_);first|refine Kx.l1 HB rfl rfl ?_|refine Kx.la HB rfl ?_)|((with_reducible refine zac ?_);first|refine l1g HB rfl rfl rfl ?_|refine Kx.lag HB rfl rfl ?_)|((with_reducible refine zad ?_);(first|refine stwa HB rfl rfl ?_|refine sta HB rfl rfl ?_|refine Kx.stc HB rfl rfl ?_|refine Kx.stt HB rfl rfl rfl ?_|refine Kx.st1 HB rfl rfl rfl ?_);clear HB;intro w_ HB))
  refine Kx.zd3 12 HB rfl (by kernel_rfl) ?_
  refine tkS 0 rfl (fun w h=>⟨_,rfl,h⟩) ?_
  refine tkS 1 rfl (fun w h=>⟨_,rfl,h⟩) ?_
  refine tkS 2 rfl (fun w h=>⟨_,rfl,h⟩) ?_
  refine tkS 3 rfl (fun w h=>⟨_,rfl,h⟩) ?_
  first|refine Kx.xlS 4 rfl rfl rfl rfl ?_|refine Kx.xlaS 4 rfl rfl rfl ?_
  refine tkS 5 rfl (fun w h=>⟨_,rfl,h⟩) ?_
  refine tkS 6 rfl (fun w h=>⟨_,rfl,h⟩) ?_
  refine tkS 7 rfl (fun w h=>⟨_,rfl,h⟩) ?_
  refine tkS 8 rfl (fun w h=>⟨_,rfl,h⟩) ?_
  first|refine Kx.xlS 9 rfl rfl rfl rfl ?_|refine Kx.xlaS 9 rfl rfl rfl ?_
  refine tkS 10 rfl (fun w h=>⟨_,rfl,h⟩) ?_
  refine tkS 11 rfl (fun w h=>⟨_,rfl,h⟩) ?_
  refine tkS 12 rfl (fun w h=>⟨_,rfl,h⟩) ?_
  refine tkS 13 rfl (fun w h=>⟨_,rfl,h⟩) ?_
  first|refine Kx.xlS 14 rfl rfl rfl rfl ?_|refine Kx.xlaS 14 rfl rfl rfl ?_
  refine tkS 15 rfl (fun w h=>⟨_,rfl,h⟩) ?_
  refine tkS 16 rfl (fun w h=>⟨_,rfl,h⟩) ?_
  refine tkS 17 rfl (fun w h=>⟨_,rfl,h⟩) ?_
  refine tkS 18 rfl (fun w h=>⟨_,rfl,h⟩) ?_
  first|refine Kx.xlS 19 rfl rfl rfl rfl ?_|refine Kx.xlaS 19 rfl rfl rfl ?_
  refine tkS 20 rfl (fun w h=>⟨_,rfl,h⟩) ?_
  refine tkS 21 rfl (fun w h=>⟨_,rfl,h⟩) ?_
  refine tkS 22 rfl (fun w h=>⟨_,rfl,h⟩) ?_
  first|refine Kx.stcS 23 rfl rfl rfl (fun w h=>⟨_,rfl,h⟩) ?_|refine Kx.st1S 23 rfl rfl rfl rfl (fun w h=>⟨_,rfl,h⟩) ?_|refine Kx.staS 23 rfl rfl rfl (fun w h=>⟨_,rfl,h⟩) ?_
  refine zan (by kernel_rfl) ?_
  clear HB
  intro w_ HB_
  have HB:=Lib.hid HB_
  clear HB_
  go_wp2
  refine bodyPost_ret (zg6 rfl HB _ _ _ rfl (Tryz.isAgg34 _) (Tryz.sizeOf34 _)) rfl ?_
  rw [HS.out]
  exact ⟨rfl,HB.out.tail⟩
set_option maxHeartbeats 2000000 in
theorem zhc (h : Bxs w0 w L r F) [hin : InL ga (a.cells g) L] (m : Mm.Ms) (lo : Lo) :
  Calls Tryz.prog 61 #[.pointer (some ⟨ga,0,none⟩),.agg (mvs m lo).toArray] w fun e w'=>Ans1 w0 w' L r F (decided a m) (loOf a.kn) e:=by
 have HB:=Lib.hid h
 clear h
 go_enter Tryz.func61,Tryz.ntmps61
 go_upto_region 1 with (first|((with_reducible refine zah HB ?_);clear HB;intro w_ HB)|((with_reducible refine zae ?_);(first|refine boxa HB rfl ?_|refine boxt HB rfl rfl ?_|refine box1 HB rfl rfl ?_);clear HB;intro b_ w_ HB;refine Kx.fr ?_)|((with_reducible refine zaa ?_);(first|refine ala HB ?_|refine al1 HB ?_);clear HB;intro b_ w_ HB;refine Kx.fr ?_)|((with_reducible refine zab ?_);first|refine Kx.l1 HB rfl rfl ?_|refine Kx.la HB rfl ?_)|((with_reducible refine zac ?_);first|refine l1g HB rfl rfl rfl ?_|refine Kx.lag HB rfl rfl ?_)|((with_reducible refine zad ?_);(first|refine stwa HB rfl rfl ?_|refine sta HB rfl rfl ?_|refine Kx.stc HB rfl rfl ?_|refine Kx.stt HB rfl rfl rfl ?_|refine Kx.st1 HB rfl rfl rfl ?_);clear HB;intro w_ HB))
 refine zau HB (fun i=>false) (by kernel_rfl) ?_
 refine Kx.tk 0 rfl ?_
 first|refine xl1 1 rfl rfl rfl ?_|refine xla 1 rfl rfl ?_
 refine Kx.tk 2 rfl ?_
 refine Kx.tk 3 rfl ?_
 refine Kx.tk 4 rfl ?_
 refine Kx.tk 5 rfl ?_
 refine Kx.tk 6 rfl ?_
 first|refine xl1 7 rfl rfl rfl ?_|refine xla 7 rfl rfl ?_
 refine Kx.tk 8 rfl ?_
 refine Kx.tk 9 rfl ?_
 refine Kx.tk 10 rfl ?_
 refine Kx.tk 11 rfl ?_
 first|refine xl1 12 rfl rfl rfl ?_|refine xla 12 rfl rfl ?_
 refine Kx.tk 13 rfl ?_ (v:=.agg ((mvs (mk 9 a.kn.x.e 0 0 0 0 true a.kn.x) (loOf a.kn)).toArray)) (hy:=fun w hw=>zcr 37 _ rfl #[(0,.int .i64 9),(3,.int .i64 a.kn.x.e),(10,.bool true),(11,.agg a.kn.cells.toArray)] (by go_simp;try rfl) ((mvs (mk 9 a.kn.x.e 0 0 0 0 true a.kn.x) (loOf a.kn)).toArray) (zkp a.kn.x.e a.kn))
 refine Kx.zfn 14 _ _ ?y14_1 rfl ?b14_1 ?s14_1 ?e14_1 (fun w hw=>zft (ga:=ga) (g:=g) (a:=a) hw m lo (mk 9 a.kn.x.e 0 0 0 0 true a.kn.x) (loOf a.kn)) ?h14_1
 case y14_1=>first|exact 0|exact ()
 case b14_1=>first|exact fun _=>za7|exact fun _=>Jbx.bears
 case s14_1=>exact fun _ _ h=>h.tail
 case e14_1=>(intro w hw;go_simp;try (first|(refine ⟨?_,?_⟩<;>with_reducible rfl)|with_reducible rfl))
 intro y_
 refine lsS 15 rfl (fun w h=>Kx.Bxs.tail h) ?_
 refine zan (by kernel_rfl) ?_
 clear HB
 intro w_ HB_
 have HB:=Lib.hid HB_
 clear HB_
 go_wp2
 go_ret
 exact ⟨_,rfl,HB.out.zde⟩
set_option maxHeartbeats 2000000 in
theorem zn1 (h : Bxs w0 w L r F) [hin : InL ga (a.cells g) L] (m : Mm.Ms) (lo : Lo) :
  Calls Tryz.prog 64 #[.pointer (some ⟨ga,0,none⟩),.agg (mvs m lo).toArray] w fun e w'=>Ans1 w0 w' L r F (zg8 a m) Lo.zero e:=by
 have HB:=Lib.hid h
 clear h
 go_enter Tryz.func64,Tryz.ntmps64
 go_upto_region 1 with (first|((with_reducible refine zah HB ?_);clear HB;intro w_ HB)|((with_reducible refine zae ?_);(first|refine boxa HB rfl ?_|refine boxt HB rfl rfl ?_|refine box1 HB rfl rfl ?_);clear HB;intro b_ w_ HB;refine Kx.fr ?_)|((with_reducible refine zaa ?_);(first|refine ala HB ?_|refine al1 HB ?_);clear HB;intro b_ w_ HB;refine Kx.fr ?_)|((with_reducible refine zab ?_);first|refine Kx.l1 HB rfl rfl ?_|refine Kx.la HB rfl ?_)|((with_reducible refine zac ?_);first|refine l1g HB rfl rfl rfl ?_|refine Kx.lag HB rfl rfl ?_)|((with_reducible refine zad ?_);(first|refine stwa HB rfl rfl ?_|refine sta HB rfl rfl ?_|refine Kx.stc HB rfl rfl ?_|refine Kx.stt HB rfl rfl rfl ?_|refine Kx.st1 HB rfl rfl rfl ?_);clear HB;intro w_ HB))
 refine zau HB (fun i=>false) (by kernel_rfl) ?_
 refine Kx.tk 0 rfl ?_
 first|refine xl1 1 rfl rfl rfl ?_|refine xla 1 rfl rfl ?_
 refine Kx.tk 2 rfl ?_
 first|refine xl1 3 rfl rfl rfl ?_|refine xla 3 rfl rfl ?_
 refine Kx.tk 4 rfl ?_
 refine Kx.tk 5 rfl ?_
 refine Kx.tk 6 rfl ?_
 refine Kx.tk 7 rfl ?_
 first|refine xl1 8 rfl rfl rfl ?_|refine xla 8 rfl rfl ?_
 refine Kx.tk 9 rfl ?_ (v:=.agg ((mvs (mk 6 m.e a.pr 0 0 0 false Pm.zero) Lo.zero).toArray)) (hy:=fun w hw=>zcr 37 _ rfl #[(0,.int .i64 6),(3,.int .i64 m.e),(4,.int .i64 a.pr)] (by go_simp;try rfl) ((mvs (mk 6 m.e a.pr 0 0 0 false Pm.zero) Lo.zero).toArray) (zld m.e a.pr))
 refine Kx.zfn 10 _ _ ?y10_2 rfl ?b10_2 ?s10_2 ?e10_2 (fun w hw=>zft (ga:=ga) (g:=g) (a:=a) hw m lo (mk 6 m.e a.pr 0 0 0 false Pm.zero) Lo.zero) ?h10_2
 case y10_2=>first|exact 0|exact ()
 case b10_2=>first|exact fun _=>za7|exact fun _=>Jbx.bears
 case s10_2=>exact fun _ _ h=>h.tail
 case e10_2=>(intro w hw;go_simp;try (first|(refine ⟨?_,?_⟩<;>with_reducible rfl)|with_reducible rfl))
 intro y_
 refine lsS 11 rfl (fun w h=>Kx.Bxs.tail h) ?_
 refine zan (by kernel_rfl) ?_
 clear HB
 intro w_ HB_
 have HB:=Lib.hid HB_
 clear HB_
 go_wp2
 go_ret
 exact ⟨_,rfl,HB.out.zde⟩
def Ac.wait (a:Ac):Int:=a.c.l+a.c.m
theorem zpg (now last span : Int) (hw : -9223372036854775808 ≤ now - span ∧ now - span ≤ 9223372036854775807) (w : World) :
  Calls Tryz.prog 67 #[.int .i64 now,.int .i64 last,.int .i64 span] w fun e w'=>e = .returned (.bool (decide (now - span < last)))∧w=w':=by
 have HW:=Lib.hid (show wrap64 (now - span)=now - span from IntWalk.wrap64_in _ hw)
 clear hw
 go_enter Tryz.func67,Tryz.ntmps67
 go_wp2
 go_ret
 refine ⟨?_,rfl⟩
 show Ending.returned (.bool (decide (wrap64 (now - span) < last)))=_
 rw [HW.out]
def Prp (m:Mm.Ms) (e:Int):Prop:=1≤m.e∧1≤m.b∧m.has=true∧m.plan.e=e
set_option maxHeartbeats 2000000 in
theorem zeb (m : Mm.Ms) (lo : Lo) (ep : Int) (w : World) :
  Calls Tryz.prog 37 #[.agg (mvs m lo).toArray,.int .i64 ep] w fun e w'=>Says w (Prp m ep) e w':=by
 have HB:=Lib.hid (Bxs.start w)
 obtain ⟨R,HR⟩ : ∃R,R=Prp m ep:=⟨_,rfl⟩
 rw [←HR]
 replace HR:=Lib.hid HR
 by_cases h1:1≤m.e
 ·have e1:decide (1≤m.e)=true:=decide_eq_true h1
  by_cases h2:1≤m.b
  ·have e2:decide (1≤m.b)=true:=decide_eq_true h2
   cases h3:m.has with
   | true =>
     by_cases h4:m.plan.e=ep
     ·have e4:(m.plan.e == ep)=true:=by simpa using h4
      have HP:Hid (Prp m ep):=⟨h1,h2,h3,h4⟩
      clear h1 h2 h4
      go_enter Tryz.func37,Tryz.ntmps37
      go_wp2_with (first|((with_reducible refine zah HB ?_);clear HB;intro w_ HB)|((with_reducible refine zae ?_);(first|refine boxa HB rfl ?_|refine boxt HB rfl rfl ?_|refine box1 HB rfl rfl ?_);clear HB;intro b_ w_ HB;refine Kx.fr ?_)|((with_reducible refine zaa ?_);(first|refine ala HB ?_|refine al1 HB ?_);clear HB;intro b_ w_ HB;refine Kx.fr ?_)|((with_reducible refine zab ?_);first|refine Kx.l1 HB rfl rfl ?_|refine Kx.la HB rfl ?_)|((with_reducible refine zac ?_);first|refine l1g HB rfl rfl rfl ?_|refine Kx.lag HB rfl rfl ?_)|((with_reducible refine zad ?_);(first|refine stwa HB rfl rfl ?_|refine sta HB rfl rfl ?_|refine Kx.stc HB rfl rfl ?_|refine Kx.stt HB rfl rfl rfl ?_|refine Kx.st1 HB rfl rfl rfl ?_);clear HB;intro w_ HB))
      go_ret
      exact zns rfl (by rw [HR.out];exact HP.out) HB.out.below
     ·have e4:(m.plan.e == ep)=false:=by simpa using h4
      have HP:Hid (¬ Prp m ep):=fun q=>h4 q.2.2.2
      clear h1 h2 h4
      go_enter Tryz.func37,Tryz.ntmps37
      go_wp2_with (first|((with_reducible refine zah HB ?_);clear HB;intro w_ HB)|((with_reducible refine zae ?_);(first|refine boxa HB rfl ?_|refine boxt HB rfl rfl ?_|refine box1 HB rfl rfl ?_);clear HB;intro b_ w_ HB;refine Kx.fr ?_)|((with_reducible refine zaa ?_);(first|refine ala HB ?_|refine al1 HB ?_);clear HB;intro b_ w_ HB;refine Kx.fr ?_)|((with_reducible refine zab ?_);first|refine Kx.l1 HB rfl rfl ?_|refine Kx.la HB rfl ?_)|((with_reducible refine zac ?_);first|refine l1g HB rfl rfl rfl ?_|refine Kx.lag HB rfl rfl ?_)|((with_reducible refine zad ?_);(first|refine stwa HB rfl rfl ?_|refine sta HB rfl rfl ?_|refine Kx.stc HB rfl rfl ?_|refine Kx.stt HB rfl rfl rfl ?_|refine Kx.st1 HB rfl rfl rfl ?_);clear HB;intro w_ HB))
      go_ret
      exact zf3 rfl (by rw [HR.out];exact HP.out) HB.out.below
   | false =>
     have HP:Hid (¬ Prp m ep):=fun q=>by have:=q.2.2.1;rw [h3] at this;cases this
     clear h1 h2
     go_enter Tryz.func37,Tryz.ntmps37
     go_wp2_with (first|((with_reducible refine zah HB ?_);clear HB;intro w_ HB)|((with_reducible refine zae ?_);(first|refine boxa HB rfl ?_|refine boxt HB rfl rfl ?_|refine box1 HB rfl rfl ?_);clear HB;intro b_ w_ HB;refine Kx.fr ?_)|((with_reducible refine zaa ?_);(first|refine ala HB ?_|refine al1 HB ?_);clear HB;intro b_ w_ HB;refine Kx.fr ?_)|((with_reducible refine zab ?_);first|refine Kx.l1 HB rfl rfl ?_|refine Kx.la HB rfl ?_)|((with_reducible refine zac ?_);first|refine l1g HB rfl rfl rfl ?_|refine Kx.lag HB rfl rfl ?_)|((with_reducible refine zad ?_);(first|refine stwa HB rfl rfl ?_|refine sta HB rfl rfl ?_|refine Kx.stc HB rfl rfl ?_|refine Kx.stt HB rfl rfl rfl ?_|refine Kx.st1 HB rfl rfl rfl ?_);clear HB;intro w_ HB))
     go_ret
     exact zf3 rfl (by rw [HR.out];exact HP.out) HB.out.below
  ·have e2:decide (1≤m.b)=false:=decide_eq_false h2
   have HP:Hid (¬ Prp m ep):=fun q=>h2 q.2.1
   clear h1 h2
   go_enter Tryz.func37,Tryz.ntmps37
   go_wp2_with (first|((with_reducible refine zah HB ?_);clear HB;intro w_ HB)|((with_reducible refine zae ?_);(first|refine boxa HB rfl ?_|refine boxt HB rfl rfl ?_|refine box1 HB rfl rfl ?_);clear HB;intro b_ w_ HB;refine Kx.fr ?_)|((with_reducible refine zaa ?_);(first|refine ala HB ?_|refine al1 HB ?_);clear HB;intro b_ w_ HB;refine Kx.fr ?_)|((with_reducible refine zab ?_);first|refine Kx.l1 HB rfl rfl ?_|refine Kx.la HB rfl ?_)|((with_reducible refine zac ?_);first|refine l1g HB rfl rfl rfl ?_|refine Kx.lag HB rfl rfl ?_)|((with_reducible refine zad ?_);(first|refine stwa HB rfl rfl ?_|refine sta HB rfl rfl ?_|refine Kx.stc HB rfl rfl ?_|refine Kx.stt HB rfl rfl rfl ?_|refine Kx.st1 HB rfl rfl rfl ?_);clear HB;intro w_ HB))
   go_ret
   exact zf3 rfl (by rw [HR.out];exact HP.out) HB.out.below
 ·have e1:decide (1≤m.e)=false:=decide_eq_false h1
  have HP:Hid (¬ Prp m ep):=fun q=>h1 q.1
  clear h1
  go_enter Tryz.func37,Tryz.ntmps37
  go_wp2_with (first|((with_reducible refine zah HB ?_);clear HB;intro w_ HB)|((with_reducible refine zae ?_);(first|refine boxa HB rfl ?_|refine boxt HB rfl rfl ?_|refine box1 HB rfl rfl ?_);clear HB;intro b_ w_ HB;refine Kx.fr ?_)|((with_reducible refine zaa ?_);(first|refine ala HB ?_|refine al1 HB ?_);clear HB;intro b_ w_ HB;refine Kx.fr ?_)|((with_reducible refine zab ?_);first|refine Kx.l1 HB rfl rfl ?_|refine Kx.la HB rfl ?_)|((with_reducible refine zac ?_);first|refine l1g HB rfl rfl rfl ?_|refine Kx.lag HB rfl rfl ?_)|((with_reducible refine zad ?_);(first|refine stwa HB rfl rfl ?_|refine sta HB rfl rfl ?_|refine Kx.stc HB rfl rfl ?_|refine Kx.stt HB rfl rfl rfl ?_|refine Kx.st1 HB rfl rfl rfl ?_);clear HB;intro w_ HB))
  go_ret
  exact zf3 rfl (by rw [HR.out];exact HP.out) HB.out.below
end
end Go.Proofs.YtponpgcpmlcdpaaGreatDoor
