import Derived.Test.YtponpgcpmlcdpaaGreatDoorAy
namespace Go.Proofs.YtponpgcpmlcdpaaGreatDoor
open Go.RowKit Go.Shelf Km Kx Kc Kt
set_option linter.unusedVariables false
set_option linter.unusedSimpArgs false
abbrev Res:=Ac×Jm.St×Option (Mm.Ms×Lo)
def Outs (w0 w':World) (ga g:Nat) (l:List (Nat×List Value)) (r:List Rw) (F:Fz) (R:Res) (e:Ending):Prop :=
 match R.2.2 with
 |none=>e = .returned (.slice none 0 0)∧Jbx w0 w' g R.2.1 ((ga,R.1.cells g)::l) r F
 |some q=>∃b,e = .returned (.slice (some ⟨b,0,none⟩) 1 1)∧Jbx w0 w' g R.2.1 ((b,mvs q.1 q.2)::(ga,R.1.cells g)::l) r F
def rpro (m:Mm.Ms) (p:Pt):Mm.Ms:=mk 5 m.e m.b 0 0 0 true p.x
def racc (m:Mm.Ms):Mm.Ms:=mk 8 m.e m.b 0 0 0 true m.plan
def promised (a:Ac) (m:Mm.Ms):Mm.Ms:=reply a m (mk 5 m.e a.pr a.ac 0 0 (a.ac != 0) a.spl.x)
noncomputable def promise (a:Ac) (s:Jm.St) (m:Mm.Ms) (p:Pt):Res :=
 if (keep s (rpro m p)).2=true then (a.replay (rpro m p) p,(keep s (rpro m p)).1,some (promised (a.replay (rpro m p) p) m,loOf (a.replay (rpro m p) p).spl)) else (a,(keep s (rpro m p)).1,none)
theorem zot (e b:Int) (p:Pt):Tryz.prog.built 37 [(0,.int .i64 5),(3,.int .i64 e),(4,.int .i64 b),(10,.bool true),(11,.agg p.cells.toArray)]=some (mvs (mk 5 e b 0 0 0 true p.x) (loOf p)).toArray:=by kernel_rfl
theorem zox (e b:Int) (p:Pt):Tryz.prog.built 37 [(0,.int .i64 8),(3,.int .i64 e),(4,.int .i64 b),(10,.bool true),(11,.agg p.cells.toArray)]=some (mvs (mk 8 e b 0 0 0 true p.x) (loOf p)).toArray:=by kernel_rfl
theorem zpk (e b:Int):Tryz.prog.built 37 [(0,.int .i64 8),(3,.int .i64 e),(4,.int .i64 b)]=some (mvs (mk 8 e b 0 0 0 false Pm.zero) Lo.zero).toArray:=by kernel_rfl
theorem zoz (e b c:Int) (h:Bool) (p:Pt):Tryz.prog.built 37 [(0,.int .i64 5),(3,.int .i64 e),(4,.int .i64 b),(5,.int .i64 c),(10,.bool h),(11,.agg p.cells.toArray)]=some (mvs (mk 5 e b c 0 0 h p.x) (loOf p)).toArray:=by kernel_rfl
instance:Kx.ZAgg Tryz.prog 37 (mvs Mm.zero Lo.zero):=⟨Tryz.zeroValue37⟩
section
variable {w0 w:World} {ga g:Nat} {a:Ac} {s:Jm.St} {l L:List (Nat×List Value)} {r:List Rw} {F:Fz}
theorem Outs.zdh {R:Res} {w':World} {e:Ending} {a':Ac} {s':Jm.St} (h:R=(a',s',none)) (he:e = .returned (.slice none 0 0)) (hj:Jbx w0 w' g s' ((ga,a'.cells g)::l) r F):Outs w0 w' ga g l r F R e:=by subst h;exact ⟨he,hj⟩
theorem Outs.zej {R:Res} {w':World} {e:Ending} {a':Ac} {s':Jm.St} {q:Mm.Ms×Lo} {b:Nat} (h:R=(a',s',some q)) (he:e = .returned (.slice (some ⟨b,0,none⟩) 1 1)) (hj:Jbx w0 w' g s' ((b,mvs q.1 q.2)::(ga,a'.cells g)::l) r F):Outs w0 w' ga g l r F R e:=by subst h;exact ⟨b,he,hj⟩
set_option maxRecDepth 100000 in
set_option maxHeartbeats 4000000 in
theorem zic (h : Jbx w0 w g s ((ga, a.cells g) :: l) r F) (m : Mm.Ms) (lo : Lo) (p : Pt) (hm : m.Ok) (hp : p.Fine) (hs : Within p.fz F) (ht : Tab w0) (hh : HTab w0) (hz : Jm.size s ≤ 16000000) :
  Calls Tryz.prog 63 #[.pointer (some ⟨ga,0,none⟩),.agg (mvs m lo).toArray,.agg p.cells.toArray] w fun e w'=>Outs w0 w' ga g l r F (promise a s m p) e:=by
 obtain ⟨ok,KA,KC,RA,RC,HB0⟩:=h
 have HB:=Lib.hid HB0
 have HOk:=Lib.hid ok
 have HRm : Hid (∀ {W : World} {l'}, Jbx w0 W g s ((ga, a.cells g) :: l') r F → Calls Tryz.prog 65 #[.pointer (some ⟨ga, 0, none⟩), .agg (mvs (rpro m p) (loOf p)).toArray] W fun e w' =>
   e = .returned (.bool (keep s (rpro m p)).2)∧Jbx w0 w' g (keep s (rpro m p)).1 ((ga,(a.wrote s (rpro m p) p).cells g)::l') r F):=Lib.hid (fun q=>zg7 q (rpro m p) (loOf p) (zqx hp ⟨by decide,by decide⟩ hm.e hm.b I0 I0 I0) (mk_in hs) ht hh hz)
 have HP0:=Lib.hid (fun q:(keep s (rpro m p)).2=false=>(show promise a s m p=(a,(keep s (rpro m p)).1,none) from if_neg (by rw [q];decide)))
 have HP1:=Lib.hid (fun q:(keep s (rpro m p)).2=true=>(show promise a s m p=_ from if_pos q))
 have HW0:=Lib.hid (fun q:(keep s (rpro m p)).2=false=>Ac.zhk (a:=a) (p:=p) q)
 have HW1:=Lib.hid (fun q:(keep s (rpro m p)).2=true=>Ac.zhx (a:=a) (p:=p) q)
 clear HB0 hm hp hs hz ok ht hh
 have HX:=Lib.hid (zot m.e m.b p)
 generalize a.wrote s (rpro m p) p=a' at *
 generalize promise a s m p=R at *
 generalize a.replay (rpro m p) p=a2 at *
 have hrp:mk 5 m.e m.b 0 0 0 true p.x=rpro m p:=rfl
 rw [hrp] at HX
 clear hrp
 generalize keep s (rpro m p)=ks at *
 generalize rpro m p=rp at *
 cases hk:ks.2 with
 | false =>
   rw [hk] at HRm
   have HP:=Lib.hid (HP0.out hk)
   have HW:=Lib.hid (HW0.out hk)
   clear HP0 HP1 HW0 HW1 hk
   go_enter Tryz.func63,Tryz.ntmps63
   go_wp2_with (first|(go_at_call 65;fail)|((with_reducible refine Kx.zbk ?_);refine Km.wpList_build rfl 37 _ rfl #[(0,.int .i64 5),(3,.int .i64 m.e),(4,.int .i64 m.b),(10,.bool true),(11,.agg p.cells.toArray)] (by first|rfl|(go_simp;try rfl)) (mvs rp (loOf p)).toArray (HX.out) ?_;refine Kx.framed ?_ (by simp only [Act.put,List.setIfInBounds_toArray,List.set_cons_succ,List.set_cons_zero]<;>rfl))|(first|((with_reducible refine zah HB ?_);clear HB;intro w_ HB)|((with_reducible refine zae ?_);(first|refine boxa HB rfl ?_|refine boxt HB rfl rfl ?_|refine box1 HB rfl rfl ?_);clear HB;intro b_ w_ HB;refine Kx.fr ?_)|((with_reducible refine zaa ?_);(first|refine ala HB ?_|refine al1 HB ?_);clear HB;intro b_ w_ HB;refine Kx.fr ?_)|((with_reducible refine zab ?_);first|refine Kx.l1 HB rfl rfl ?_|refine Kx.la HB rfl ?_)|((with_reducible refine zac ?_);first|refine l1g HB rfl rfl rfl ?_|refine Kx.lag HB rfl rfl ?_)|((with_reducible refine zad ?_);(first|refine stwa HB rfl rfl ?_|refine sta HB rfl rfl ?_|refine Kx.stc HB rfl rfl ?_|refine Kx.stt HB rfl rfl rfl ?_|refine Kx.st1 HB rfl rfl rfl ?_);clear HB;intro w_ HB)))
   refine (HRm.out (Jbx.box3 HOk.out HB.out).third).mono ?_
   rintro e w2 ⟨rfl,HJ⟩
   replace HJ:=Lib.hid HJ
   clear HB
   go_wp2
   go_ret
   rw [HW.out] at HJ
   exact Outs.zdh HP.out rfl HJ.out.zde.zde
 | true =>
   rw [hk] at HRm
   have HP:=Lib.hid (HP1.out hk)
   have HW:=Lib.hid (HW1.out hk)
   clear HP0 HP1 HW0 HW1 hk
   rw [HW.out] at HRm
   clear HW
   go_enter Tryz.func63,Tryz.ntmps63
   go_wp2_with (first|(go_at_call 65;fail)|((with_reducible refine Kx.zbk ?_);refine Km.wpList_build rfl 37 _ rfl #[(0,.int .i64 5),(3,.int .i64 m.e),(4,.int .i64 m.b),(10,.bool true),(11,.agg p.cells.toArray)] (by first|rfl|(go_simp;try rfl)) (mvs rp (loOf p)).toArray (HX.out) ?_;refine Kx.framed ?_ (by simp only [Act.put,List.setIfInBounds_toArray,List.set_cons_succ,List.set_cons_zero]<;>rfl))|(first|((with_reducible refine zah HB ?_);clear HB;intro w_ HB)|((with_reducible refine zae ?_);(first|refine boxa HB rfl ?_|refine boxt HB rfl rfl ?_|refine box1 HB rfl rfl ?_);clear HB;intro b_ w_ HB;refine Kx.fr ?_)|((with_reducible refine zaa ?_);(first|refine ala HB ?_|refine al1 HB ?_);clear HB;intro b_ w_ HB;refine Kx.fr ?_)|((with_reducible refine zab ?_);first|refine Kx.l1 HB rfl rfl ?_|refine Kx.la HB rfl ?_)|((with_reducible refine zac ?_);first|refine l1g HB rfl rfl rfl ?_|refine Kx.lag HB rfl rfl ?_)|((with_reducible refine zad ?_);(first|refine stwa HB rfl rfl ?_|refine sta HB rfl rfl ?_|refine Kx.stc HB rfl rfl ?_|refine Kx.stt HB rfl rfl rfl ?_|refine Kx.st1 HB rfl rfl rfl ?_);clear HB;intro w_ HB)))
   refine (HRm.out (Jbx.box3 HOk.out HB.out).third).mono ?_
   rintro e w2 ⟨rfl,HJ⟩
   clear HB HRm HOk
   obtain ⟨ok,KA,KC,RA,RC,HB2⟩:=HJ
   have HB:=Lib.hid HB2
   have HOk:=Lib.hid ok
   clear HB2 ok
   have HSt:Hid (∀ {W:World} {L:List (Nat×List Value)} {r':List Rw} [InL ga (a2.cells g) L],Bxs w0 W L r' F→Calls Tryz.prog 13 #[.pointer (some ⟨ga,0,none⟩)] W fun e w'=>e = .returned (.tuple #[.int .i64 a2.e,.int .i64 a2.pr,.int .i64 a2.ac,.agg a2.spl.cells.toArray])∧Bxs w0 w' L r' F):=Lib.hid (fun q=>zr4 q)
   have HAn:Hid (∀ {W:World} {L:List (Nat×List Value)} {r':List Rw} [InL ga (a2.cells g) L] (y:Mm.Ms) (yl:Lo),Bxs w0 W L r' F→Calls Tryz.prog 66 #[.pointer (some ⟨ga,0,none⟩),.agg (mvs m lo).toArray,.agg (mvs y yl).toArray] W fun e w'=>Ans1 w0 w' L r' F (reply a2 m y) yl e):=Lib.hid (fun y yl q=>zft q m lo y yl)
   have HX2:=Lib.hid (zoz m.e a2.pr a2.ac (a2.ac != 0) a2.spl)
   have HY:Hid (promised a2 m=reply a2 m (mk 5 m.e a2.pr a2.ac 0 0 (a2.ac != 0) a2.spl.x)):=Lib.hid rfl
   generalize hb:(a2.ac != 0)=nb at *
   clear HX
   go_wp2_with (first|(go_at_call 13;refine (HSt.out HB.out).mono ?_;rintro e w_ ⟨rfl,hb_⟩;replace HB:=Lib.hid hb_;clear hb_)|(go_at_call 66;fail)|((with_reducible refine Kx.zbk ?_);refine Km.wpList_build rfl 37 _ rfl #[(0,.int .i64 5),(3,.int .i64 m.e),(4,.int .i64 a2.pr),(5,.int .i64 a2.ac),(10,.bool nb),(11,.agg a2.spl.cells.toArray)] (by first|rfl|(go_simp;try rfl)) (mvs (mk 5 m.e a2.pr a2.ac 0 0 nb a2.spl.x) (loOf a2.spl)).toArray (HX2.out) ?_;refine Kx.framed ?_ (by simp only [Act.put,List.setIfInBounds_toArray,List.set_cons_succ,List.set_cons_zero]<;>rfl))|(first|((with_reducible refine zah HB ?_);clear HB;intro w_ HB)|((with_reducible refine zae ?_);(first|refine boxa HB rfl ?_|refine boxt HB rfl rfl ?_|refine box1 HB rfl rfl ?_);clear HB;intro b_ w_ HB;refine Kx.fr ?_)|((with_reducible refine zaa ?_);(first|refine ala HB ?_|refine al1 HB ?_);clear HB;intro b_ w_ HB;refine Kx.fr ?_)|((with_reducible refine zab ?_);first|refine Kx.l1 HB rfl rfl ?_|refine Kx.la HB rfl ?_)|((with_reducible refine zac ?_);first|refine l1g HB rfl rfl rfl ?_|refine Kx.lag HB rfl rfl ?_)|((with_reducible refine zad ?_);(first|refine stwa HB rfl rfl ?_|refine sta HB rfl rfl ?_|refine Kx.stc HB rfl rfl ?_|refine Kx.stt HB rfl rfl rfl ?_|refine Kx.st1 HB rfl rfl rfl ?_);clear HB;intro w_ HB)))
   refine (HAn.out (mk 5 m.e a2.pr a2.ac 0 0 nb a2.spl.x) (loOf a2.spl) HB.out).mono ?_
   rintro e w3 ⟨b,rfl,hB⟩
   have HJ:=Lib.hid (((Jbx.box3 HOk.out hB).zde).third.tail.third.tail)
   clear HB hB HOk HSt HAn HX2
   go_wp2
   go_ret
   rw [←HY.out] at HJ
   exact Outs.zej HP.out rfl HJ.out
theorem Jbx.front {w0 w:World} {g:Nat} {s:Jm.St} {l:List (Nat×List Value)} {r:List Rw} {F:Fz} {p:Nat×List Value} {KA RA:Option Addr} {KC RC:Nat} (h:Bxs w0 w (p::(g,jcs s KA KC RA RC)::l) (jrow KA KC s.kept::jrow RA RC s.rest::r) F) (ok:Jm.Ok s):Jbx w0 w g s (p::l) r F:=⟨ok,KA,KC,RA,RC,h.swap⟩
def accepted (a:Ac) (m:Mm.Ms):Mm.Ms:=reply a m (mk 8 m.e m.b 0 0 0 false Pm.zero)
noncomputable def accept (a:Ac) (s:Jm.St) (m:Mm.Ms) (lo:Lo) (now:Int):Res :=
 if a.e < m.e then (a,s,none)
 else if m.e < a.e then (a,s,some (decided a m,loOf a.kn))
 else if m.b < a.pr then (a,s,some (zg8 a m,Lo.zero))
 else if a.pr < m.b∨a.c.s < m.plan.st - now then (a,s,none)
 else if (keep s (racc m)).2=true then (a.replay (racc m) (mpt m lo),(keep s (racc m)).1,some (accepted (a.replay (racc m) (mpt m lo)) m,Lo.zero)) else (a,(keep s (racc m)).1,none)
end
end Go.Proofs.YtponpgcpmlcdpaaGreatDoor
