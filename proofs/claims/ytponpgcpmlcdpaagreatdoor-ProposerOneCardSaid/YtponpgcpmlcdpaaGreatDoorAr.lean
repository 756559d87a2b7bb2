import Derived.Test.YtponpgcpmlcdpaaGreatDoorAp
namespace Go.Proofs.YtponpgcpmlcdpaaGreatDoor
open Go.RowKit Go.Shelf Km Kx Kc Kt
set_option linter.unusedVariables false
set_option linter.unusedSimpArgs false
section
variable {w0 w:World} {ga g:Nat} {a:Ac} {s:Jm.St} {l L:List (Nat×List Value)} {r:List Rw} {F:Fz}
open Classical in
noncomputable def prepare (a:Ac) (s:Jm.St) (m:Mm.Ms) (lo:Lo) (now:Int):Res :=
 if m.e < a.e then (a,s,some (decided a m,loOf a.kn))
 else if a.e < m.e then (if MW a m now then ({ a with wi:=if a.wi < m.e then m.e else a.wi,wt:=now },s,none) else promise a s m (mpt m lo))
 else if m.b≤a.pr then (a,s,some (zg8 a m,Lo.zero))
 else promise a s m a.kn
theorem zoy (a:Ac) (s:Jm.St) (m:Mm.Ms):(promise a s m a.kn).1.kn=a.kn:=by
 unfold promise
 split
 ·show (a.replay (rpro m a.kn) a.kn).kn=a.kn
  unfold Ac.replay
  rw [if_pos (show (rpro m a.kn).k=5 from rfl)]
 ·rfl
theorem zem {w w':World} {R:Prop} {e:Ending} (h:Says w R e w') (b:Bool) (hb:b=true↔R):e = .returned (.bool b)∧Below w.heap.size w w':=by
 obtain ⟨c,rfl,h1,h2⟩:=h
 refine ⟨?_,h2⟩
 have:c=b:=by
  cases c<;>cases b<;>simp_all
 rw [this]
set_option maxRecDepth 100000 in
set_option maxHeartbeats 4000000 in
theorem zmm (h : Jbx w0 w g s ((ga, a.cells g) :: l) r F) (m : Mm.Ms) (lo : Lo) (now : Int) (hm : MsOk m lo) (hs : Within (mpt m lo).fz F) (hk : a.kn.Fine) (hks : Within a.kn.fz F) (ht : Tab w0) (hh : HTab w0) (hz : Jm.size s ≤ 16000000) (hnow : 0 ≤ now ∧ now ≤ 1099511627776) (hl : 0 ≤ a.c.l ∧ a.c.l ≤ 1048576) (hcm : 0 ≤ a.c.m ∧ a.c.m ≤ 1048576) :
  Calls Tryz.prog 38 #[.pointer (some ⟨ga,0,none⟩),.agg (mvs m lo).toArray,.int .i64 now] w fun e w'=>Outs w0 w' ga g l r F (prepare a s m lo now) e:=by
 obtain ⟨ok,KA,KC,RA,RC,HB0⟩:=h
 have HB:=Lib.hid HB0
 have HOk:=Lib.hid ok
 have HDec:Hid (∀ {W:World} {L:List (Nat×List Value)} {r':List Rw} [InL ga (a.cells g) L],Bxs w0 W L r' F→Calls Tryz.prog 61 #[.pointer (some ⟨ga,0,none⟩),.agg (mvs m lo).toArray] W fun e w'=>Ans1 w0 w' L r' F (decided a m) (loOf a.kn) e):=Lib.hid (fun q=>zhc q m lo)
 have HNa:Hid (∀ {W:World} {L:List (Nat×List Value)} {r':List Rw} [InL ga (a.cells g) L],Bxs w0 W L r' F→Calls Tryz.prog 64 #[.pointer (some ⟨ga,0,none⟩),.agg (mvs m lo).toArray] W fun e w'=>Ans1 w0 w' L r' F (zg8 a m) Lo.zero e):=Lib.hid (fun q=>zn1 q m lo)
 have HMW:Hid (∀ {W:World} {L:List (Nat×List Value)} {r':List Rw} [InL ga (a.cells g) L],Bxs w0 W L r' F→Calls Tryz.prog 62 #[.pointer (some ⟨ga,0,none⟩),.agg (mvs m lo).toArray,.int .i64 now] W (Says W (MW a m now))):=Lib.hid (fun q=>zle q hl hcm m lo now hnow)
 have HPm:Hid (∀ {W:World} {l'},Jbx w0 W g s ((ga,a.cells g)::l') r F→Calls Tryz.prog 63 #[.pointer (some ⟨ga,0,none⟩),.agg (mvs m lo).toArray,.agg (mpt m lo).cells.toArray] W fun e w'=>Outs w0 w' ga g l' r F (promise a s m (mpt m lo)) e):=Lib.hid (fun q=>zic q m lo (mpt m lo) hm.ok hm.pt hs ht hh hz)
 have HPk:Hid (∀ {W:World} {l'},Jbx w0 W g s ((ga,a.cells g)::l') r F→Calls Tryz.prog 63 #[.pointer (some ⟨ga,0,none⟩),.agg (mvs m lo).toArray,.agg a.kn.cells.toArray] W fun e w'=>Outs w0 w' ga g l' r F (promise a s m a.kn) e):=Lib.hid (fun q=>zic q m lo a.kn hm.ok hk hks ht hh hz)
 have HKN:=Lib.hid (zoy a s m)
 obtain ⟨R,HR0⟩ : ∃R,R=prepare a s m lo now:=⟨_,rfl⟩
 have HR:=Lib.hid HR0
 rw [←HR0]
 clear HR0 HB0 hm hs hz ok hnow ht hh hk hks hl hcm
 by_cases h1:m.e < a.e
 ·have HP:Hid (R=(a,s,some (decided a m,loOf a.kn))):=Lib.hid (by rw [HR.out];exact if_pos h1)
  have e1:decide (m.e < a.e)=true:=decide_eq_true h1
  clear h1 HR
  go_enter Tryz.func38,Tryz.ntmps38
  go_upto_region 2 with (first|((with_reducible refine zah HB ?_);clear HB;intro w_ HB)|((with_reducible refine zae (d:=some 4) ?_);(first|refine boxa HB rfl ?_|refine boxt HB rfl rfl ?_|refine box1 HB rfl rfl ?_);clear HB;intro b4 w_ HB;refine Kx.fr ?_)|((with_reducible refine zaa (d:=some 4) ?_);(first|refine ala HB ?_|refine al1 HB ?_);clear HB;intro b4 w_ HB;refine Kx.fr ?_)|((with_reducible refine zae ?_);(first|refine boxa HB rfl ?_|refine boxt HB rfl rfl ?_|refine box1 HB rfl rfl ?_);clear HB;intro b_ w_ HB;refine Kx.fr ?_)|((with_reducible refine zaa ?_);(first|refine ala HB ?_|refine al1 HB ?_);clear HB;intro b_ w_ HB;refine Kx.fr ?_)|((with_reducible refine zab ?_);first|refine Kx.l1 HB rfl rfl ?_|refine Kx.la HB rfl ?_)|((with_reducible refine zac ?_);first|refine l1g HB rfl rfl rfl ?_|refine Kx.lag HB rfl rfl ?_)|((with_reducible refine zad ?_);(first|refine stwa HB rfl rfl ?_|refine sta HB rfl rfl ?_|refine Kx.stc HB rfl rfl ?_|refine Kx.stt HB rfl rfl rfl ?_|refine Kx.st1 HB rfl rfl rfl ?_);clear HB;intro w_ HB))
  refine zau HB (fun i=>false) (by kernel_rfl) ?_
  refine Kx.tk 0 rfl ?_
  first|refine xl1 1 rfl rfl rfl ?_|refine xla 1 rfl rfl ?_
  refine Kx.tk 2 rfl ?_
  refine Kx.tk 3 rfl ?_
  refine Kx.tk 4 rfl ?_
  refine Kx.tk 5 rfl ?_
  first|refine xl1 6 rfl rfl rfl ?_|refine xla 6 rfl rfl ?_
  refine Kx.tk 7 rfl ?_
  refine Kx.tk 8 rfl ?_
  refine zan (by kernel_rfl) ?_
  clear HB
  intro w_ HB_
  have HB:=Lib.hid HB_
  clear HB_
  go_wp2_with (first|(go_at_call 61;fail)|(first|((with_reducible refine zah HB ?_);clear HB;intro w_ HB)|((with_reducible refine zae ?_);(first|refine boxa HB rfl ?_|refine boxt HB rfl rfl ?_|refine box1 HB rfl rfl ?_);clear HB;intro b_ w_ HB;refine Kx.fr ?_)|((with_reducible refine zaa ?_);(first|refine ala HB ?_|refine al1 HB ?_);clear HB;intro b_ w_ HB;refine Kx.fr ?_)|((with_reducible refine zab ?_);first|refine Kx.l1 HB rfl rfl ?_|refine Kx.la HB rfl ?_)|((with_reducible refine zac ?_);first|refine l1g HB rfl rfl rfl ?_|refine Kx.lag HB rfl rfl ?_)|((with_reducible refine zad ?_);(first|refine stwa HB rfl rfl ?_|refine sta HB rfl rfl ?_|refine Kx.stc HB rfl rfl ?_|refine Kx.stt HB rfl rfl rfl ?_|refine Kx.st1 HB rfl rfl rfl ?_);clear HB;intro w_ HB)))
  refine (HDec.out HB.out).mono ?_
  rintro e w3 ⟨b,rfl,hB⟩
  have HJ:=Lib.hid (Jbx.box3 HOk.out hB).zde
  clear HB hB
  go_wp2
  go_ret
  exact Outs.zej HP.out rfl HJ.out
 have e1:decide (m.e < a.e)=false:=decide_eq_false h1
 by_cases h2:a.e < m.e
 ·have e2:decide (a.e < m.e)=true:=decide_eq_true h2
  by_cases h3:MW a m now
  ·have HP:Hid (R=({ a with wi:=if a.wi < m.e then m.e else a.wi,wt:=now },s,none)):=Lib.hid (by rw [HR.out];unfold prepare;rw [if_neg h1,if_pos h2,if_pos h3])
   have HM:Hid (∀ {W:World} {L:List (Nat×List Value)} {r':List Rw} [InL ga (a.cells g) L],Bxs w0 W L r' F→Calls Tryz.prog 62 #[.pointer (some ⟨ga,0,none⟩),.agg (mvs m lo).toArray,.int .i64 now] W fun e w'=>e = .returned (.bool true)∧Below W.heap.size W w'):=Lib.hid (fun q=>(HMW.out q).mono fun e w' k=>zem k true ⟨fun _=>h3,fun _=>rfl⟩)
   clear h1 h2 h3 HR HMW
   go_enter Tryz.func38,Tryz.ntmps38
   go_upto_region 2 with (first|((with_reducible refine zah HB ?_);clear HB;intro w_ HB)|((with_reducible refine zae (d:=some 4) ?_);(first|refine boxa HB rfl ?_|refine boxt HB rfl rfl ?_|refine box1 HB rfl rfl ?_);clear HB;intro b4 w_ HB;refine Kx.fr ?_)|((with_reducible refine zaa (d:=some 4) ?_);(first|refine ala HB ?_|refine al1 HB ?_);clear HB;intro b4 w_ HB;refine Kx.fr ?_)|((with_reducible refine zae ?_);(first|refine boxa HB rfl ?_|refine boxt HB rfl rfl ?_|refine box1 HB rfl rfl ?_);clear HB;intro b_ w_ HB;refine Kx.fr ?_)|((with_reducible refine zaa ?_);(first|refine ala HB ?_|refine al1 HB ?_);clear HB;intro b_ w_ HB;refine Kx.fr ?_)|((with_reducible refine zab ?_);first|refine Kx.l1 HB rfl rfl ?_|refine Kx.la HB rfl ?_)|((with_reducible refine zac ?_);first|refine l1g HB rfl rfl rfl ?_|refine Kx.lag HB rfl rfl ?_)|((with_reducible refine zad ?_);(first|refine stwa HB rfl rfl ?_|refine sta HB rfl rfl ?_|refine Kx.stc HB rfl rfl ?_|refine Kx.stt HB rfl rfl rfl ?_|refine Kx.st1 HB rfl rfl rfl ?_);clear HB;intro w_ HB))
   refine zau HB (fun i=>false) (by kernel_rfl) ?_
   refine Kx.tk 0 rfl ?_
   first|refine xl1 1 rfl rfl rfl ?_|refine xla 1 rfl rfl ?_
   refine Kx.tk 2 rfl ?_
   refine Kx.tk 3 rfl ?_
   refine Kx.tk 4 rfl ?_
   refine Kx.tk 5 rfl ?_
   first|refine xl1 6 rfl rfl rfl ?_|refine xla 6 rfl rfl ?_
   refine Kx.tk 7 rfl ?_
   refine Kx.tk 8 rfl ?_
   refine zan (by kernel_rfl) ?_
   clear HB
   intro w_ HB_
   have HB:=Lib.hid HB_
   clear HB_
   go_upto_region 4 with (first|((with_reducible refine zah HB ?_);clear HB;intro w_ HB)|((with_reducible refine zae ?_);(first|refine boxa HB rfl ?_|refine boxt HB rfl rfl ?_|refine box1 HB rfl rfl ?_);clear HB;intro b_ w_ HB;refine Kx.fr ?_)|((with_reducible refine zaa ?_);(first|refine ala HB ?_|refine al1 HB ?_);clear HB;intro b_ w_ HB;refine Kx.fr ?_)|((with_reducible refine zab ?_);first|refine Kx.l1 HB rfl rfl ?_|refine Kx.la HB rfl ?_)|((with_reducible refine zac ?_);first|refine l1g HB rfl rfl rfl ?_|refine Kx.lag HB rfl rfl ?_)|((with_reducible refine zad ?_);(first|refine stwa HB rfl rfl ?_|refine sta HB rfl rfl ?_|refine Kx.stc HB rfl rfl ?_|refine Kx.stt HB rfl rfl rfl ?_|refine Kx.st1 HB rfl rfl rfl ?_);clear HB;intro w_ HB))
   refine zau HB (fun i=>false) (by kernel_rfl) ?_
   refine Kx.tk 0 rfl ?_
   first|refine xl1 1 rfl rfl rfl ?_|refine xla 1 rfl rfl ?_
   refine Kx.tk 2 rfl ?_
   refine Kx.tk 3 rfl ?_
   refine Kx.tk 4 rfl ?_
   refine Kx.tk 5 rfl ?_
   first|refine xl1 6 rfl rfl rfl ?_|refine xla 6 rfl rfl ?_
   refine Kx.tk 7 rfl ?_
   refine Kx.tk 8 rfl ?_
   refine Kx.tk 9 rfl ?_
   first|refine xl1 10 rfl rfl rfl ?_|refine xla 10 rfl rfl ?_
   refine Kx.tk 11 rfl ?_
   refine zdb (i:=12) (v := ?v12_5) (f := ?g12_5) (args := ?s12_5) (a' := ?a12_5) (by first|exact za7|exact zb7|assumption) rfl (by kernel_rfl) (by kernel_rfl) (by kernel_rfl) (fun _ _ _ h=>h) (by kernel_rfl) ?c12_5 ?w12_5 ?y12_5 ?f12_5 ?r12_5
   case w12_5=>kernel_rfl
   case y12_5=>(intro W hW;go_simp;first|(refine ⟨?_,?_⟩<;>with_reducible rfl)|with_reducible rfl)
   case c12_5=>(intro W hW;refine Calls.mono (HM.out hW) ?_;rintro e w_ ⟨rfl,hb_⟩;refine ⟨?_,by first|exact hb_|exact hb_▸Below.refl _ _⟩;with_reducible rfl)
   case f12_5=>(go_simp;try with_reducible rfl)
   refine Kx.tk 13 rfl ?_
   refine Kx.tk 14 rfl ?_
   refine zan (by kernel_rfl) ?_
   clear HB
   intro w_ HB_
   have HB:=Lib.hid HB_
   clear HB_
   go_upto_region 5 with (first|((with_reducible refine zah HB ?_);clear HB;intro w_ HB)|((with_reducible refine zae ?_);(first|refine boxa HB rfl ?_|refine boxt HB rfl rfl ?_|refine box1 HB rfl rfl ?_);clear HB;intro b_ w_ HB;refine Kx.fr ?_)|((with_reducible refine zaa ?_);(first|refine ala HB ?_|refine al1 HB ?_);clear HB;intro b_ w_ HB;refine Kx.fr ?_)|((with_reducible refine zab ?_);first|refine Kx.l1 HB rfl rfl ?_|refine Kx.la HB rfl ?_)|((with_reducible refine zac ?_);first|refine l1g HB rfl rfl rfl ?_|refine Kx.lag HB rfl rfl ?_)|((with_reducible refine zad ?_);(first|refine stwa HB rfl rfl ?_|refine sta HB rfl rfl ?_|refine Kx.stc HB rfl rfl ?_|refine Kx.stt HB rfl rfl rfl ?_|refine Kx.st1 HB rfl rfl rfl ?_);clear HB;intro w_ HB))
   replace HB:=Lib.hid (HB.out.third)
   have hsub:∀w',Bxs w0 w' ((ga,a.cells g)::(b4,mvs m lo)::(g,jcs s KA KC RA RC)::l) (jrow KA KC s.kept::jrow RA RC s.rest::r) F→∃v u,Bxs w0 w' ((ga,({ a with wi:=v,wt:=u }:Ac).cells g)::(b4,mvs m lo)::(g,jcs s KA KC RA RC)::l) (jrow KA KC s.kept::jrow RA RC s.rest::r) F:=fun w' q=>⟨a.wi,a.wt,q⟩
   refine Kx.zc5 (fun w'=>∃v u,Bxs w0 w' ((ga,({ a with wi:=v,wt:=u }:Ac).cells g)::(b4,mvs m lo)::(g,jcs s KA KC RA RC)::l) (jrow KA KC s.kept::jrow RA RC s.rest::r) F) (fun w'=>Bxs w0 w' ((ga,a.cells g)::(b4,mvs m lo)::(g,jcs s KA KC RA RC)::l) (jrow KA KC s.kept::jrow RA RC s.rest::r) F) (fun i=>false) (by kernel_rfl) HB.out.drew ?_
   refine tkS 0 rfl hsub ?_
   refine tkS 1 rfl hsub ?_
   refine tkS 2 rfl hsub ?_
   refine tkS 3 rfl hsub ?_
   refine tkS 4 rfl hsub ?_
   refine tkS 6 rfl hsub ?_
   refine tkS 7 rfl hsub ?_ (v:=.int .i64 m.e) (hy:=fun w ⟨v,u,hB⟩=>Kx.zbg hB b4 3 rfl (mvs m lo) inferInstance (Tryz.isAgg2 _) rfl)
   refine tkS 9 rfl hsub ?_
   refine lsS 5 rfl hsub ?_ (hy:=fun w hB=>Kx.zbg hB ga 63 rfl _ Kx.InL.head (Tryz.isAgg2 _) rfl)
   refine lsS 8 rfl hsub ?_
   refine lsS 10 rfl hsub ?_
   refine lsS 11 rfl hsub ?_
   refine Kx.st1S 12 rfl rfl rfl rfl (fun w h=>⟨_,_,h⟩) ?_
   refine lsS 13 rfl (fun w h=>⟨_,_,h⟩) ?_
   refine lsS 14 rfl (fun w h=>⟨_,_,h⟩) ?_
   refine Kx.st1S 15 rfl rfl rfl rfl (fun w h=>⟨_,_,h⟩) ?_
   refine zan (by kernel_rfl) ?_
   clear HB
   intro w_ HB_
   have HB:=Lib.hid HB_
   clear HB_
   go_wp2
   all_goals
    go_ret
    exact Outs.zdh HP.out rfl (Jbx.box3 HOk.out HB.out).zde
  ·have HP:Hid (R=promise a s m (mpt m lo)):=Lib.hid (by rw [HR.out];unfold prepare;rw [if_neg h1,if_pos h2,if_neg h3])
   have HM:Hid (∀ {W:World} {L:List (Nat×List Value)} {r':List Rw} [InL ga (a.cells g) L],Bxs w0 W L r' F→Calls Tryz.prog 62 #[.pointer (some ⟨ga,0,none⟩),.agg (mvs m lo).toArray,.int .i64 now] W fun e w'=>e = .returned (.bool false)∧Below W.heap.size W w'):=Lib.hid (fun q=>(HMW.out q).mono fun e w' k=>zem k false ⟨fun q=>(by cases q),fun q=>absurd q h3⟩)
   rw [←HP.out] at HPm
   clear h1 h2 h3 HR HMW HP
   go_enter Tryz.func38,Tryz.ntmps38
   go_upto_region 2 with (first|((with_reducible refine zah HB ?_);clear HB;intro w_ HB)|((with_reducible refine zae (d:=some 4) ?_);(first|refine boxa HB rfl ?_|refine boxt HB rfl rfl ?_|refine box1 HB rfl rfl ?_);clear HB;intro b4 w_ HB;refine Kx.fr ?_)|((with_reducible refine zaa (d:=some 4) ?_);(first|refine ala HB ?_|refine al1 HB ?_);clear HB;intro b4 w_ HB;refine Kx.fr ?_)|((with_reducible refine zae ?_);(first|refine boxa HB rfl ?_|refine boxt HB rfl rfl ?_|refine box1 HB rfl rfl ?_);clear HB;intro b_ w_ HB;refine Kx.fr ?_)|((with_reducible refine zaa ?_);(first|refine ala HB ?_|refine al1 HB ?_);clear HB;intro b_ w_ HB;refine Kx.fr ?_)|((with_reducible refine zab ?_);first|refine Kx.l1 HB rfl rfl ?_|refine Kx.la HB rfl ?_)|((with_reducible refine zac ?_);first|refine l1g HB rfl rfl rfl ?_|refine Kx.lag HB rfl rfl ?_)|((with_reducible refine zad ?_);(first|refine stwa HB rfl rfl ?_|refine sta HB rfl rfl ?_|refine Kx.stc HB rfl rfl ?_|refine Kx.stt HB rfl rfl rfl ?_|refine Kx.st1 HB rfl rfl rfl ?_);clear HB;intro w_ HB))
   refine zau HB (fun i=>false) (by kernel_rfl) ?_
   refine Kx.tk 0 rfl ?_
   first|refine xl1 1 rfl rfl rfl ?_|refine xla 1 rfl rfl ?_
   refine Kx.tk 2 rfl ?_
   refine Kx.tk 3 rfl ?_
   refine Kx.tk 4 rfl ?_
   refine Kx.tk 5 rfl ?_
   first|refine xl1 6 rfl rfl rfl ?_|refine xla 6 rfl rfl ?_
   refine Kx.tk 7 rfl ?_
   refine Kx.tk 8 rfl ?_
   refine zan (by kernel_rfl) ?_
   clear HB
   intro w_ HB_
   have HB:=Lib.hid HB_
   clear HB_
   go_upto_region 4 with (first|((with_reducible refine zah HB ?_);clear HB;intro w_ HB)|((with_reducible refine zae ?_);(first|refine boxa HB rfl ?_|refine boxt HB rfl rfl ?_|refine box1 HB rfl rfl ?_);clear HB;intro b_ w_ HB;refine Kx.fr ?_)|((with_reducible refine zaa ?_);(first|refine ala HB ?_|refine al1 HB ?_);clear HB;intro b_ w_ HB;refine Kx.fr ?_)|((with_reducible refine zab ?_);first|refine Kx.l1 HB rfl rfl ?_|refine Kx.la HB rfl ?_)|((with_reducible refine zac ?_);first|refine l1g HB rfl rfl rfl ?_|refine Kx.lag HB rfl rfl ?_)|((with_reducible refine zad ?_);(first|refine stwa HB rfl rfl ?_|refine sta HB rfl rfl ?_|refine Kx.stc HB rfl rfl ?_|refine Kx.stt HB rfl rfl rfl ?_|refine Kx.st1 HB rfl rfl rfl ?_);clear HB;intro w_ HB))
   refine zau HB (fun i=>false) (by kernel_rfl) ?_
   refine Kx.tk 0 rfl ?_
   first|refine xl1 1 rfl rfl rfl ?_|refine xla 1 rfl rfl ?_
   refine Kx.tk 2 rfl ?_
   refine Kx.tk 3 rfl ?_
   refine Kx.tk 4 rfl ?_
   refine Kx.tk 5 rfl ?_
   first|refine xl1 6 rfl rfl rfl ?_|refine xla 6 rfl rfl ?_
   refine Kx.tk 7 rfl ?_
   refine Kx.tk 8 rfl ?_
   refine Kx.tk 9 rfl ?_
   first|refine xl1 10 rfl rfl rfl ?_|refine xla 10 rfl rfl ?_
   refine Kx.tk 11 rfl ?_
   refine zdb (i:=12) (v := ?v12_6) (f := ?g12_6) (args := ?s12_6) (a' := ?a12_6) (by first|exact za7|exact zb7|assumption) rfl (by kernel_rfl) (by kernel_rfl) (by kernel_rfl) (fun _ _ _ h=>h) (by kernel_rfl) ?c12_6 ?w12_6 ?y12_6 ?f12_6 ?r12_6
   case w12_6=>kernel_rfl
   case y12_6=>(intro W hW;go_simp;first|(refine ⟨?_,?_⟩<;>with_reducible rfl)|with_reducible rfl)
   case c12_6=>(intro W hW;refine Calls.mono (HM.out hW) ?_;rintro e w_ ⟨rfl,hb_⟩;refine ⟨?_,by first|exact hb_|exact hb_▸Below.refl _ _⟩;with_reducible rfl)
   case f12_6=>(go_simp;try with_reducible rfl)
   refine Kx.tk 13 rfl ?_
   refine Kx.tk 14 rfl ?_
   refine zan (by kernel_rfl) ?_
   clear HB
   intro w_ HB_
   have HB:=Lib.hid HB_
   clear HB_
   go_upto_region 7 with (first|((with_reducible refine zah HB ?_);clear HB;intro w_ HB)|((with_reducible refine zae ?_);(first|refine boxa HB rfl ?_|refine boxt HB rfl rfl ?_|refine box1 HB rfl rfl ?_);clear HB;intro b_ w_ HB;refine Kx.fr ?_)|((with_reducible refine zaa ?_);(first|refine ala HB ?_|refine al1 HB ?_);clear HB;intro b_ w_ HB;refine Kx.fr ?_)|((with_reducible refine zab ?_);first|refine Kx.l1 HB rfl rfl ?_|refine Kx.la HB rfl ?_)|((with_reducible refine zac ?_);first|refine l1g HB rfl rfl rfl ?_|refine Kx.lag HB rfl rfl ?_)|((with_reducible refine zad ?_);(first|refine stwa HB rfl rfl ?_|refine sta HB rfl rfl ?_|refine Kx.stc HB rfl rfl ?_|refine Kx.stt HB rfl rfl rfl ?_|refine Kx.st1 HB rfl rfl rfl ?_);clear HB;intro w_ HB))
   refine zau HB (fun i=>false) (by kernel_rfl) ?_
   refine Kx.tk 0 rfl ?_
   first|refine xl1 1 rfl rfl rfl ?_|refine xla 1 rfl rfl ?_
   refine Kx.tk 2 rfl ?_
   refine Kx.tk 3 rfl ?_
   refine Kx.tk 4 rfl ?_
   refine Kx.tk 5 rfl ?_
   first|refine xl1 6 rfl rfl rfl ?_|refine xla 6 rfl rfl ?_
   refine Kx.tk 7 rfl ?_
   refine Kx.tk 8 rfl ?_
   refine zan (by kernel_rfl) ?_
   clear HB
   intro w_ HB_
   have HB:=Lib.hid HB_
   clear HB_
   go_wp2_with (first|(go_at_call 63;fail)|(first|((with_reducible refine zah HB ?_);clear HB;intro w_ HB)|((with_reducible refine zae ?_);(first|refine boxa HB rfl ?_|refine boxt HB rfl rfl ?_|refine box1 HB rfl rfl ?_);clear HB;intro b_ w_ HB;refine Kx.fr ?_)|((with_reducible refine zaa ?_);(first|refine ala HB ?_|refine al1 HB ?_);clear HB;intro b_ w_ HB;refine Kx.fr ?_)|((with_reducible refine zab ?_);first|refine Kx.l1 HB rfl rfl ?_|refine Kx.la HB rfl ?_)|((with_reducible refine zac ?_);first|refine l1g HB rfl rfl rfl ?_|refine Kx.lag HB rfl rfl ?_)|((with_reducible refine zad ?_);(first|refine stwa HB rfl rfl ?_|refine sta HB rfl rfl ?_|refine Kx.stc HB rfl rfl ?_|refine Kx.stt HB rfl rfl rfl ?_|refine Kx.st1 HB rfl rfl rfl ?_);clear HB;intro w_ HB)))
   refine (HPm.out (Jbx.box HOk.out HB.out).swap).mono ?_
   rintro e w2 HO
   clear HB HPm HPk HDec HNa HM
   obtain ⟨a1,s1,o1⟩:=R
   cases o1 with
   | none =>
     obtain ⟨rfl,HJ⟩:=HO
     have HJ:=Lib.hid HJ
     go_wp2
     go_ret
     exact Outs.zdh rfl rfl HJ.out.zde
   | some q =>
     obtain ⟨b,rfl,HJ⟩:=HO
     have HJ:=Lib.hid HJ
     go_wp2
     go_ret
     exact Outs.zej rfl rfl HJ.out.third.tail
 have e2:decide (a.e < m.e)=false:=decide_eq_false h2
 by_cases h4:m.b≤a.pr
 ·have HP:Hid (R=(a,s,some (zg8 a m,Lo.zero))):=Lib.hid (by rw [HR.out];unfold prepare;rw [if_neg h1,if_neg h2,if_pos h4])
  have e4:decide (m.b≤a.pr)=true:=decide_eq_true h4
  clear h1 h2 h4 HR
  go_enter Tryz.func38,Tryz.ntmps38
  go_upto_region 2 with (first|((with_reducible refine zah HB ?_);clear HB;intro w_ HB)|((with_reducible refine zae (d:=some 4) ?_);(first|refine boxa HB rfl ?_|refine boxt HB rfl rfl ?_|refine box1 HB rfl rfl ?_);clear HB;intro b4 w_ HB;refine Kx.fr ?_)|((with_reducible refine zaa (d:=some 4) ?_);(first|refine ala HB ?_|refine al1 HB ?_);clear HB;intro b4 w_ HB;refine Kx.fr ?_)|((with_reducible refine zae ?_);(first|refine boxa HB rfl ?_|refine boxt HB rfl rfl ?_|refine box1 HB rfl rfl ?_);clear HB;intro b_ w_ HB;refine Kx.fr ?_)|((with_reducible refine zaa ?_);(first|refine ala HB ?_|refine al1 HB ?_);clear HB;intro b_ w_ HB;refine Kx.fr ?_)|((with_reducible refine zab ?_);first|refine Kx.l1 HB rfl rfl ?_|refine Kx.la HB rfl ?_)|((with_reducible refine zac ?_);first|refine l1g HB rfl rfl rfl ?_|refine Kx.lag HB rfl rfl ?_)|((with_reducible refine zad ?_);(first|refine stwa HB rfl rfl ?_|refine sta HB rfl rfl ?_|refine Kx.stc HB rfl rfl ?_|refine Kx.stt HB rfl rfl rfl ?_|refine Kx.st1 HB rfl rfl rfl ?_);clear HB;intro w_ HB))
  refine zau HB (fun i=>false) (by kernel_rfl) ?_
  refine Kx.tk 0 rfl ?_
  first|refine xl1 1 rfl rfl rfl ?_|refine xla 1 rfl rfl ?_
  refine Kx.tk 2 rfl ?_
  refine Kx.tk 3 rfl ?_
  refine Kx.tk 4 rfl ?_
  refine Kx.tk 5 rfl ?_
  first|refine xl1 6 rfl rfl rfl ?_|refine xla 6 rfl rfl ?_
  refine Kx.tk 7 rfl ?_
  refine Kx.tk 8 rfl ?_
  refine zan (by kernel_rfl) ?_
  clear HB
  intro w_ HB_
  have HB:=Lib.hid HB_
  clear HB_
  go_upto_region 4 with (first|((with_reducible refine zah HB ?_);clear HB;intro w_ HB)|((with_reducible refine zae ?_);(first|refine boxa HB rfl ?_|refine boxt HB rfl rfl ?_|refine box1 HB rfl rfl ?_);clear HB;intro b_ w_ HB;refine Kx.fr ?_)|((with_reducible refine zaa ?_);(first|refine ala HB ?_|refine al1 HB ?_);clear HB;intro b_ w_ HB;refine Kx.fr ?_)|((with_reducible refine zab ?_);first|refine Kx.l1 HB rfl rfl ?_|refine Kx.la HB rfl ?_)|((with_reducible refine zac ?_);first|refine l1g HB rfl rfl rfl ?_|refine Kx.lag HB rfl rfl ?_)|((with_reducible refine zad ?_);(first|refine stwa HB rfl rfl ?_|refine sta HB rfl rfl ?_|refine Kx.stc HB rfl rfl ?_|refine Kx.stt HB rfl rfl rfl ?_|refine Kx.st1 HB rfl rfl rfl ?_);clear HB;intro w_ HB))
  refine zau HB (fun i=>false) (by kernel_rfl) ?_
  refine Kx.tk 0 rfl ?_
  first|refine xl1 1 rfl rfl rfl ?_|refine xla 1 rfl rfl ?_
  refine Kx.tk 2 rfl ?_
  refine Kx.tk 3 rfl ?_
  refine Kx.tk 4 rfl ?_
  refine Kx.tk 5 rfl ?_
  first|refine xl1 6 rfl rfl rfl ?_|refine xla 6 rfl rfl ?_
  refine Kx.tk 7 rfl ?_
  refine Kx.tk 8 rfl ?_
  refine Kx.sk 9 rfl ?_
  refine Kx.sk 10 rfl ?_
  refine Kx.sk 11 rfl ?_
  refine Kx.sk 12 rfl ?_
  refine Kx.tk 13 rfl ?_
  refine Kx.tk 14 rfl ?_
  refine zan (by kernel_rfl) ?_
  clear HB
  intro w_ HB_
  have HB:=Lib.hid HB_
  clear HB_
  go_upto_region 7 with (first|((with_reducible refine zah HB ?_);clear HB;intro w_ HB)|((with_reducible refine zae ?_);(first|refine boxa HB rfl ?_|refine boxt HB rfl rfl ?_|refine box1 HB rfl rfl ?_);clear HB;intro b_ w_ HB;refine Kx.fr ?_)|((with_reducible refine zaa ?_);(first|refine ala HB ?_|refine al1 HB ?_);clear HB;intro b_ w_ HB;refine Kx.fr ?_)|((with_reducible refine zab ?_);first|refine Kx.l1 HB rfl rfl ?_|refine Kx.la HB rfl ?_)|((with_reducible refine zac ?_);first|refine l1g HB rfl rfl rfl ?_|refine Kx.lag HB rfl rfl ?_)|((with_reducible refine zad ?_);(first|refine stwa HB rfl rfl ?_|refine sta HB rfl rfl ?_|refine Kx.stc HB rfl rfl ?_|refine Kx.stt HB rfl rfl rfl ?_|refine Kx.st1 HB rfl rfl rfl ?_);clear HB;intro w_ HB))
  refine zau HB (fun i=>false) (by kernel_rfl) ?_
  refine Kx.tk 0 rfl ?_
  first|refine xl1 1 rfl rfl rfl ?_|refine xla 1 rfl rfl ?_
  refine Kx.tk 2 rfl ?_
  refine Kx.tk 3 rfl ?_
  refine Kx.tk 4 rfl ?_
  refine Kx.tk 5 rfl ?_
  first|refine xl1 6 rfl rfl rfl ?_|refine xla 6 rfl rfl ?_
  refine Kx.tk 7 rfl ?_
  refine Kx.tk 8 rfl ?_
  refine zan (by kernel_rfl) ?_
  clear HB
  intro w_ HB_
  have HB:=Lib.hid HB_
  clear HB_
  go_upto_region 9 with (first|((with_reducible refine zah HB ?_);clear HB;intro w_ HB)|((with_reducible refine zae ?_);(first|refine boxa HB rfl ?_|refine boxt HB rfl rfl ?_|refine box1 HB rfl rfl ?_);clear HB;intro b_ w_ HB;refine Kx.fr ?_)|((with_reducible refine zaa ?_);(first|refine ala HB ?_|refine al1 HB ?_);clear HB;intro b_ w_ HB;refine Kx.fr ?_)|((with_reducible refine zab ?_);first|refine Kx.l1 HB rfl rfl ?_|refine Kx.la HB rfl ?_)|((with_reducible refine zac ?_);first|refine l1g HB rfl rfl rfl ?_|refine Kx.lag HB rfl rfl ?_)|((with_reducible refine zad ?_);(first|refine stwa HB rfl rfl ?_|refine sta HB rfl rfl ?_|refine Kx.stc HB rfl rfl ?_|refine Kx.stt HB rfl rfl rfl ?_|refine Kx.st1 HB rfl rfl rfl ?_);clear HB;intro w_ HB))
  refine zau HB (fun i=>false) (by kernel_rfl) ?_
  refine Kx.tk 0 rfl ?_
  first|refine xl1 1 rfl rfl rfl ?_|refine xla 1 rfl rfl ?_
  refine Kx.tk 2 rfl ?_
  refine Kx.tk 3 rfl ?_
  refine Kx.tk 4 rfl ?_
  refine Kx.tk 5 rfl ?_
  first|refine xl1 6 rfl rfl rfl ?_|refine xla 6 rfl rfl ?_
  refine Kx.tk 7 rfl ?_
  refine Kx.tk 8 rfl ?_
  refine zan (by kernel_rfl) ?_
  clear HB
  intro w_ HB_
  have HB:=Lib.hid HB_
  clear HB_
  go_wp2_with (first|(go_at_call 64;fail)|(first|((with_reducible refine zah HB ?_);clear HB;intro w_ HB)|((with_reducible refine zae ?_);(first|refine boxa HB rfl ?_|refine boxt HB rfl rfl ?_|refine box1 HB rfl rfl ?_);clear HB;intro b_ w_ HB;refine Kx.fr ?_)|((with_reducible refine zaa ?_);(first|refine ala HB ?_|refine al1 HB ?_);clear HB;intro b_ w_ HB;refine Kx.fr ?_)|((with_reducible refine zab ?_);first|refine Kx.l1 HB rfl rfl ?_|refine Kx.la HB rfl ?_)|((with_reducible refine zac ?_);first|refine l1g HB rfl rfl rfl ?_|refine Kx.lag HB rfl rfl ?_)|((with_reducible refine zad ?_);(first|refine stwa HB rfl rfl ?_|refine sta HB rfl rfl ?_|refine Kx.stc HB rfl rfl ?_|refine Kx.stt HB rfl rfl rfl ?_|refine Kx.st1 HB rfl rfl rfl ?_);clear HB;intro w_ HB)))
  refine (HNa.out HB.out).mono ?_
  rintro e w3 ⟨b,rfl,hB⟩
  have HJ:=Lib.hid (Jbx.box3 HOk.out hB).zde
  clear HB hB
  go_wp2
  go_ret
  exact Outs.zej HP.out rfl HJ.out
 ·have HP:Hid (R=promise a s m a.kn):=Lib.hid (by rw [HR.out];unfold prepare;rw [if_neg h1,if_neg h2,if_neg h4])
  rw [←HP.out] at HPk HKN
  have e4:decide (m.b≤a.pr)=false:=decide_eq_false h4
  clear h1 h2 h4 HR HP
  go_enter Tryz.func38,Tryz.ntmps38
  go_upto_region 2 with (first|((with_reducible refine zah HB ?_);clear HB;intro w_ HB)|((with_reducible refine zae (d:=some 4) ?_);(first|refine boxa HB rfl ?_|refine boxt HB rfl rfl ?_|refine box1 HB rfl rfl ?_);clear HB;intro b4 w_ HB;refine Kx.fr ?_)|((with_reducible refine zaa (d:=some 4) ?_);(first|refine ala HB ?_|refine al1 HB ?_);clear HB;intro b4 w_ HB;refine Kx.fr ?_)|((with_reducible refine zae ?_);(first|refine boxa HB rfl ?_|refine boxt HB rfl rfl ?_|refine box1 HB rfl rfl ?_);clear HB;intro b_ w_ HB;refine Kx.fr ?_)|((with_reducible refine zaa ?_);(first|refine ala HB ?_|refine al1 HB ?_);clear HB;intro b_ w_ HB;refine Kx.fr ?_)|((with_reducible refine zab ?_);first|refine Kx.l1 HB rfl rfl ?_|refine Kx.la HB rfl ?_)|((with_reducible refine zac ?_);first|refine l1g HB rfl rfl rfl ?_|refine Kx.lag HB rfl rfl ?_)|((with_reducible refine zad ?_);(first|refine stwa HB rfl rfl ?_|refine sta HB rfl rfl ?_|refine Kx.stc HB rfl rfl ?_|refine Kx.stt HB rfl rfl rfl ?_|refine Kx.st1 HB rfl rfl rfl ?_);clear HB;intro w_ HB))
  refine zau HB (fun i=>false) (by kernel_rfl) ?_
  refine Kx.tk 0 rfl ?_
  first|refine xl1 1 rfl rfl rfl ?_|refine xla 1 rfl rfl ?_
  refine Kx.tk 2 rfl ?_
  refine Kx.tk 3 rfl ?_
  refine Kx.tk 4 rfl ?_
  refine Kx.tk 5 rfl ?_
  first|refine xl1 6 rfl rfl rfl ?_|refine xla 6 rfl rfl ?_
  refine Kx.tk 7 rfl ?_
  refine Kx.tk 8 rfl ?_
  refine zan (by kernel_rfl) ?_
  clear HB
  intro w_ HB_
  have HB:=Lib.hid HB_
  clear HB_
  go_upto_region 4 with (first|((with_reducible refine zah HB ?_);clear HB;intro w_ HB)|((with_reducible refine zae ?_);(first|refine boxa HB rfl ?_|refine boxt HB rfl rfl ?_|refine box1 HB rfl rfl ?_);clear HB;intro b_ w_ HB;refine Kx.fr ?_)|((with_reducible refine zaa ?_);(first|refine ala HB ?_|refine al1 HB ?_);clear HB;intro b_ w_ HB;refine Kx.fr ?_)|((with_reducible refine zab ?_);first|refine Kx.l1 HB rfl rfl ?_|refine Kx.la HB rfl ?_)|((with_reducible refine zac ?_);first|refine l1g HB rfl rfl rfl ?_|refine Kx.lag HB rfl rfl ?_)|((with_reducible refine zad ?_);(first|refine stwa HB rfl rfl ?_|refine sta HB rfl rfl ?_|refine Kx.stc HB rfl rfl ?_|refine Kx.stt HB rfl rfl rfl ?_|refine Kx.st1 HB rfl rfl rfl ?_);clear HB;intro w_ HB))
  refine zau HB (fun i=>false) (by kernel_rfl) ?_
  refine Kx.tk 0 rfl ?_
  first|refine xl1 1 rfl rfl rfl ?_|refine xla 1 rfl rfl ?_
  refine Kx.tk 2 rfl ?_
  refine Kx.tk 3 rfl ?_
  refine Kx.tk 4 rfl ?_
  refine Kx.tk 5 rfl ?_
  first|refine xl1 6 rfl rfl rfl ?_|refine xla 6 rfl rfl ?_
  refine Kx.tk 7 rfl ?_
  refine Kx.tk 8 rfl ?_
  refine Kx.sk 9 rfl ?_
  refine Kx.sk 10 rfl ?_
  refine Kx.sk 11 rfl ?_
  refine Kx.sk 12 rfl ?_
  refine Kx.tk 13 rfl ?_
  refine Kx.tk 14 rfl ?_
  refine zan (by kernel_rfl) ?_
  clear HB
  intro w_ HB_
  have HB:=Lib.hid HB_
  clear HB_
  go_upto_region 7 with (first|((with_reducible refine zah HB ?_);clear HB;intro w_ HB)|((with_reducible refine zae ?_);(first|refine boxa HB rfl ?_|refine boxt HB rfl rfl ?_|refine box1 HB rfl rfl ?_);clear HB;intro b_ w_ HB;refine Kx.fr ?_)|((with_reducible refine zaa ?_);(first|refine ala HB ?_|refine al1 HB ?_);clear HB;intro b_ w_ HB;refine Kx.fr ?_)|((with_reducible refine zab ?_);first|refine Kx.l1 HB rfl rfl ?_|refine Kx.la HB rfl ?_)|((with_reducible refine zac ?_);first|refine l1g HB rfl rfl rfl ?_|refine Kx.lag HB rfl rfl ?_)|((with_reducible refine zad ?_);(first|refine stwa HB rfl rfl ?_|refine sta HB rfl rfl ?_|refine Kx.stc HB rfl rfl ?_|refine Kx.stt HB rfl rfl rfl ?_|refine Kx.st1 HB rfl rfl rfl ?_);clear HB;intro w_ HB))
  refine zau HB (fun i=>false) (by kernel_rfl) ?_
  refine Kx.tk 0 rfl ?_
  first|refine xl1 1 rfl rfl rfl ?_|refine xla 1 rfl rfl ?_
  refine Kx.tk 2 rfl ?_
  refine Kx.tk 3 rfl ?_
  refine Kx.tk 4 rfl ?_
  refine Kx.tk 5 rfl ?_
  first|refine xl1 6 rfl rfl rfl ?_|refine xla 6 rfl rfl ?_
  refine Kx.tk 7 rfl ?_
  refine Kx.tk 8 rfl ?_
  refine zan (by kernel_rfl) ?_
  clear HB
  intro w_ HB_
  have HB:=Lib.hid HB_
  clear HB_
  go_upto_region 9 with (first|((with_reducible refine zah HB ?_);clear HB;intro w_ HB)|((with_reducible refine zae ?_);(first|refine boxa HB rfl ?_|refine boxt HB rfl rfl ?_|refine box1 HB rfl rfl ?_);clear HB;intro b_ w_ HB;refine Kx.fr ?_)|((with_reducible refine zaa ?_);(first|refine ala HB ?_|refine al1 HB ?_);clear HB;intro b_ w_ HB;refine Kx.fr ?_)|((with_reducible refine zab ?_);first|refine Kx.l1 HB rfl rfl ?_|refine Kx.la HB rfl ?_)|((with_reducible refine zac ?_);first|refine l1g HB rfl rfl rfl ?_|refine Kx.lag HB rfl rfl ?_)|((with_reducible refine zad ?_);(first|refine stwa HB rfl rfl ?_|refine sta HB rfl rfl ?_|refine Kx.stc HB rfl rfl ?_|refine Kx.stt HB rfl rfl rfl ?_|refine Kx.st1 HB rfl rfl rfl ?_);clear HB;intro w_ HB))
  refine zau HB (fun i=>false) (by kernel_rfl) ?_
  refine Kx.tk 0 rfl ?_
  first|refine xl1 1 rfl rfl rfl ?_|refine xla 1 rfl rfl ?_
  refine Kx.tk 2 rfl ?_
  refine Kx.tk 3 rfl ?_
  refine Kx.tk 4 rfl ?_
  refine Kx.tk 5 rfl ?_
  first|refine xl1 6 rfl rfl rfl ?_|refine xla 6 rfl rfl ?_
  refine Kx.tk 7 rfl ?_
  refine Kx.tk 8 rfl ?_
  refine zan (by kernel_rfl) ?_
  clear HB
  intro w_ HB_
  have HB:=Lib.hid HB_
  clear HB_
  go_upto_region 1 with (first|((with_reducible refine zah HB ?_);clear HB;intro w_ HB)|((with_reducible refine zae ?_);(first|refine boxa HB rfl ?_|refine boxt HB rfl rfl ?_|refine box1 HB rfl rfl ?_);clear HB;intro b_ w_ HB;refine Kx.fr ?_)|((with_reducible refine zaa ?_);(first|refine ala HB ?_|refine al1 HB ?_);clear HB;intro b_ w_ HB;refine Kx.fr ?_)|((with_reducible refine zab ?_);first|refine Kx.l1 HB rfl rfl ?_|refine Kx.la HB rfl ?_)|((with_reducible refine zac ?_);first|refine l1g HB rfl rfl rfl ?_|refine Kx.lag HB rfl rfl ?_)|((with_reducible refine zad ?_);(first|refine stwa HB rfl rfl ?_|refine sta HB rfl rfl ?_|refine Kx.stc HB rfl rfl ?_|refine Kx.stt HB rfl rfl rfl ?_|refine Kx.st1 HB rfl rfl rfl ?_);clear HB;intro w_ HB))
  have hbe:zdc (fun w'=>Jbx w0 w' g s ((b4,mvs m lo)::(ga,a.cells g)::l) r F):=Jbx.bears
  have hsub:∀w',Jbx w0 w' g s ((b4,mvs m lo)::(ga,a.cells g)::l) r F→∃(s':Jm.St) (a':Ac),a'.kn=a.kn∧Jbx w0 w' g s' ((b4,mvs m lo)::(ga,a'.cells g)::l) r F:=fun w' q=>⟨s,a,rfl,q⟩
  refine Kx.zc5 (fun w'=>∃(s':Jm.St) (a':Ac),a'.kn=a.kn∧Jbx w0 w' g s' ((b4,mvs m lo)::(ga,a'.cells g)::l) r F) (fun w'=>Jbx w0 w' g s ((b4,mvs m lo)::(ga,a.cells g)::l) r F) (fun i=>false) (by kernel_rfl) (Jbx.box HOk.out HB.out.drew) ?_
  refine tkS 0 rfl hsub ?_
  refine tkS 1 rfl hsub ?_ (v:=.agg (mvs m lo).toArray) (hy:=fun w ⟨s',a',_,ok,KA,KC,RA,RC,hB⟩=>Kx.zch hB b4 0 rfl (mvs m lo) inferInstance 26 (Tryz.isAgg37 _) (Tryz.sizeOf37 _) (mvs m lo) (Kx.whole rfl) rfl rfl)
  refine tkS 2 rfl hsub ?_
  refine tkS 3 rfl hsub ?_
  refine tkS 4 rfl hsub ?_
  refine tkS 5 rfl hsub ?_
  refine tkS 6 rfl hsub ?_ (v:=.agg a.kn.cells.toArray) (hy:=fun w ⟨s',a',ek,ok,KA,KC,RA,RC,hB⟩=>ek▸Kx.zch hB ga 33 rfl (a'.cells g) inferInstance 12 (Tryz.isAgg34 _) (Tryz.sizeOf34 _) a'.kn.cells rfl rfl rfl)
  clear HB HDec HNa HMW HPm
  obtain ⟨a1,s1,o1⟩:=R
  dsimp only at HKN
  cases o1 with
  | none =>
    have hbe2:zdc (fun w'=>Jbx w0 w' g s1 ((ga,a1.cells g)::(b4,mvs m lo)::l) r F):=Jbx.bears
    refine Kx.zfn (ι:=Unit) 7 (fun _ => .slice none 0 0) (fun _ w'=>Jbx w0 w' g s1 ((ga,a1.cells g)::(b4,mvs m lo)::l) r F) () rfl (fun _=>hbe2) (fun _ w' q=>⟨_,_,HKN.out,q.swap⟩) ?e (fun w hw=>(HPk.out hw.swap).mono fun e w' q=>⟨(),q⟩) ?h
    case e=>(intro w hw;go_simp;try (first|(refine ⟨?_,?_⟩<;>with_reducible rfl)|with_reducible rfl))
    intro y_
    refine lsS 8 rfl (fun w q=>⟨_,_,HKN.out,q.swap⟩) ?_
    refine zan (by kernel_rfl) ?_
    intro w_ HJ_
    have HJ:=Lib.hid HJ_
    clear HJ_
    go_wp2
    go_ret
    exact Outs.zdh rfl rfl HJ.out.zde
  | some q =>
    have hbe2:∀b,zdc (fun w'=>Jbx w0 w' g s1 ((b,mvs q.1 q.2)::(ga,a1.cells g)::(b4,mvs m lo)::l) r F):=fun _=>Jbx.bears
    refine Kx.zfn (ι:=Nat) 7 (fun b => .slice (some ⟨b,0,none⟩) 1 1) (fun b w'=>Jbx w0 w' g s1 ((b,mvs q.1 q.2)::(ga,a1.cells g)::(b4,mvs m lo)::l) r F) 0 rfl hbe2 (fun _ w' q=>⟨_,_,HKN.out,q.tail.swap⟩) ?e2 (fun w hw=>HPk.out hw.swap) ?h2
    case e2=>(intro w hw;go_simp;try (first|(refine ⟨?_,?_⟩<;>with_reducible rfl)|with_reducible rfl))
    intro y_
    have hbe3:=hbe2 y_
    refine lsS 8 rfl (fun w q=>⟨_,_,HKN.out,q.tail.swap⟩) ?_
    refine zan (by kernel_rfl) ?_
    intro w_ HJ_
    have HJ:=Lib.hid HJ_
    clear HJ_
    go_wp2
    go_ret
    exact Outs.zej rfl rfl HJ.out.third.tail
end
end Go.Proofs.YtponpgcpmlcdpaaGreatDoor
