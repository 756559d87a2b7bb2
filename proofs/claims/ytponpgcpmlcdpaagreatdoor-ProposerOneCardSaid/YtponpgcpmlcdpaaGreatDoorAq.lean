import Derived.Test.YtponpgcpmlcdpaaGreatDoorAp
namespace Go.Proofs.YtponpgcpmlcdpaaGreatDoor
open Go.RowKit Go.Shelf Km Kx Kc Kt
set_option linter.unusedVariables false
set_option linter.unusedSimpArgs false
section
variable {w0 w:World} {ga g:Nat} {a:Ac} {s:Jm.St} {l L:List (Nat×List Value)} {r:List Rw} {F:Fz}
set_option maxRecDepth 100000 in
set_option maxHeartbeats 4000000 in
theorem zpj (h : Jbx w0 w g s ((ga, a.cells g) :: l) r F) (m : Mm.Ms) (lo : Lo) (now : Int) (hm : MsOk m lo) (hs : Within (mpt m lo).fz F) (ht : Tab w0) (hh : HTab w0) (hz : Jm.size s ≤ 16000000) (hnow : 0 ≤ now ∧ now ≤ 1099511627776) (hst : 0 ≤ m.plan.st ∧ m.plan.st ≤ 1099511627776) :
  Calls Tryz.prog 39 #[.pointer (some ⟨ga,0,none⟩),.agg (mvs m lo).toArray,.int .i64 now] w fun e w'=>Outs w0 w' ga g l r F (accept a s m lo now) e:=by
 obtain ⟨ok,KA,KC,RA,RC,HB0⟩:=h
 have HB:=Lib.hid HB0
 have HOk:=Lib.hid ok
 have HDec:Hid (∀ {W:World} {L:List (Nat×List Value)} {r':List Rw} [InL ga (a.cells g) L],Bxs w0 W L r' F→Calls Tryz.prog 61 #[.pointer (some ⟨ga,0,none⟩),.agg (mvs m lo).toArray] W fun e w'=>Ans1 w0 w' L r' F (decided a m) (loOf a.kn) e):=Lib.hid (fun q=>zhc q m lo)
 have HNa:Hid (∀ {W:World} {L:List (Nat×List Value)} {r':List Rw} [InL ga (a.cells g) L],Bxs w0 W L r' F→Calls Tryz.prog 64 #[.pointer (some ⟨ga,0,none⟩),.agg (mvs m lo).toArray] W fun e w'=>Ans1 w0 w' L r' F (zg8 a m) Lo.zero e):=Lib.hid (fun q=>zn1 q m lo)
 have HRm : Hid (∀ {W : World} {l'}, Jbx w0 W g s ((ga, a.cells g) :: l') r F → Calls Tryz.prog 65 #[.pointer (some ⟨ga, 0, none⟩), .agg (mvs (racc m) (loOf (mpt m lo))).toArray] W fun e w' =>
   e = .returned (.bool (keep s (racc m)).2)∧Jbx w0 w' g (keep s (racc m)).1 ((ga,(a.wrote s (racc m) (mpt m lo)).cells g)::l') r F):=Lib.hid (fun q=>zg7 q (racc m) (loOf (mpt m lo)) (zqx hm.pt ⟨by decide,by decide⟩ hm.ok.e hm.ok.b I0 I0 I0) (mk_in hs) ht hh hz)
 have HX:Hid (Tryz.prog.built 37 [(0,.int .i64 8),(3,.int .i64 m.e),(4,.int .i64 m.b),(10,.bool true),(11,.agg (mpt m lo).cells.toArray)]=some (mvs (racc m) (loOf (mpt m lo))).toArray):=Lib.hid (zox m.e m.b (mpt m lo))
 have HX2:=Lib.hid (zpk m.e m.b)
 obtain ⟨d,hd⟩ : ∃d,d=m.plan.st - now:=⟨_,rfl⟩
 have hw1:IntKind.i64.wrap (m.plan.st - now)=d:=(IntWalk.i64_in _ (by omega)).trans hd.symm
 have hw2:wrap64 (m.plan.st - now)=d:=(IntWalk.wrap64_in _ (by omega)).trans hd.symm
 replace hd:=Lib.hid hd
 obtain ⟨R,HR0⟩ : ∃R,R=accept a s m lo now:=⟨_,rfl⟩
 have HR:=Lib.hid HR0
 rw [←HR0]
 clear HR0 HB0 hm hs hz ok hnow hst ht hh
 by_cases h1:a.e < m.e
 ·have HP:Hid (R=(a,s,none)):=Lib.hid (by rw [HR.out];exact if_pos h1)
  have e1:decide (a.e < m.e)=true:=decide_eq_true h1
  clear h1
  go_enter Tryz.func39,Tryz.ntmps39
  go_upto_region 1 with (first|((with_reducible refine zah HB ?_);clear HB;intro w_ HB)|((with_reducible refine zae ?_);(first|refine boxa HB rfl ?_|refine boxt HB rfl rfl ?_|refine box1 HB rfl rfl ?_);clear HB;intro b_ w_ HB;refine Kx.fr ?_)|((with_reducible refine zaa ?_);(first|refine ala HB ?_|refine al1 HB ?_);clear HB;intro b_ w_ HB;refine Kx.fr ?_)|((with_reducible refine zab ?_);first|refine Kx.l1 HB rfl rfl ?_|refine Kx.la HB rfl ?_)|((with_reducible refine zac ?_);first|refine l1g HB rfl rfl rfl ?_|refine Kx.lag HB rfl rfl ?_)|((with_reducible refine zad ?_);(first|refine stwa HB rfl rfl ?_|refine sta HB rfl rfl ?_|refine Kx.stc HB rfl rfl ?_|refine Kx.stt HB rfl rfl rfl ?_|refine Kx.st1 HB rfl rfl rfl ?_);clear HB;intro w_ HB))
  refine zau HB (fun i=>false) (by kernel_rfl) ?_
  refine Kx.tk 0 rfl ?_
  first|refine xl1 1 rfl rfl rfl ?_|refine xla 1 rfl rfl ?_
  refine Kx.tk 2 rfl ?_
  refine Kx.tk 3 rfl ?_
  refine Kx.tk 4 rfl ?_
  refine Kx.tk 5 rfl ?_
  first|refine xl1 6 rfl rfl rfl ?_|refine xla 6 rfl rfl ?_
  refine Kx.tk 7 rfl ?_
  refine Kx.tk 8 rfl ?_
  refine zan (by kernel_rfl) ?_
  clear HB
  intro w_ HB_
  have HB:=Lib.hid HB_
  clear HB_
  go_wp2
  go_ret
  exact Outs.zdh HP.out rfl (Jbx.box HOk.out HB.out).tail
 have e1:decide (a.e < m.e)=false:=decide_eq_false h1
 by_cases h2:m.e < a.e
 ·have HP:Hid (R=(a,s,some (decided a m,loOf a.kn))):=Lib.hid (by rw [HR.out];unfold accept;rw [if_neg h1,if_pos h2])
  have e2:decide (m.e < a.e)=true:=decide_eq_true h2
  clear h1 h2
  go_enter Tryz.func39,Tryz.ntmps39
  go_upto_region 1 with (first|((with_reducible refine zah HB ?_);clear HB;intro w_ HB)|((with_reducible refine zae ?_);(first|refine boxa HB rfl ?_|refine boxt HB rfl rfl ?_|refine box1 HB rfl rfl ?_);clear HB;intro b_ w_ HB;refine Kx.fr ?_)|((with_reducible refine zaa ?_);(first|refine ala HB ?_|refine al1 HB ?_);clear HB;intro b_ w_ HB;refine Kx.fr ?_)|((with_reducible refine zab ?_);first|refine Kx.l1 HB rfl rfl ?_|refine Kx.la HB rfl ?_)|((with_reducible refine zac ?_);first|refine l1g HB rfl rfl rfl ?_|refine Kx.lag HB rfl rfl ?_)|((with_reducible refine zad ?_);(first|refine stwa HB rfl rfl ?_|refine sta HB rfl rfl ?_|refine Kx.stc HB rfl rfl ?_|refine Kx.stt HB rfl rfl rfl ?_|refine Kx.st1 HB rfl rfl rfl ?_);clear HB;intro w_ HB))
  refine zau HB (fun i=>false) (by kernel_rfl) ?_
  refine Kx.tk 0 rfl ?_
  first|refine xl1 1 rfl rfl rfl ?_|refine xla 1 rfl rfl ?_
  refine Kx.tk 2 rfl ?_
  refine Kx.tk 3 rfl ?_
  refine Kx.tk 4 rfl ?_
  refine Kx.tk 5 rfl ?_
  first|refine xl1 6 rfl rfl rfl ?_|refine xla 6 rfl rfl ?_
  refine Kx.tk 7 rfl ?_
  refine Kx.tk 8 rfl ?_
  refine zan (by kernel_rfl) ?_
  clear HB
  intro w_ HB_
  have HB:=Lib.hid HB_
  clear HB_
  go_upto_region 3 with (first|((with_reducible refine zah HB ?_);clear HB;intro w_ HB)|((with_reducible refine zae ?_);(first|refine boxa HB rfl ?_|refine boxt HB rfl rfl ?_|refine box1 HB rfl rfl ?_);clear HB;intro b_ w_ HB;refine Kx.fr ?_)|((with_reducible refine zaa ?_);(first|refine ala HB ?_|refine al1 HB ?_);clear HB;intro b_ w_ HB;refine Kx.fr ?_)|((with_reducible refine zab ?_);first|refine Kx.l1 HB rfl rfl ?_|refine Kx.la HB rfl ?_)|((with_reducible refine zac ?_);first|refine l1g HB rfl rfl rfl ?_|refine Kx.lag HB rfl rfl ?_)|((with_reducible refine zad ?_);(first|refine stwa HB rfl rfl ?_|refine sta HB rfl rfl ?_|refine Kx.stc HB rfl rfl ?_|refine Kx.stt HB rfl rfl rfl ?_|refine Kx.st1 HB rfl rfl rfl ?_);clear HB;intro w_ HB))
  refine zau HB (fun i=>false) (by kernel_rfl) ?_
  refine Kx.tk 0 rfl ?_
  first|refine xl1 1 rfl rfl rfl ?_|refine xla 1 rfl rfl ?_
  refine Kx.tk 2 rfl ?_
  refine Kx.tk 3 rfl ?_
  refine Kx.tk 4 rfl ?_
  refine Kx.tk 5 rfl ?_
  first|refine xl1 6 rfl rfl rfl ?_|refine xla 6 rfl rfl ?_
  refine Kx.tk 7 rfl ?_
  refine Kx.tk 8 rfl ?_
  refine zan (by kernel_rfl) ?_
  clear HB
  intro w_ HB_
  have HB:=Lib.hid HB_
  clear HB_
  go_wp2_with (first|(go_at_call 61;fail)|(first|((with_reducible refine zah HB ?_);clear HB;intro w_ HB)|((with_reducible refine zae ?_);(first|refine boxa HB rfl ?_|refine boxt HB rfl rfl ?_|refine box1 HB rfl rfl ?_);clear HB;intro b_ w_ HB;refine Kx.fr ?_)|((with_reducible refine zaa ?_);(first|refine ala HB ?_|refine al1 HB ?_);clear HB;intro b_ w_ HB;refine Kx.fr ?_)|((with_reducible refine zab ?_);first|refine Kx.l1 HB rfl rfl ?_|refine Kx.la HB rfl ?_)|((with_reducible refine zac ?_);first|refine l1g HB rfl rfl rfl ?_|refine Kx.lag HB rfl rfl ?_)|((with_reducible refine zad ?_);(first|refine stwa HB rfl rfl ?_|refine sta HB rfl rfl ?_|refine Kx.stc HB rfl rfl ?_|refine Kx.stt HB rfl rfl rfl ?_|refine Kx.st1 HB rfl rfl rfl ?_);clear HB;intro w_ HB)))
  refine (HDec.out HB.out).mono ?_
  rintro e w3 ⟨b,rfl,hB⟩
  have HJ:=Lib.hid (Jbx.box3 HOk.out hB).zde
  clear HB hB
  go_wp2
  go_ret
  exact Outs.zej HP.out rfl HJ.out
 have e2:decide (m.e < a.e)=false:=decide_eq_false h2
 by_cases h3:m.b < a.pr
 ·have HP:Hid (R=(a,s,some (zg8 a m,Lo.zero))):=Lib.hid (by rw [HR.out];unfold accept;rw [if_neg h1,if_neg h2,if_pos h3])
  have e3:decide (m.b < a.pr)=true:=decide_eq_true h3
  clear h1 h2 h3
  go_enter Tryz.func39,Tryz.ntmps39
  go_upto_region 1 with (first|((with_reducible refine zah HB ?_);clear HB;intro w_ HB)|((with_reducible refine zae ?_);(first|refine boxa HB rfl ?_|refine boxt HB rfl rfl ?_|refine box1 HB rfl rfl ?_);clear HB;intro b_ w_ HB;refine Kx.fr ?_)|((with_reducible refine zaa ?_);(first|refine ala HB ?_|refine al1 HB ?_);clear HB;intro b_ w_ HB;refine Kx.fr ?_)|((with_reducible refine zab ?_);first|refine Kx.l1 HB rfl rfl ?_|refine Kx.la HB rfl ?_)|((with_reducible refine zac ?_);first|refine l1g HB rfl rfl rfl ?_|refine Kx.lag HB rfl rfl ?_)|((with_reducible refine zad ?_);(first|refine stwa HB rfl rfl ?_|refine sta HB rfl rfl ?_|refine Kx.stc HB rfl rfl ?_|refine Kx.stt HB rfl rfl rfl ?_|refine Kx.st1 HB rfl rfl rfl ?_);clear HB;intro w_ HB))
  refine zau HB (fun i=>false) (by kernel_rfl) ?_
  refine Kx.tk 0 rfl ?_
  first|refine xl1 1 rfl rfl rfl ?_|refine xla 1 rfl rfl ?_
  refine Kx.tk 2 rfl ?_
  refine Kx.tk 3 rfl ?_
  refine Kx.tk 4 rfl ?_
  refine Kx.tk 5 rfl ?_
  first|refine xl1 6 rfl rfl rfl ?_|refine xla 6 rfl rfl ?_
  refine Kx.tk 7 rfl ?_
  refine Kx.tk 8 rfl ?_
  refine zan (by kernel_rfl) ?_
  clear HB
  intro w_ HB_
  have HB:=Lib.hid HB_
  clear HB_
  go_upto_region 3 with (first|((with_reducible refine zah HB ?_);clear HB;intro w_ HB)|((with_reducible refine zae ?_);(first|refine boxa HB rfl ?_|refine boxt HB rfl rfl ?_|refine box1 HB rfl rfl ?_);clear HB;intro b_ w_ HB;refine Kx.fr ?_)|((with_reducible refine zaa ?_);(first|refine ala HB ?_|refine al1 HB ?_);clear HB;intro b_ w_ HB;refine Kx.fr ?_)|((with_reducible refine zab ?_);first|refine Kx.l1 HB rfl rfl ?_|refine Kx.la HB rfl ?_)|((with_reducible refine zac ?_);first|refine l1g HB rfl rfl rfl ?_|refine Kx.lag HB rfl rfl ?_)|((with_reducible refine zad ?_);(first|refine stwa HB rfl rfl ?_|refine sta HB rfl rfl ?_|refine Kx.stc HB rfl rfl ?_|refine Kx.stt HB rfl rfl rfl ?_|refine Kx.st1 HB rfl rfl rfl ?_);clear HB;intro w_ HB))
  refine zau HB (fun i=>false) (by kernel_rfl) ?_
  refine Kx.tk 0 rfl ?_
  first|refine xl1 1 rfl rfl rfl ?_|refine xla 1 rfl rfl ?_
  refine Kx.tk 2 rfl ?_
  refine Kx.tk 3 rfl ?_
  refine Kx.tk 4 rfl ?_
  refine Kx.tk 5 rfl ?_
  first|refine xl1 6 rfl rfl rfl ?_|refine xla 6 rfl rfl ?_
  refine Kx.tk 7 rfl ?_
  refine Kx.tk 8 rfl ?_
  refine zan (by kernel_rfl) ?_
  clear HB
  intro w_ HB_
  have HB:=Lib.hid HB_
  clear HB_
  go_upto_region 5 with (first|((with_reducible refine zah HB ?_);clear HB;intro w_ HB)|((with_reducible refine zae ?_);(first|refine boxa HB rfl ?_|refine boxt HB rfl rfl ?_|refine box1 HB rfl rfl ?_);clear HB;intro b_ w_ HB;refine Kx.fr ?_)|((with_reducible refine zaa ?_);(first|refine ala HB ?_|refine al1 HB ?_);clear HB;intro b_ w_ HB;refine Kx.fr ?_)|((with_reducible refine zab ?_);first|refine Kx.l1 HB rfl rfl ?_|refine Kx.la HB rfl ?_)|((with_reducible refine zac ?_);first|refine l1g HB rfl rfl rfl ?_|refine Kx.lag HB rfl rfl ?_)|((with_reducible refine zad ?_);(first|refine stwa HB rfl rfl ?_|refine sta HB rfl rfl ?_|refine Kx.stc HB rfl rfl ?_|refine Kx.stt HB rfl rfl rfl ?_|refine Kx.st1 HB rfl rfl rfl ?_);clear HB;intro w_ HB))
  refine zau HB (fun i=>false) (by kernel_rfl) ?_
  refine Kx.tk 0 rfl ?_
  first|refine xl1 1 rfl rfl rfl ?_|refine xla 1 rfl rfl ?_
  refine Kx.tk 2 rfl ?_
  refine Kx.tk 3 rfl ?_
  refine Kx.tk 4 rfl ?_
  refine Kx.tk 5 rfl ?_
  first|refine xl1 6 rfl rfl rfl ?_|refine xla 6 rfl rfl ?_
  refine Kx.tk 7 rfl ?_
  refine Kx.tk 8 rfl ?_
  refine zan (by kernel_rfl) ?_
  clear HB
  intro w_ HB_
  have HB:=Lib.hid HB_
  clear HB_
  go_wp2_with (first|(go_at_call 64;fail)|(first|((with_reducible refine zah HB ?_);clear HB;intro w_ HB)|((with_reducible refine zae ?_);(first|refine boxa HB rfl ?_|refine boxt HB rfl rfl ?_|refine box1 HB rfl rfl ?_);clear HB;intro b_ w_ HB;refine Kx.fr ?_)|((with_reducible refine zaa ?_);(first|refine ala HB ?_|refine al1 HB ?_);clear HB;intro b_ w_ HB;refine Kx.fr ?_)|((with_reducible refine zab ?_);first|refine Kx.l1 HB rfl rfl ?_|refine Kx.la HB rfl ?_)|((with_reducible refine zac ?_);first|refine l1g HB rfl rfl rfl ?_|refine Kx.lag HB rfl rfl ?_)|((with_reducible refine zad ?_);(first|refine stwa HB rfl rfl ?_|refine sta HB rfl rfl ?_|refine Kx.stc HB rfl rfl ?_|refine Kx.stt HB rfl rfl rfl ?_|refine Kx.st1 HB rfl rfl rfl ?_);clear HB;intro w_ HB)))
  refine (HNa.out HB.out).mono ?_
  rintro e w3 ⟨b,rfl,hB⟩
  have HJ:=Lib.hid (Jbx.box3 HOk.out hB).zde
  clear HB hB
  go_wp2
  go_ret
  exact Outs.zej HP.out rfl HJ.out
 have e3:decide (m.b < a.pr)=false:=decide_eq_false h3
 by_cases h4:a.pr < m.b
 ·have HP:Hid (R=(a,s,none)):=Lib.hid (by rw [HR.out];unfold accept;rw [if_neg h1,if_neg h2,if_neg h3,if_pos (.inl h4)])
  have e4:decide (a.pr < m.b)=true:=decide_eq_true h4
  clear h1 h2 h3 h4
  go_enter Tryz.func39,Tryz.ntmps39
  go_upto_region 1 with (first|((with_reducible refine zah HB ?_);clear HB;intro w_ HB)|((with_reducible refine zae ?_);(first|refine boxa HB rfl ?_|refine boxt HB rfl rfl ?_|refine box1 HB rfl rfl ?_);clear HB;intro b_ w_ HB;refine Kx.fr ?_)|((with_reducible refine zaa ?_);(first|refine ala HB ?_|refine al1 HB ?_);clear HB;intro b_ w_ HB;refine Kx.fr ?_)|((with_reducible refine zab ?_);first|refine Kx.l1 HB rfl rfl ?_|refine Kx.la HB rfl ?_)|((with_reducible refine zac ?_);first|refine l1g HB rfl rfl rfl ?_|refine Kx.lag HB rfl rfl ?_)|((with_reducible refine zad ?_);(first|refine stwa HB rfl rfl ?_|refine sta HB rfl rfl ?_|refine Kx.stc HB rfl rfl ?_|refine Kx.stt HB rfl rfl rfl ?_|refine Kx.st1 HB rfl rfl rfl ?_);clear HB;intro w_ HB))
  refine zau HB (fun i=>false) (by kernel_rfl) ?_
  refine Kx.tk 0 rfl ?_
  first|refine xl1 1 rfl rfl rfl ?_|refine xla 1 rfl rfl ?_
  refine Kx.tk 2 rfl ?_
  refine Kx.tk 3 rfl ?_
  refine Kx.tk 4 rfl ?_
  refine Kx.tk 5 rfl ?_
  first|refine xl1 6 rfl rfl rfl ?_|refine xla 6 rfl rfl ?_
  refine Kx.tk 7 rfl ?_
  refine Kx.tk 8 rfl ?_
  refine zan (by kernel_rfl) ?_
  clear HB
  intro w_ HB_
  have HB:=Lib.hid HB_
  clear HB_
  go_upto_region 3 with (first|((with_reducible refine zah HB ?_);clear HB;intro w_ HB)|((with_reducible refine zae ?_);(first|refine boxa HB rfl ?_|refine boxt HB rfl rfl ?_|refine box1 HB rfl rfl ?_);clear HB;intro b_ w_ HB;refine Kx.fr ?_)|((with_reducible refine zaa ?_);(first|refine ala HB ?_|refine al1 HB ?_);clear HB;intro b_ w_ HB;refine Kx.fr ?_)|((with_reducible refine zab ?_);first|refine Kx.l1 HB rfl rfl ?_|refine Kx.la HB rfl ?_)|((with_reducible refine zac ?_);first|refine l1g HB rfl rfl rfl ?_|refine Kx.lag HB rfl rfl ?_)|((with_reducible refine zad ?_);(first|refine stwa HB rfl rfl ?_|refine sta HB rfl rfl ?_|refine Kx.stc HB rfl rfl ?_|refine Kx.stt HB rfl rfl rfl ?_|refine Kx.st1 HB rfl rfl rfl ?_);clear HB;intro w_ HB))
  refine zau HB (fun i=>false) (by kernel_rfl) ?_
  refine Kx.tk 0 rfl ?_
  first|refine xl1 1 rfl rfl rfl ?_|refine xla 1 rfl rfl ?_
  refine Kx.tk 2 rfl ?_
  refine Kx.tk 3 rfl ?_
  refine Kx.tk 4 rfl ?_
  refine Kx.tk 5 rfl ?_
  first|refine xl1 6 rfl rfl rfl ?_|refine xla 6 rfl rfl ?_
  refine Kx.tk 7 rfl ?_
  refine Kx.tk 8 rfl ?_
  refine zan (by kernel_rfl) ?_
  clear HB
  intro w_ HB_
  have HB:=Lib.hid HB_
  clear HB_
  go_upto_region 5 with (first|((with_reducible refine zah HB ?_);clear HB;intro w_ HB)|((with_reducible refine zae ?_);(first|refine boxa HB rfl ?_|refine boxt HB rfl rfl ?_|refine box1 HB rfl rfl ?_);clear HB;intro b_ w_ HB;refine Kx.fr ?_)|((with_reducible refine zaa ?_);(first|refine ala HB ?_|refine al1 HB ?_);clear HB;intro b_ w_ HB;refine Kx.fr ?_)|((with_reducible refine zab ?_);first|refine Kx.l1 HB rfl rfl ?_|refine Kx.la HB rfl ?_)|((with_reducible refine zac ?_);first|refine l1g HB rfl rfl rfl ?_|refine Kx.lag HB rfl rfl ?_)|((with_reducible refine zad ?_);(first|refine stwa HB rfl rfl ?_|refine sta HB rfl rfl ?_|refine Kx.stc HB rfl rfl ?_|refine Kx.stt HB rfl rfl rfl ?_|refine Kx.st1 HB rfl rfl rfl ?_);clear HB;intro w_ HB))
  refine zau HB (fun i=>false) (by kernel_rfl) ?_
  refine Kx.tk 0 rfl ?_
  first|refine xl1 1 rfl rfl rfl ?_|refine xla 1 rfl rfl ?_
  refine Kx.tk 2 rfl ?_
  refine Kx.tk 3 rfl ?_
  refine Kx.tk 4 rfl ?_
  refine Kx.tk 5 rfl ?_
  first|refine xl1 6 rfl rfl rfl ?_|refine xla 6 rfl rfl ?_
  refine Kx.tk 7 rfl ?_
  refine Kx.tk 8 rfl ?_
  refine zan (by kernel_rfl) ?_
  clear HB
  intro w_ HB_
  have HB:=Lib.hid HB_
  clear HB_
  go_upto_region 7 with (first|((with_reducible refine zah HB ?_);clear HB;intro w_ HB)|((with_reducible refine zae ?_);(first|refine boxa HB rfl ?_|refine boxt HB rfl rfl ?_|refine box1 HB rfl rfl ?_);clear HB;intro b_ w_ HB;refine Kx.fr ?_)|((with_reducible refine zaa ?_);(first|refine ala HB ?_|refine al1 HB ?_);clear HB;intro b_ w_ HB;refine Kx.fr ?_)|((with_reducible refine zab ?_);first|refine Kx.l1 HB rfl rfl ?_|refine Kx.la HB rfl ?_)|((with_reducible refine zac ?_);first|refine l1g HB rfl rfl rfl ?_|refine Kx.lag HB rfl rfl ?_)|((with_reducible refine zad ?_);(first|refine stwa HB rfl rfl ?_|refine sta HB rfl rfl ?_|refine Kx.stc HB rfl rfl ?_|refine Kx.stt HB rfl rfl rfl ?_|refine Kx.st1 HB rfl rfl rfl ?_);clear HB;intro w_ HB))
  refine zau HB (fun i=>false) (by kernel_rfl) ?_
  refine Kx.tk 0 rfl ?_
  first|refine xl1 1 rfl rfl rfl ?_|refine xla 1 rfl rfl ?_
  refine Kx.tk 2 rfl ?_
  refine Kx.tk 3 rfl ?_
  refine Kx.tk 4 rfl ?_
  refine Kx.tk 5 rfl ?_
  first|refine xl1 6 rfl rfl rfl ?_|refine xla 6 rfl rfl ?_
  refine Kx.tk 7 rfl ?_
  refine Kx.tk 8 rfl ?_
  refine Kx.sk 9 rfl ?_
  refine Kx.sk 10 rfl ?_
  refine Kx.sk 11 rfl ?_
  refine Kx.sk 12 rfl ?_
  refine Kx.sk 13 rfl ?_
  refine Kx.sk 14 rfl ?_
  refine Kx.sk 15 rfl ?_
  refine Kx.sk 16 rfl ?_
  refine Kx.sk 17 rfl ?_
  refine Kx.sk 18 rfl ?_
  refine Kx.sk 19 rfl ?_
  refine Kx.tk 20 rfl ?_
  refine Kx.tk 21 rfl ?_
  refine zan (by kernel_rfl) ?_
  clear HB
  intro w_ HB_
  have HB:=Lib.hid HB_
  clear HB_
  go_wp2
  go_ret
  exact Outs.zdh HP.out rfl (Jbx.box HOk.out HB.out).tail
 have e4:decide (a.pr < m.b)=false:=decide_eq_false h4
 by_cases h5:a.c.s < d
 ·have HP:Hid (R=(a,s,none)):=Lib.hid (by rw [HR.out];unfold accept;rw [if_neg h1,if_neg h2,if_neg h3,if_pos (.inr (by have:=hd.out;omega))])
  have e5:decide (a.c.s < d)=true:=decide_eq_true h5
  clear h1 h2 h3 h4 h5 hd
  go_enter Tryz.func39,Tryz.ntmps39
  go_upto_region 1 with (first|((with_reducible refine zah HB ?_);clear HB;intro w_ HB)|((with_reducible refine zae ?_);(first|refine boxa HB rfl ?_|refine boxt HB rfl rfl ?_|refine box1 HB rfl rfl ?_);clear HB;intro b_ w_ HB;refine Kx.fr ?_)|((with_reducible refine zaa ?_);(first|refine ala HB ?_|refine al1 HB ?_);clear HB;intro b_ w_ HB;refine Kx.fr ?_)|((with_reducible refine zab ?_);first|refine Kx.l1 HB rfl rfl ?_|refine Kx.la HB rfl ?_)|((with_reducible refine zac ?_);first|refine l1g HB rfl rfl rfl ?_|refine Kx.lag HB rfl rfl ?_)|((with_reducible refine zad ?_);(first|refine stwa HB rfl rfl ?_|refine sta HB rfl rfl ?_|refine Kx.stc HB rfl rfl ?_|refine Kx.stt HB rfl rfl rfl ?_|refine Kx.st1 HB rfl rfl rfl ?_);clear HB;intro w_ HB))
  refine zau HB (fun i=>false) (by kernel_rfl) ?_
  refine Kx.tk 0 rfl ?_
  first|refine xl1 1 rfl rfl rfl ?_|refine xla 1 rfl rfl ?_
  refine Kx.tk 2 rfl ?_
  refine Kx.tk 3 rfl ?_
  refine Kx.tk 4 rfl ?_
  refine Kx.tk 5 rfl ?_
  first|refine xl1 6 rfl rfl rfl ?_|refine xla 6 rfl rfl ?_
  refine Kx.tk 7 rfl ?_
  refine Kx.tk 8 rfl ?_
  refine zan (by kernel_rfl) ?_
  clear HB
  intro w_ HB_
  have HB:=Lib.hid HB_
  clear HB_
  go_upto_region 3 with (first|((with_reducible refine zah HB ?_);clear HB;intro w_ HB)|((with_reducible refine zae ?_);(first|refine boxa HB rfl ?_|refine boxt HB rfl rfl ?_|refine box1 HB rfl rfl ?_);clear HB;intro b_ w_ HB;refine Kx.fr ?_)|((with_reducible refine zaa ?_);(first|refine ala HB ?_|refine al1 HB ?_);clear HB;intro b_ w_ HB;refine Kx.fr ?_)|((with_reducible refine zab ?_);first|refine Kx.l1 HB rfl rfl ?_|refine Kx.la HB rfl ?_)|((with_reducible refine zac ?_);first|refine l1g HB rfl rfl rfl ?_|refine Kx.lag HB rfl rfl ?_)|((with_reducible refine zad ?_);(first|refine stwa HB rfl rfl ?_|refine sta HB rfl rfl ?_|refine Kx.stc HB rfl rfl ?_|refine Kx.stt HB rfl rfl rfl ?_|refine Kx.st1 HB rfl rfl rfl ?_);clear HB;intro w_ HB))
  refine zau HB (fun i=>false) (by kernel_rfl) ?_
  refine Kx.tk 0 rfl ?_
  first|refine xl1 1 rfl rfl rfl ?_|refine xla 1 rfl rfl ?_
  refine Kx.tk 2 rfl ?_
  refine Kx.tk 3 rfl ?_
  refine Kx.tk 4 rfl ?_
  refine Kx.tk 5 rfl ?_
  first|refine xl1 6 rfl rfl rfl ?_|refine xla 6 rfl rfl ?_
  refine Kx.tk 7 rfl ?_
  refine Kx.tk 8 rfl ?_
  refine zan (by kernel_rfl) ?_
  clear HB
  intro w_ HB_
  have HB:=Lib.hid HB_
  clear HB_
  go_upto_region 5 with (first|((with_reducible refine zah HB ?_);clear HB;intro w_ HB)|((with_reducible refine zae ?_);(first|refine boxa HB rfl ?_|refine boxt HB rfl rfl ?_|refine box1 HB rfl rfl ?_);clear HB;intro b_ w_ HB;refine Kx.fr ?_)|((with_reducible refine zaa ?_);(first|refine ala HB ?_|refine al1 HB ?_);clear HB;intro b_ w_ HB;refine Kx.fr ?_)|((with_reducible refine zab ?_);first|refine Kx.l1 HB rfl rfl ?_|refine Kx.la HB rfl ?_)|((with_reducible refine zac ?_);first|refine l1g HB rfl rfl rfl ?_|refine Kx.lag HB rfl rfl ?_)|((with_reducible refine zad ?_);(first|refine stwa HB rfl rfl ?_|refine sta HB rfl rfl ?_|refine Kx.stc HB rfl rfl ?_|refine Kx.stt HB rfl rfl rfl ?_|refine Kx.st1 HB rfl rfl rfl ?_);clear HB;intro w_ HB))
  refine zau HB (fun i=>false) (by kernel_rfl) ?_
  refine Kx.tk 0 rfl ?_
  first|refine xl1 1 rfl rfl rfl ?_|refine xla 1 rfl rfl ?_
  refine Kx.tk 2 rfl ?_
  refine Kx.tk 3 rfl ?_
  refine Kx.tk 4 rfl ?_
  refine Kx.tk 5 rfl ?_
  first|refine xl1 6 rfl rfl rfl ?_|refine xla 6 rfl rfl ?_
  refine Kx.tk 7 rfl ?_
  refine Kx.tk 8 rfl ?_
  refine zan (by kernel_rfl) ?_
  clear HB
  intro w_ HB_
  have HB:=Lib.hid HB_
  clear HB_
  go_upto_region 7 with (first|((with_reducible refine zah HB ?_);clear HB;intro w_ HB)|((with_reducible refine zae ?_);(first|refine boxa HB rfl ?_|refine boxt HB rfl rfl ?_|refine box1 HB rfl rfl ?_);clear HB;intro b_ w_ HB;refine Kx.fr ?_)|((with_reducible refine zaa ?_);(first|refine ala HB ?_|refine al1 HB ?_);clear HB;intro b_ w_ HB;refine Kx.fr ?_)|((with_reducible refine zab ?_);first|refine Kx.l1 HB rfl rfl ?_|refine Kx.la HB rfl ?_)|((with_reducible refine zac ?_);first|refine l1g HB rfl rfl rfl ?_|refine Kx.lag HB rfl rfl ?_)|((with_reducible refine zad ?_);(first|refine stwa HB rfl rfl ?_|refine sta HB rfl rfl ?_|refine Kx.stc HB rfl rfl ?_|refine Kx.stt HB rfl rfl rfl ?_|refine Kx.st1 HB rfl rfl rfl ?_);clear HB;intro w_ HB))
  refine zau HB (fun i=>false) (by kernel_rfl) ?_
  refine Kx.tk 0 rfl ?_
  first|refine xl1 1 rfl rfl rfl ?_|refine xla 1 rfl rfl ?_
  refine Kx.tk 2 rfl ?_
  refine Kx.tk 3 rfl ?_
  refine Kx.tk 4 rfl ?_
  refine Kx.tk 5 rfl ?_
  first|refine xl1 6 rfl rfl rfl ?_|refine xla 6 rfl rfl ?_
  refine Kx.tk 7 rfl ?_
  refine Kx.tk 8 rfl ?_
  refine Kx.tk 9 rfl ?_
  refine Kx.tk 10 rfl ?_
  first|refine xl1 11 rfl rfl rfl ?_|refine xla 11 rfl rfl ?_
  refine Kx.tk 12 rfl ?_
  refine Kx.tk 13 rfl ?_
  refine Kx.tk 14 rfl ?_
  refine Kx.tk 15 rfl ?_
  refine Kx.tk 16 rfl ?_
  refine Kx.tk 17 rfl ?_
  first|refine xl1 18 rfl rfl rfl ?_|refine xla 18 rfl rfl ?_
  refine Kx.tk 19 rfl ?_
  refine Kx.tk 20 rfl ?_
  refine Kx.tk 21 rfl ?_
  refine zan (by kernel_rfl) ?_
  clear HB
  intro w_ HB_
  have HB:=Lib.hid HB_
  clear HB_
  go_wp2
  go_ret
  exact Outs.zdh HP.out rfl (Jbx.box HOk.out HB.out).tail
 have e5:decide (a.c.s < d)=false:=decide_eq_false h5
 have HP0:Hid ((keep s (racc m)).2=false→R=(a,(keep s (racc m)).1,none)):=Lib.hid (fun q=>by rw [HR.out];unfold accept;rw [if_neg h1,if_neg h2,if_neg h3,if_neg (by have:=hd.out;omega),if_neg (by rw [q];decide)])
 have HP1:Hid ((keep s (racc m)).2=true→R=(a.replay (racc m) (mpt m lo),(keep s (racc m)).1,some (accepted (a.replay (racc m) (mpt m lo)) m,Lo.zero))):=Lib.hid (fun q=>by rw [HR.out];unfold accept;rw [if_neg h1,if_neg h2,if_neg h3,if_neg (by have:=hd.out;omega),if_pos q])
 have HW0:=Lib.hid (fun q:(keep s (racc m)).2=false=>Ac.zhk (a:=a) (p:=mpt m lo) q)
 have HW1:=Lib.hid (fun q:(keep s (racc m)).2=true=>Ac.zhx (a:=a) (p:=mpt m lo) q)
 clear h1 h2 h3 h4 h5 hd HR HDec HNa
 generalize a.wrote s (racc m) (mpt m lo)=a' at *
 generalize a.replay (racc m) (mpt m lo)=a2 at *
 generalize keep s (racc m)=ks at *
 generalize racc m=rp at *
 cases hk:ks.2 with
 | false =>
   rw [hk] at HRm
   have HP:=Lib.hid (HP0.out hk)
   rw [HW0.out hk] at HRm
   clear HP0 HP1 HW0 HW1 hk
   go_enter Tryz.func39,Tryz.ntmps39
   go_upto_region 1 with (first|((with_reducible refine zah HB ?_);clear HB;intro w_ HB)|((with_reducible refine zae ?_);(first|refine boxa HB rfl ?_|refine boxt HB rfl rfl ?_|refine box1 HB rfl rfl ?_);clear HB;intro b_ w_ HB;refine Kx.fr ?_)|((with_reducible refine zaa ?_);(first|refine ala HB ?_|refine al1 HB ?_);clear HB;intro b_ w_ HB;refine Kx.fr ?_)|((with_reducible refine zab ?_);first|refine Kx.l1 HB rfl rfl ?_|refine Kx.la HB rfl ?_)|((with_reducible refine zac ?_);first|refine l1g HB rfl rfl rfl ?_|refine Kx.lag HB rfl rfl ?_)|((with_reducible refine zad ?_);(first|refine stwa HB rfl rfl ?_|refine sta HB rfl rfl ?_|refine Kx.stc HB rfl rfl ?_|refine Kx.stt HB rfl rfl rfl ?_|refine Kx.st1 HB rfl rfl rfl ?_);clear HB;intro w_ HB))
   refine zau HB (fun i=>false) (by kernel_rfl) ?_
   refine Kx.tk 0 rfl ?_
   first|refine xl1 1 rfl rfl rfl ?_|refine xla 1 rfl rfl ?_
   refine Kx.tk 2 rfl ?_
   refine Kx.tk 3 rfl ?_
   refine Kx.tk 4 rfl ?_
   refine Kx.tk 5 rfl ?_
   first|refine xl1 6 rfl rfl rfl ?_|refine xla 6 rfl rfl ?_
   refine Kx.tk 7 rfl ?_
   refine Kx.tk 8 rfl ?_
   refine zan (by kernel_rfl) ?_
   clear HB
   intro w_ HB_
   have HB:=Lib.hid HB_
   clear HB_
   go_upto_region 3 with (first|((with_reducible refine zah HB ?_);clear HB;intro w_ HB)|((with_reducible refine zae ?_);(first|refine boxa HB rfl ?_|refine boxt HB rfl rfl ?_|refine box1 HB rfl rfl ?_);clear HB;intro b_ w_ HB;refine Kx.fr ?_)|((with_reducible refine zaa ?_);(first|refine ala HB ?_|refine al1 HB ?_);clear HB;intro b_ w_ HB;refine Kx.fr ?_)|((with_reducible refine zab ?_);first|refine Kx.l1 HB rfl rfl ?_|refine Kx.la HB rfl ?_)|((with_reducible refine zac ?_);first|refine l1g HB rfl rfl rfl ?_|refine Kx.lag HB rfl rfl ?_)|((with_reducible refine zad ?_);(first|refine stwa HB rfl rfl ?_|refine sta HB rfl rfl ?_|refine Kx.stc HB rfl rfl ?_|refine Kx.stt HB rfl rfl rfl ?_|refine Kx.st1 HB rfl rfl rfl ?_);clear HB;intro w_ HB))
   refine zau HB (fun i=>false) (by kernel_rfl) ?_
   refine Kx.tk 0 rfl ?_
   first|refine xl1 1 rfl rfl rfl ?_|refine xla 1 rfl rfl ?_
   refine Kx.tk 2 rfl ?_
   refine Kx.tk 3 rfl ?_
   refine Kx.tk 4 rfl ?_
   refine Kx.tk 5 rfl ?_
   first|refine xl1 6 rfl rfl rfl ?_|refine xla 6 rfl rfl ?_
   refine Kx.tk 7 rfl ?_
   refine Kx.tk 8 rfl ?_
   refine zan (by kernel_rfl) ?_
   clear HB
   intro w_ HB_
   have HB:=Lib.hid HB_
   clear HB_
   go_upto_region 5 with (first|((with_reducible refine zah HB ?_);clear HB;intro w_ HB)|((with_reducible refine zae ?_);(first|refine boxa HB rfl ?_|refine boxt HB rfl rfl ?_|refine box1 HB rfl rfl ?_);clear HB;intro b_ w_ HB;refine Kx.fr ?_)|((with_reducible refine zaa ?_);(first|refine ala HB ?_|refine al1 HB ?_);clear HB;intro b_ w_ HB;refine Kx.fr ?_)|((with_reducible refine zab ?_);first|refine Kx.l1 HB rfl rfl ?_|refine Kx.la HB rfl ?_)|((with_reducible refine zac ?_);first|refine l1g HB rfl rfl rfl ?_|refine Kx.lag HB rfl rfl ?_)|((with_reducible refine zad ?_);(first|refine stwa HB rfl rfl ?_|refine sta HB rfl rfl ?_|refine Kx.stc HB rfl rfl ?_|refine Kx.stt HB rfl rfl rfl ?_|refine Kx.st1 HB rfl rfl rfl ?_);clear HB;intro w_ HB))
   refine zau HB (fun i=>false) (by kernel_rfl) ?_
   refine Kx.tk 0 rfl ?_
   first|refine xl1 1 rfl rfl rfl ?_|refine xla 1 rfl rfl ?_
   refine Kx.tk 2 rfl ?_
   refine Kx.tk 3 rfl ?_
   refine Kx.tk 4 rfl ?_
   refine Kx.tk 5 rfl ?_
   first|refine xl1 6 rfl rfl rfl ?_|refine xla 6 rfl rfl ?_
   refine Kx.tk 7 rfl ?_
   refine Kx.tk 8 rfl ?_
   refine zan (by kernel_rfl) ?_
   clear HB
   intro w_ HB_
   have HB:=Lib.hid HB_
   clear HB_
   go_upto_region 7 with (first|((with_reducible refine zah HB ?_);clear HB;intro w_ HB)|((with_reducible refine zae ?_);(first|refine boxa HB rfl ?_|refine boxt HB rfl rfl ?_|refine box1 HB rfl rfl ?_);clear HB;intro b_ w_ HB;refine Kx.fr ?_)|((with_reducible refine zaa ?_);(first|refine ala HB ?_|refine al1 HB ?_);clear HB;intro b_ w_ HB;refine Kx.fr ?_)|((with_reducible refine zab ?_);first|refine Kx.l1 HB rfl rfl ?_|refine Kx.la HB rfl ?_)|((with_reducible refine zac ?_);first|refine l1g HB rfl rfl rfl ?_|refine Kx.lag HB rfl rfl ?_)|((with_reducible refine zad ?_);(first|refine stwa HB rfl rfl ?_|refine sta HB rfl rfl ?_|refine Kx.stc HB rfl rfl ?_|refine Kx.stt HB rfl rfl rfl ?_|refine Kx.st1 HB rfl rfl rfl ?_);clear HB;intro w_ HB))
   refine zau HB (fun i=>false) (by kernel_rfl) ?_
   refine Kx.tk 0 rfl ?_
   first|refine xl1 1 rfl rfl rfl ?_|refine xla 1 rfl rfl ?_
   refine Kx.tk 2 rfl ?_
   refine Kx.tk 3 rfl ?_
   refine Kx.tk 4 rfl ?_
   refine Kx.tk 5 rfl ?_
   first|refine xl1 6 rfl rfl rfl ?_|refine xla 6 rfl rfl ?_
   refine Kx.tk 7 rfl ?_
   refine Kx.tk 8 rfl ?_
   refine Kx.tk 9 rfl ?_
   refine Kx.tk 10 rfl ?_
   first|refine xl1 11 rfl rfl rfl ?_|refine xla 11 rfl rfl ?_
   refine Kx.tk 12 rfl ?_
   refine Kx.tk 13 rfl ?_
   refine Kx.tk 14 rfl ?_
   refine Kx.tk 15 rfl ?_
   refine Kx.tk 16 rfl ?_
   refine Kx.tk 17 rfl ?_
   first|refine xl1 18 rfl rfl rfl ?_|refine xla 18 rfl rfl ?_
   refine Kx.tk 19 rfl ?_
   refine Kx.tk 20 rfl ?_
   refine Kx.tk 21 rfl ?_
   refine zan (by kernel_rfl) ?_
   clear HB
   intro w_ HB_
   have HB:=Lib.hid HB_
   clear HB_
   go_wp2_with (first|(go_at_call 65;fail)|((with_reducible refine Kx.zbk ?_);refine Km.wpList_build rfl 37 _ rfl #[(0,.int .i64 8),(3,.int .i64 m.e),(4,.int .i64 m.b),(10,.bool true),(11,.agg (mpt m lo).cells.toArray)] (by first|rfl|(go_simp;try rfl)) (mvs rp (loOf (mpt m lo))).toArray (HX.out) ?_;refine Kx.framed ?_ (by simp only [Act.put,List.setIfInBounds_toArray,List.set_cons_succ,List.set_cons_zero]<;>rfl))|(first|((with_reducible refine zah HB ?_);clear HB;intro w_ HB)|((with_reducible refine zae ?_);(first|refine boxa HB rfl ?_|refine boxt HB rfl rfl ?_|refine box1 HB rfl rfl ?_);clear HB;intro b_ w_ HB;refine Kx.fr ?_)|((with_reducible refine zaa ?_);(first|refine ala HB ?_|refine al1 HB ?_);clear HB;intro b_ w_ HB;refine Kx.fr ?_)|((with_reducible refine zab ?_);first|refine Kx.l1 HB rfl rfl ?_|refine Kx.la HB rfl ?_)|((with_reducible refine zac ?_);first|refine l1g HB rfl rfl rfl ?_|refine Kx.lag HB rfl rfl ?_)|((with_reducible refine zad ?_);(first|refine stwa HB rfl rfl ?_|refine sta HB rfl rfl ?_|refine Kx.stc HB rfl rfl ?_|refine Kx.stt HB rfl rfl rfl ?_|refine Kx.st1 HB rfl rfl rfl ?_);clear HB;intro w_ HB)))
   refine (HRm.out (Jbx.box HOk.out HB.out).swap).mono ?_
   rintro e w2 ⟨rfl,HJ⟩
   replace HJ:=Lib.hid HJ
   clear HB
   go_wp2
   go_ret
   exact Outs.zdh HP.out rfl HJ.out.zde
 | true =>
   rw [hk] at HRm
   have HP:=Lib.hid (HP1.out hk)
   rw [HW1.out hk] at HRm
   clear HP0 HP1 HW0 HW1 hk
   go_enter Tryz.func39,Tryz.ntmps39
   go_upto_region 1 with (first|((with_reducible refine zah HB ?_);clear HB;intro w_ HB)|((with_reducible refine zae ?_);(first|refine boxa HB rfl ?_|refine boxt HB rfl rfl ?_|refine box1 HB rfl rfl ?_);clear HB;intro b_ w_ HB;refine Kx.fr ?_)|((with_reducible refine zaa ?_);(first|refine ala HB ?_|refine al1 HB ?_);clear HB;intro b_ w_ HB;refine Kx.fr ?_)|((with_reducible refine zab ?_);first|refine Kx.l1 HB rfl rfl ?_|refine Kx.la HB rfl ?_)|((with_reducible refine zac ?_);first|refine l1g HB rfl rfl rfl ?_|refine Kx.lag HB rfl rfl ?_)|((with_reducible refine zad ?_);(first|refine stwa HB rfl rfl ?_|refine sta HB rfl rfl ?_|refine Kx.stc HB rfl rfl ?_|refine Kx.stt HB rfl rfl rfl ?_|refine Kx.st1 HB rfl rfl rfl ?_);clear HB;intro w_ HB))
   refine zau HB (fun i=>false) (by kernel_rfl) ?_
   refine Kx.tk 0 rfl ?_
   first|refine xl1 1 rfl rfl rfl ?_|refine xla 1 rfl rfl ?_
   refine Kx.tk 2 rfl ?_
   refine Kx.tk 3 rfl ?_
   refine Kx.tk 4 rfl ?_
   refine Kx.tk 5 rfl ?_
   first|refine xl1 6 rfl rfl rfl ?_|refine xla 6 rfl rfl ?_
   refine Kx.tk 7 rfl ?_
   refine Kx.tk 8 rfl ?_
   refine zan (by kernel_rfl) ?_
   clear HB
   intro w_ HB_
   have HB:=Lib.hid HB_
   clear HB_
   go_upto_region 3 with (first|((with_reducible refine zah HB ?_);clear HB;intro w_ HB)|((with_reducible refine zae ?_);(first|refine boxa HB rfl ?_|refine boxt HB rfl rfl ?_|refine box1 HB rfl rfl ?_);clear HB;intro b_ w_ HB;refine Kx.fr ?_)|((with_reducible refine zaa ?_);(first|refine ala HB ?_|refine al1 HB ?_);clear HB;intro b_ w_ HB;refine Kx.fr ?_)|((with_reducible refine zab ?_);first|refine Kx.l1 HB rfl rfl ?_|refine Kx.la HB rfl ?_)|((with_reducible refine zac ?_);first|refine l1g HB rfl rfl rfl ?_|refine Kx.lag HB rfl rfl ?_)|((with_reducible refine zad ?_);(first|refine stwa HB rfl rfl ?_|refine sta HB rfl rfl ?_|refine Kx.stc HB rfl rfl ?_|refine Kx.stt HB rfl rfl rfl ?_|refine Kx.st1 HB rfl rfl rfl ?_);clear HB;intro w_ HB))
   refine zau HB (fun i=>false) (by kernel_rfl) ?_
   refine Kx.tk 0 rfl ?_
   first|refine xl1 1 rfl rfl rfl ?_|refine xla 1 rfl rfl ?_
   refine Kx.tk 2 rfl ?_
   refine Kx.tk 3 rfl ?_
   refine Kx.tk 4 rfl ?_
   refine Kx.tk 5 rfl ?_
   first|refine xl1 6 rfl rfl rfl ?_|refine xla 6 rfl rfl ?_
   refine Kx.tk 7 rfl ?_
   refine Kx.tk 8 rfl ?_
   refine zan (by kernel_rfl) ?_
   clear HB
   intro w_ HB_
   have HB:=Lib.hid HB_
   clear HB_
   go_upto_region 5 with (first|((with_reducible refine zah HB ?_);clear HB;intro w_ HB)|((with_reducible refine zae ?_);(first|refine boxa HB rfl ?_|refine boxt HB rfl rfl ?_|refine box1 HB rfl rfl ?_);clear HB;intro b_ w_ HB;refine Kx.fr ?_)|((with_reducible refine zaa ?_);(first|refine ala HB ?_|refine al1 HB ?_);clear HB;intro b_ w_ HB;refine Kx.fr ?_)|((with_reducible refine zab ?_);first|refine Kx.l1 HB rfl rfl ?_|refine Kx.la HB rfl ?_)|((with_reducible refine zac ?_);first|refine l1g HB rfl rfl rfl ?_|refine Kx.lag HB rfl rfl ?_)|((with_reducible refine zad ?_);(first|refine stwa HB rfl rfl ?_|refine sta HB rfl rfl ?_|refine Kx.stc HB rfl rfl ?_|refine Kx.stt HB rfl rfl rfl ?_|refine Kx.st1 HB rfl rfl rfl ?_);clear HB;intro w_ HB))
   refine zau HB (fun i=>false) (by kernel_rfl) ?_
   refine Kx.tk 0 rfl ?_
   first|refine xl1 1 rfl rfl rfl ?_|refine xla 1 rfl rfl ?_
   refine Kx.tk 2 rfl ?_
   refine Kx.tk 3 rfl ?_
   refine Kx.tk 4 rfl ?_
   refine Kx.tk 5 rfl ?_
   first|refine xl1 6 rfl rfl rfl ?_|refine xla 6 rfl rfl ?_
   refine Kx.tk 7 rfl ?_
   refine Kx.tk 8 rfl ?_
   refine zan (by kernel_rfl) ?_
   clear HB
   intro w_ HB_
   have HB:=Lib.hid HB_
   clear HB_
   go_upto_region 7 with (first|((with_reducible refine zah HB ?_);clear HB;intro w_ HB)|((with_reducible refine zae ?_);(first|refine boxa HB rfl ?_|refine boxt HB rfl rfl ?_|refine box1 HB rfl rfl ?_);clear HB;intro b_ w_ HB;refine Kx.fr ?_)|((with_reducible refine zaa ?_);(first|refine ala HB ?_|refine al1 HB ?_);clear HB;intro b_ w_ HB;refine Kx.fr ?_)|((with_reducible refine zab ?_);first|refine Kx.l1 HB rfl rfl ?_|refine Kx.la HB rfl ?_)|((with_reducible refine zac ?_);first|refine l1g HB rfl rfl rfl ?_|refine Kx.lag HB rfl rfl ?_)|((with_reducible refine zad ?_);(first|refine stwa HB rfl rfl ?_|refine sta HB rfl rfl ?_|refine Kx.stc HB rfl rfl ?_|refine Kx.stt HB rfl rfl rfl ?_|refine Kx.st1 HB rfl rfl rfl ?_);clear HB;intro w_ HB))
   refine zau HB (fun i=>false) (by kernel_rfl) ?_
   refine Kx.tk 0 rfl ?_
   first|refine xl1 1 rfl rfl rfl ?_|refine xla 1 rfl rfl ?_
   refine Kx.tk 2 rfl ?_
   refine Kx.tk 3 rfl ?_
   refine Kx.tk 4 rfl ?_
   refine Kx.tk 5 rfl ?_
   first|refine xl1 6 rfl rfl rfl ?_|refine xla 6 rfl rfl ?_
   refine Kx.tk 7 rfl ?_
   refine Kx.tk 8 rfl ?_
   refine Kx.tk 9 rfl ?_
   refine Kx.tk 10 rfl ?_
   first|refine xl1 11 rfl rfl rfl ?_|refine xla 11 rfl rfl ?_
   refine Kx.tk 12 rfl ?_
   refine Kx.tk 13 rfl ?_
   refine Kx.tk 14 rfl ?_
   refine Kx.tk 15 rfl ?_
   refine Kx.tk 16 rfl ?_
   refine Kx.tk 17 rfl ?_
   first|refine xl1 18 rfl rfl rfl ?_|refine xla 18 rfl rfl ?_
   refine Kx.tk 19 rfl ?_
   refine Kx.tk 20 rfl ?_
   refine Kx.tk 21 rfl ?_
   refine zan (by kernel_rfl) ?_
   clear HB
   intro w_ HB_
   have HB:=Lib.hid HB_
   clear HB_
   go_wp2_with (first|(go_at_call 65;fail)|((with_reducible refine Kx.zbk ?_);refine Km.wpList_build rfl 37 _ rfl #[(0,.int .i64 8),(3,.int .i64 m.e),(4,.int .i64 m.b),(10,.bool true),(11,.agg (mpt m lo).cells.toArray)] (by first|rfl|(go_simp;try rfl)) (mvs rp (loOf (mpt m lo))).toArray (HX.out) ?_;refine Kx.framed ?_ (by simp only [Act.put,List.setIfInBounds_toArray,List.set_cons_succ,List.set_cons_zero]<;>rfl))|(first|((with_reducible refine zah HB ?_);clear HB;intro w_ HB)|((with_reducible refine zae ?_);(first|refine boxa HB rfl ?_|refine boxt HB rfl rfl ?_|refine box1 HB rfl rfl ?_);clear HB;intro b_ w_ HB;refine Kx.fr ?_)|((with_reducible refine zaa ?_);(first|refine ala HB ?_|refine al1 HB ?_);clear HB;intro b_ w_ HB;refine Kx.fr ?_)|((with_reducible refine zab ?_);first|refine Kx.l1 HB rfl rfl ?_|refine Kx.la HB rfl ?_)|((with_reducible refine zac ?_);first|refine l1g HB rfl rfl rfl ?_|refine Kx.lag HB rfl rfl ?_)|((with_reducible refine zad ?_);(first|refine stwa HB rfl rfl ?_|refine sta HB rfl rfl ?_|refine Kx.stc HB rfl rfl ?_|refine Kx.stt HB rfl rfl rfl ?_|refine Kx.st1 HB rfl rfl rfl ?_);clear HB;intro w_ HB)))
   refine (HRm.out (Jbx.box HOk.out HB.out).swap).mono ?_
   rintro e w2 ⟨rfl,HJ⟩
   clear HB HRm HOk
   obtain ⟨ok,KA,KC,RA,RC,HB2⟩:=HJ
   have HB:=Lib.hid HB2
   have HOk:=Lib.hid ok
   clear HB2 ok
   have HAn:Hid (∀ {W:World} {L:List (Nat×List Value)} {r':List Rw} [InL ga (a2.cells g) L] (y:Mm.Ms) (yl:Lo),Bxs w0 W L r' F→Calls Tryz.prog 66 #[.pointer (some ⟨ga,0,none⟩),.agg (mvs m lo).toArray,.agg (mvs y yl).toArray] W fun e w'=>Ans1 w0 w' L r' F (reply a2 m y) yl e):=Lib.hid (fun y yl q=>zft q m lo y yl)
   go_wp2_with (first|(go_at_call 66;fail)|((with_reducible refine Kx.zbk ?_);refine Km.wpList_build rfl 37 _ rfl #[(0,.int .i64 8),(3,.int .i64 m.e),(4,.int .i64 m.b)] (by first|rfl|(go_simp;try rfl)) (mvs (mk 8 m.e m.b 0 0 0 false Pm.zero) Lo.zero).toArray (HX2.out) ?_;refine Kx.framed ?_ (by simp only [Act.put,List.setIfInBounds_toArray,List.set_cons_succ,List.set_cons_zero]<;>rfl))|(first|((with_reducible refine zah HB ?_);clear HB;intro w_ HB)|((with_reducible refine zae ?_);(first|refine boxa HB rfl ?_|refine boxt HB rfl rfl ?_|refine box1 HB rfl rfl ?_);clear HB;intro b_ w_ HB;refine Kx.fr ?_)|((with_reducible refine zaa ?_);(first|refine ala HB ?_|refine al1 HB ?_);clear HB;intro b_ w_ HB;refine Kx.fr ?_)|((with_reducible refine zab ?_);first|refine Kx.l1 HB rfl rfl ?_|refine Kx.la HB rfl ?_)|((with_reducible refine zac ?_);first|refine l1g HB rfl rfl rfl ?_|refine Kx.lag HB rfl rfl ?_)|((with_reducible refine zad ?_);(first|refine stwa HB rfl rfl ?_|refine sta HB rfl rfl ?_|refine Kx.stc HB rfl rfl ?_|refine Kx.stt HB rfl rfl rfl ?_|refine Kx.st1 HB rfl rfl rfl ?_);clear HB;intro w_ HB)))
   refine (HAn.out (mk 8 m.e m.b 0 0 0 false Pm.zero) Lo.zero HB.out).mono ?_
   rintro e w3 ⟨b,rfl,hB⟩
   have HJ:Hid (Jbx w0 w3 g ks.1 ((b,mvs (accepted a2 m) Lo.zero)::(ga,a2.cells g)::l) r F):=Lib.hid (Jbx.front hB HOk.out).third.tail
   clear HB hB HOk HAn
   go_wp2
   go_ret
   exact Outs.zej HP.out rfl HJ.out
end
end Go.Proofs.YtponpgcpmlcdpaaGreatDoor
