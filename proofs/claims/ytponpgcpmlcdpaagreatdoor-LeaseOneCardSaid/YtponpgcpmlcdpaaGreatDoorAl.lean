import Derived.Test.YtponpgcpmlcdpaaGreatDoorAg
import Derived.Deep.CutBlock
import Derived.Deep.DeepCutAuto
namespace Go.Proofs.YtponpgcpmlcdpaaGreatDoor
open Go.RowKit Go.Shelf Km Kx Kc Kt
set_option linter.unusedVariables false
set_option linter.unusedSimpArgs false
section
variable {w0 w:World} {ga g:Nat} {a:Ac} {s:Jm.St} {l L:List (Nat × List Value)} {r:List Rw} {F:Fz}
def NoL (a:Ac) (m:Mm.Ms) (now:Int):Prop:=a.led = true ∧ now - a.wait < a.lt
open Classical in
noncomputable def zh4 (a:Ac) (s:Jm.St) (m:Mm.Ms) (now:Int):Res :=
 if a.ld = m.f then ({ a with ld:=m.f,lt:=now },s,some (zdi a m 2,Lo.zero))
 else if NoL a m now then (a,s,none)
 else if (keep s (rll m)).2 = true then ({ a.replay (rll m) noPt with ld:=m.f,lt:=now },(keep s (rll m)).1,some (zdi (a.replay (rll m) noPt) m 2,Lo.zero)) else (a,(keep s (rll m)).1,none)
set_option maxRecDepth 100000 in
set_option maxHeartbeats 1000000 in
theorem zor (h:Jbx w0 w g s ((ga,a.cells g) :: l) r F) (m:Mm.Ms) (lo:Lo) (now:Int) (hm:m.Ok) (ht:Tab w0) (hh:HTab w0) (hz:Jm.size s ≤ 16000000) (hnow:0 ≤ now ∧ now ≤ 1099511627776) (hl:0 ≤ a.c.l ∧ a.c.l ≤ 1048576) (hcm:0 ≤ a.c.m ∧ a.c.m ≤ 1048576) :
  Calls Tryz.prog 41 #[.pointer (some ⟨ga,0,none⟩),.agg (mvs m lo).toArray,.int .i64 now] w fun e w' => Outs w0 w' ga g l r F (zh4 a s m now) e:=by
 obtain ⟨ok,KA,KC,RA,RC,HB0⟩:=h
 have HB:=Lib.hid HB0
 have HOk:=Lib.hid ok
 have HWt:Hid (∀ {W:World} {L:List (Nat × List Value)} {r':List Rw} [InL ga (a.cells g) L],Bxs w0 W L r' F → Calls Tryz.prog 68 #[.pointer (some ⟨ga,0,none⟩)] W fun e w' => e = .returned (.int .i64 a.wait) ∧ Below W.heap.size W w'):=Lib.hid (fun q => zpa q hl hcm)
 have hwi:0 ≤ a.wait ∧ a.wait ≤ 2097152:=by unfold Ac.wait; omega
 have HAn:Hid (∀ (a2:Ac) {W:World} {L:List (Nat × List Value)} {r':List Rw} [InL ga (a2.cells g) L] (y:Mm.Ms) (yl:Lo),Bxs w0 W L r' F → Calls Tryz.prog 66 #[.pointer (some ⟨ga,0,none⟩),.agg (mvs m lo).toArray,.agg (mvs y yl).toArray] W fun e w' => Ans1 w0 w' L r' F (reply a2 m y) yl e):=Lib.hid (fun a2 _ _ _ _ y yl q => zdq q m lo y yl)
 have HRm:Hid (∀ {W:World} {l'},Jbx w0 W g s ((ga,a.cells g) :: l') r F → Calls Tryz.prog 65 #[.pointer (some ⟨ga,0,none⟩),.agg (mvs (rll m) Lo.zero).toArray] W fun e w' =>
   e = .returned (.bool (keep s (rll m)).2) ∧ Jbx w0 w' g (keep s (rll m)).1 ((ga,(a.wrote s (rll m) noPt).cells g) :: l') r F):=Lib.hid (fun q => zd1 q (rll m) Lo.zero (rl_ok hm I0 ⟨by decide,by decide⟩) rl_in ht hh hz)
 have HBe:Hid (∀ W,Calls Tryz.prog 67 #[.int .i64 now,.int .i64 a.lt,.int .i64 a.wait] W fun e w' => e = .returned (.bool (decide (now - a.wait < a.lt))) ∧ W = w'):=Lib.hid (fun W => zgm now a.lt a.wait (by omega) W)
 obtain ⟨R,HR0⟩ : ∃ R,R = zh4 a s m now:=⟨_,rfl⟩
 have HR:=Lib.hid HR0
 rw [←HR0]
 obtain ⟨b1,hb1⟩ : ∃ b:Bool,b = true ↔ NoL a m now:=by
  classical
  exact ⟨decide (NoL a m now),decide_eq_true_iff⟩
 replace hb1:=Lib.hid hb1
 have HX:Hid (Tryz.prog.built 37 [(0,.int .i64 11),(1,.int .i64 m.f),(9,.int .i64 2)] = some (mvs (rll m) Lo.zero).toArray):=Lib.hid (zpq m.f)
 have HX2:=Lib.hid (ll_built m.e m.n)
 have HW0:=Lib.hid (fun q:(keep s (rll m)).2 = false => Ac.zfb (a:=a) (p:=noPt) q)
 have HW1:=Lib.hid (fun q:(keep s (rll m)).2 = true => Ac.zey (a:=a) (p:=noPt) q)
 clear HR0 HB0 hm hz ok hnow ht hh hl hcm hwi
 by_cases hld:a.ld = m.f
 ·have e0:(a.ld == m.f) = true:=by simpa using hld
  have HP:Hid (R = ({ a with ld:=m.f,lt:=now },s,some (zdi a m 2,Lo.zero))):=Lib.hid (by rw [HR.out]; exact if_pos hld)
  clear HR hld HRm HX HBe HWt HW0 HW1 hb1
  cases hle:a.led
  case false =>
   go_enter Tryz.func41,Tryz.ntmps41
   go_upto_region 1 with (first | ((with_reducible refine zah HB ?_); clear HB; intro w_ HB) | ((with_reducible refine zad (d:=some 4) ?_); (first | refine boxa HB rfl ?_ | refine boxt HB rfl rfl ?_ | refine box1 HB rfl rfl ?_); clear HB; intro b4 w_ HB; refine Kx.fr ?_) | ((with_reducible refine zaa (d:=some 4) ?_); (first | refine ala HB ?_ | refine al1 HB ?_); clear HB; intro b4 w_ HB; refine Kx.fr ?_) | ((with_reducible refine zad ?_); (first | refine boxa HB rfl ?_ | refine boxt HB rfl rfl ?_ | refine box1 HB rfl rfl ?_); clear HB; intro b_ w_ HB; refine Kx.fr ?_) | ((with_reducible refine zaa ?_); (first | refine ala HB ?_ | refine al1 HB ?_); clear HB; intro b_ w_ HB; refine Kx.fr ?_) | ((with_reducible refine zab ?_); first | refine Kx.l1 HB rfl rfl ?_ | refine Kx.la HB rfl ?_) | ((with_reducible refine zac ?_); first | refine l1g HB rfl rfl rfl ?_ | refine Kx.lag HB rfl rfl ?_) | ((with_reducible refine zae ?_); (first | refine stwa HB rfl rfl ?_ | refine sta HB rfl rfl ?_ | refine Kx.stc HB rfl rfl ?_ | refine Kx.stt HB rfl rfl rfl ?_ | refine Kx.st1 HB rfl rfl rfl ?_); clear HB; intro w_ HB))
   refine zam HB (fun i => false) (by kernel_rfl) ?_
   refine Kx.tk 0 rfl ?_
   refine Kx.tk 1 rfl ?_
   refine Kx.tk 2 rfl ?_
   refine Kx.tk 3 rfl ?_
   first | refine xl1 4 rfl rfl rfl ?_ | refine xla 4 rfl rfl ?_
   refine Kx.tk 5 rfl ?_
   first | refine xl1 6 rfl rfl rfl ?_ | refine xla 6 rfl rfl ?_
   refine Kx.tk 7 rfl ?_
   refine Kx.tk 8 rfl ?_
   refine zaj (by kernel_rfl) ?_
   clear HB
   intro w_ HB_
   have HB:=Lib.hid HB_
   clear HB_
   go_upto_region 2 with (first | ((with_reducible refine zah HB ?_); clear HB; intro w_ HB) | ((with_reducible refine zad ?_); (first | refine boxa HB rfl ?_ | refine boxt HB rfl rfl ?_ | refine box1 HB rfl rfl ?_); clear HB; intro b_ w_ HB; refine Kx.fr ?_) | ((with_reducible refine zaa ?_); (first | refine ala HB ?_ | refine al1 HB ?_); clear HB; intro b_ w_ HB; refine Kx.fr ?_) | ((with_reducible refine zab ?_); first | refine Kx.l1 HB rfl rfl ?_ | refine Kx.la HB rfl ?_) | ((with_reducible refine zac ?_); first | refine l1g HB rfl rfl rfl ?_ | refine Kx.lag HB rfl rfl ?_) | ((with_reducible refine zae ?_); (first | refine stwa HB rfl rfl ?_ | refine sta HB rfl rfl ?_ | refine Kx.stc HB rfl rfl ?_ | refine Kx.stt HB rfl rfl rfl ?_ | refine Kx.st1 HB rfl rfl rfl ?_); clear HB; intro w_ HB))
   refine zam HB (fun i => false) (by kernel_rfl) ?_
   refine Kx.tk 0 rfl ?_
   refine Kx.tk 1 rfl ?_
   refine Kx.tk 2 rfl ?_
   refine Kx.tk 3 rfl ?_
   first | refine xl1 4 rfl rfl rfl ?_ | refine xla 4 rfl rfl ?_
   refine Kx.tk 5 rfl ?_
   refine Kx.sk 6 rfl ?_
   refine Kx.sk 7 rfl ?_
   refine Kx.tk 8 rfl ?_
   refine Kx.tk 9 rfl ?_
   refine Kx.sk 10 rfl ?_
   refine Kx.sk 11 rfl ?_
   refine Kx.sk 12 rfl ?_
   refine Kx.sk 13 rfl ?_
   refine Kx.sk 14 rfl ?_
   refine Kx.sk 15 rfl ?_
   refine Kx.sk 16 rfl ?_
   refine Kx.sk 17 rfl ?_
   refine Kx.tk 18 rfl ?_
   refine zaj (by kernel_rfl) ?_
   clear HB
   intro w_ HB_
   have HB:=Lib.hid HB_
   clear HB_
   go_wp2_with (first | (go_at_call 66; fail) | ((with_reducible refine zaz ?_); refine Km.wpList_build rfl 37 _ rfl #[(0,.int .i64 11),(3,.int .i64 m.e),(9,.int .i64 2),(6,.int .i64 m.n)] (by first | rfl | (go_simp; try rfl)) (mvs (mk 11 m.e 0 0 m.n 2 false Pm.zero) Lo.zero).toArray (HX2.out) ?_; refine Kx.framed ?_ (by simp only [Act.put,List.setIfInBounds_toArray,List.set_cons_succ,List.set_cons_zero] <;> rfl)) | (first | ((with_reducible refine zah HB ?_); clear HB; intro w_ HB) | ((with_reducible refine zad ?_); (first | refine boxa HB rfl ?_ | refine boxt HB rfl rfl ?_ | refine box1 HB rfl rfl ?_); clear HB; intro b_ w_ HB; refine Kx.fr ?_) | ((with_reducible refine zaa ?_); (first | refine ala HB ?_ | refine al1 HB ?_); clear HB; intro b_ w_ HB; refine Kx.fr ?_) | ((with_reducible refine zab ?_); first | refine Kx.l1 HB rfl rfl ?_ | refine Kx.la HB rfl ?_) | ((with_reducible refine zac ?_); first | refine l1g HB rfl rfl rfl ?_ | refine Kx.lag HB rfl rfl ?_) | ((with_reducible refine zae ?_); (first | refine stwa HB rfl rfl ?_ | refine sta HB rfl rfl ?_ | refine Kx.stc HB rfl rfl ?_ | refine Kx.stt HB rfl rfl rfl ?_ | refine Kx.st1 HB rfl rfl rfl ?_); clear HB; intro w_ HB)))
   refine (HAn.out { a with ld:=m.f,lt:=now } (mk 11 m.e 0 0 m.n 2 false Pm.zero) Lo.zero HB.out).mono ?_
   rintro e w3 ⟨b,rfl,hB⟩
   have HJ:Hid (Jbx w0 w3 g s ((b,mvs (zdi a m 2) Lo.zero) :: (ga,({ a with ld:=m.f,lt:=now }:Ac).cells g) :: l) r F):=Lib.hid (Jbx.box3 HOk.out hB).zcn
   clear HB hB
   go_wp2
   go_ret
   exact Outs.zcf HP.out rfl HJ.out
  case true =>
   go_enter Tryz.func41,Tryz.ntmps41
   go_upto_region 1 with (first | ((with_reducible refine zah HB ?_); clear HB; intro w_ HB) | ((with_reducible refine zad (d:=some 4) ?_); (first | refine boxa HB rfl ?_ | refine boxt HB rfl rfl ?_ | refine box1 HB rfl rfl ?_); clear HB; intro b4 w_ HB; refine Kx.fr ?_) | ((with_reducible refine zaa (d:=some 4) ?_); (first | refine ala HB ?_ | refine al1 HB ?_); clear HB; intro b4 w_ HB; refine Kx.fr ?_) | ((with_reducible refine zad ?_); (first | refine boxa HB rfl ?_ | refine boxt HB rfl rfl ?_ | refine box1 HB rfl rfl ?_); clear HB; intro b_ w_ HB; refine Kx.fr ?_) | ((with_reducible refine zaa ?_); (first | refine ala HB ?_ | refine al1 HB ?_); clear HB; intro b_ w_ HB; refine Kx.fr ?_) | ((with_reducible refine zab ?_); first | refine Kx.l1 HB rfl rfl ?_ | refine Kx.la HB rfl ?_) | ((with_reducible refine zac ?_); first | refine l1g HB rfl rfl rfl ?_ | refine Kx.lag HB rfl rfl ?_) | ((with_reducible refine zae ?_); (first | refine stwa HB rfl rfl ?_ | refine sta HB rfl rfl ?_ | refine Kx.stc HB rfl rfl ?_ | refine Kx.stt HB rfl rfl rfl ?_ | refine Kx.st1 HB rfl rfl rfl ?_); clear HB; intro w_ HB))
   refine zam HB (fun i => false) (by kernel_rfl) ?_
   refine Kx.tk 0 rfl ?_
   refine Kx.tk 1 rfl ?_
   refine Kx.tk 2 rfl ?_
   refine Kx.tk 3 rfl ?_
   first | refine xl1 4 rfl rfl rfl ?_ | refine xla 4 rfl rfl ?_
   refine Kx.tk 5 rfl ?_
   first | refine xl1 6 rfl rfl rfl ?_ | refine xla 6 rfl rfl ?_
   refine Kx.tk 7 rfl ?_
   refine Kx.tk 8 rfl ?_
   refine zaj (by kernel_rfl) ?_
   clear HB
   intro w_ HB_
   have HB:=Lib.hid HB_
   clear HB_
   go_upto_region 2 with (first | ((with_reducible refine zah HB ?_); clear HB; intro w_ HB) | ((with_reducible refine zad ?_); (first | refine boxa HB rfl ?_ | refine boxt HB rfl rfl ?_ | refine box1 HB rfl rfl ?_); clear HB; intro b_ w_ HB; refine Kx.fr ?_) | ((with_reducible refine zaa ?_); (first | refine ala HB ?_ | refine al1 HB ?_); clear HB; intro b_ w_ HB; refine Kx.fr ?_) | ((with_reducible refine zab ?_); first | refine Kx.l1 HB rfl rfl ?_ | refine Kx.la HB rfl ?_) | ((with_reducible refine zac ?_); first | refine l1g HB rfl rfl rfl ?_ | refine Kx.lag HB rfl rfl ?_) | ((with_reducible refine zae ?_); (first | refine stwa HB rfl rfl ?_ | refine sta HB rfl rfl ?_ | refine Kx.stc HB rfl rfl ?_ | refine Kx.stt HB rfl rfl rfl ?_ | refine Kx.st1 HB rfl rfl rfl ?_); clear HB; intro w_ HB))
   refine zam HB (fun i => false) (by kernel_rfl) ?_
   refine Kx.tk 0 rfl ?_
   refine Kx.tk 1 rfl ?_
   refine Kx.tk 2 rfl ?_
   refine Kx.tk 3 rfl ?_
   first | refine xl1 4 rfl rfl rfl ?_ | refine xla 4 rfl rfl ?_
   refine Kx.tk 5 rfl ?_
   refine Kx.tk 6 rfl ?_
   refine Kx.tk 7 rfl ?_
   refine Kx.tk 8 rfl ?_
   refine Kx.tk 9 rfl ?_
   refine Kx.sk 10 rfl ?_
   refine Kx.sk 11 rfl ?_
   refine Kx.sk 12 rfl ?_
   refine Kx.sk 13 rfl ?_
   refine Kx.sk 14 rfl ?_
   refine Kx.sk 15 rfl ?_
   refine Kx.sk 16 rfl ?_
   refine Kx.sk 17 rfl ?_
   refine Kx.tk 18 rfl ?_
   refine zaj (by kernel_rfl) ?_
   clear HB
   intro w_ HB_
   have HB:=Lib.hid HB_
   clear HB_
   go_wp2_with (first | (go_at_call 66; fail) | ((with_reducible refine zaz ?_); refine Km.wpList_build rfl 37 _ rfl #[(0,.int .i64 11),(3,.int .i64 m.e),(9,.int .i64 2),(6,.int .i64 m.n)] (by first | rfl | (go_simp; try rfl)) (mvs (mk 11 m.e 0 0 m.n 2 false Pm.zero) Lo.zero).toArray (HX2.out) ?_; refine Kx.framed ?_ (by simp only [Act.put,List.setIfInBounds_toArray,List.set_cons_succ,List.set_cons_zero] <;> rfl)) | (first | ((with_reducible refine zah HB ?_); clear HB; intro w_ HB) | ((with_reducible refine zad ?_); (first | refine boxa HB rfl ?_ | refine boxt HB rfl rfl ?_ | refine box1 HB rfl rfl ?_); clear HB; intro b_ w_ HB; refine Kx.fr ?_) | ((with_reducible refine zaa ?_); (first | refine ala HB ?_ | refine al1 HB ?_); clear HB; intro b_ w_ HB; refine Kx.fr ?_) | ((with_reducible refine zab ?_); first | refine Kx.l1 HB rfl rfl ?_ | refine Kx.la HB rfl ?_) | ((with_reducible refine zac ?_); first | refine l1g HB rfl rfl rfl ?_ | refine Kx.lag HB rfl rfl ?_) | ((with_reducible refine zae ?_); (first | refine stwa HB rfl rfl ?_ | refine sta HB rfl rfl ?_ | refine Kx.stc HB rfl rfl ?_ | refine Kx.stt HB rfl rfl rfl ?_ | refine Kx.st1 HB rfl rfl rfl ?_); clear HB; intro w_ HB)))
   refine (HAn.out { a with ld:=m.f,lt:=now } (mk 11 m.e 0 0 m.n 2 false Pm.zero) Lo.zero HB.out).mono ?_
   rintro e w3 ⟨b,rfl,hB⟩
   have HJ:Hid (Jbx w0 w3 g s ((b,mvs (zdi a m 2) Lo.zero) :: (ga,({ a with ld:=m.f,lt:=now }:Ac).cells g) :: l) r F):=Lib.hid (Jbx.box3 HOk.out hB).zcn
   clear HB hB
   go_wp2
   go_ret
   exact Outs.zcf HP.out rfl HJ.out
 have e0:(a.ld == m.f) = false:=by simpa using hld
 go_enter Tryz.func41,Tryz.ntmps41
 go_upto_region 1 with (first | ((with_reducible refine zah HB ?_); clear HB; intro w_ HB) | ((with_reducible refine zad (d:=some 4) ?_); (first | refine boxa HB rfl ?_ | refine boxt HB rfl rfl ?_ | refine box1 HB rfl rfl ?_); clear HB; intro b4 w_ HB; refine Kx.fr ?_) | ((with_reducible refine zaa (d:=some 4) ?_); (first | refine ala HB ?_ | refine al1 HB ?_); clear HB; intro b4 w_ HB; refine Kx.fr ?_) | ((with_reducible refine zad ?_); (first | refine boxa HB rfl ?_ | refine boxt HB rfl rfl ?_ | refine box1 HB rfl rfl ?_); clear HB; intro b_ w_ HB; refine Kx.fr ?_) | ((with_reducible refine zaa ?_); (first | refine ala HB ?_ | refine al1 HB ?_); clear HB; intro b_ w_ HB; refine Kx.fr ?_) | ((with_reducible refine zab ?_); first | refine Kx.l1 HB rfl rfl ?_ | refine Kx.la HB rfl ?_) | ((with_reducible refine zac ?_); first | refine l1g HB rfl rfl rfl ?_ | refine Kx.lag HB rfl rfl ?_) | ((with_reducible refine zae ?_); (first | refine stwa HB rfl rfl ?_ | refine sta HB rfl rfl ?_ | refine Kx.stc HB rfl rfl ?_ | refine Kx.stt HB rfl rfl rfl ?_ | refine Kx.st1 HB rfl rfl rfl ?_); clear HB; intro w_ HB))
 refine zam HB (fun i => false) (by kernel_rfl) ?_
 refine Kx.tk 0 rfl ?_
 refine Kx.tk 1 rfl ?_
 refine Kx.tk 2 rfl ?_
 refine Kx.tk 3 rfl ?_
 first | refine xl1 4 rfl rfl rfl ?_ | refine xla 4 rfl rfl ?_
 refine Kx.tk 5 rfl ?_
 first | refine xl1 6 rfl rfl rfl ?_ | refine xla 6 rfl rfl ?_
 refine Kx.tk 7 rfl ?_
 refine Kx.tk 8 rfl ?_
 refine zaj (by kernel_rfl) ?_
 clear HB
 intro w_ HB_
 have HB:=Lib.hid HB_
 clear HB_
 go_upto_region 2 with (first | ((with_reducible refine zah HB ?_); clear HB; intro w_ HB) | ((with_reducible refine zad ?_); (first | refine boxa HB rfl ?_ | refine boxt HB rfl rfl ?_ | refine box1 HB rfl rfl ?_); clear HB; intro b_ w_ HB; refine Kx.fr ?_) | ((with_reducible refine zaa ?_); (first | refine ala HB ?_ | refine al1 HB ?_); clear HB; intro b_ w_ HB; refine Kx.fr ?_) | ((with_reducible refine zab ?_); first | refine Kx.l1 HB rfl rfl ?_ | refine Kx.la HB rfl ?_) | ((with_reducible refine zac ?_); first | refine l1g HB rfl rfl rfl ?_ | refine Kx.lag HB rfl rfl ?_) | ((with_reducible refine zae ?_); (first | refine stwa HB rfl rfl ?_ | refine sta HB rfl rfl ?_ | refine Kx.stc HB rfl rfl ?_ | refine Kx.stt HB rfl rfl rfl ?_ | refine Kx.st1 HB rfl rfl rfl ?_); clear HB; intro w_ HB))
 go_cut [7,34] from 16 to 33 (fun s7 t wx => s7 = .bool false ∧ t = .bool b1 ∧ Hid (Bxs w0 wx ((b4,mvs m lo) :: (g,jcs s KA KC RA RC) :: (ga,a.cells g) :: l) (jrow KA KC s.kept :: jrow RA RC s.rest :: r) F))
 case first =>
  cases hle:a.led
  case false =>
   have Hb:Hid (b1 = false):=Lib.hid (by
    cases hq:b1 with
    | false => rfl
    | true => rw [(hb1.out.1 hq).1] at hle; cases hle)
   refine zam HB (fun i => false) (by kernel_rfl) ?_
   refine Kx.tk 0 rfl ?_
   refine Kx.tk 1 rfl ?_
   refine Kx.tk 2 rfl ?_
   refine Kx.tk 3 rfl ?_
   first | refine xl1 4 rfl rfl rfl ?_ | refine xla 4 rfl rfl ?_
   refine Kx.tk 5 rfl ?_
   refine Kx.sk 6 rfl ?_
   refine Kx.sk 7 rfl ?_
   refine Kx.tk 8 rfl ?_
   refine Kx.tk 9 rfl ?_
   refine Kx.sk 10 rfl ?_
   refine Kx.sk 11 rfl ?_
   refine Kx.sk 12 rfl ?_
   refine Kx.sk 13 rfl ?_
   refine Kx.sk 14 rfl ?_
   refine Kx.sk 15 rfl ?_
   refine Kx.sk 16 rfl ?_
   refine Kx.sk 17 rfl ?_
   refine Kx.tk 18 rfl ?_
   refine zaj (by kernel_rfl) ?_
   clear HB
   intro w_ HB_
   have HB:=Lib.hid HB_
   clear HB_
   go_wp2_with fail
   go_meet
   case rel => exact ⟨rfl,by rw [Hb.out],HB⟩
  case true =>
   have Hb:Hid (decide (now - a.wait < a.lt) = b1):=Lib.hid (by
    have h5:=hb1.out
    cases hq:b1 with
    | true => exact decide_eq_true (h5.1 hq).2
    | false => exact decide_eq_false fun q => by rw [h5.2 ⟨hle,q⟩] at hq; cases hq)
   refine zam HB (fun i => false) (by kernel_rfl) ?_
   refine Kx.tk 0 rfl ?_
   refine Kx.tk 1 rfl ?_
   refine Kx.tk 2 rfl ?_
   refine Kx.tk 3 rfl ?_
   first | refine xl1 4 rfl rfl rfl ?_ | refine xla 4 rfl rfl ?_
   refine Kx.tk 5 rfl ?_
   refine Kx.tk 6 rfl ?_
   refine Kx.tk 7 rfl ?_
   refine Kx.tk 8 rfl ?_
   refine Kx.tk 9 rfl ?_
   refine Kx.tk 10 rfl ?_
   refine Kx.tk 11 rfl ?_
   refine Kx.tk 12 rfl ?_
   refine Kx.tk 13 rfl ?_
   first | refine xl1 14 rfl rfl rfl ?_ | refine xla 14 rfl rfl ?_
   refine Kx.tk 15 rfl ?_
   refine zci (i:=16) (v:=?v16_9) (f:=?g16_9) (args:=?s16_9) (a':=?a16_9) (by first | exact Kx.za8 | exact zcr | assumption) rfl (by kernel_rfl) (by kernel_rfl) (by kernel_rfl) (fun _ _ _ h => h) (by kernel_rfl) ?c16_9 ?w16_9 ?y16_9 ?f16_9 ?r16_9
   case w16_9 => kernel_rfl
   case y16_9 => (intro W hW; go_simp; first | (refine ⟨?_,?_⟩ <;> with_reducible rfl) | with_reducible rfl)
   case c16_9 => (intro W hW; refine Calls.mono (HWt.out hW) ?_; rintro e w_ ⟨rfl,hb_⟩; refine ⟨?_,by first | exact hb_ | exact hb_ ▸ Below.refl _ _⟩; with_reducible rfl)
   case f16_9 => (go_simp; try with_reducible rfl)
   refine zci (i:=17) (v:=?v17_10) (f:=?g17_10) (args:=?s17_10) (a':=?a17_10) (by first | exact Kx.za8 | exact zcr | assumption) rfl (by kernel_rfl) (by kernel_rfl) (by kernel_rfl) (fun _ _ _ h => h) (by kernel_rfl) ?c17_10 ?w17_10 ?y17_10 ?f17_10 ?r17_10
   case w17_10 => kernel_rfl
   case y17_10 => (intro W hW; go_simp; first | (refine ⟨?_,?_⟩ <;> with_reducible rfl) | with_reducible rfl)
   case c17_10 => (intro W hW; refine Calls.mono (HBe.out W) ?_; rintro e w_ ⟨rfl,hb_⟩; refine ⟨?_,by first | exact hb_ | exact hb_ ▸ Below.refl _ _⟩; with_reducible rfl)
   case f17_10 => (go_simp; try with_reducible rfl)
   refine Kx.tk 18 rfl ?_
   refine zaj (by kernel_rfl) ?_
   clear HB
   intro w_ HB_
   have HB:=Lib.hid HB_
   clear HB_
   go_wp2_with fail
   go_meet
   case rel => exact ⟨rfl,by rw [Hb.out],HB⟩
 case rest =>
  obtain ⟨rfl,rfl,HB_⟩:=hcut
  have HB:=HB_
  clear HB_
  clear HWt HBe
  cases hq1:b1 with
  | true =>
    have HP:Hid (R = (a,s,none)):=Lib.hid (by rw [HR.out]; unfold zh4; rw [if_neg hld,if_pos (hb1.out.1 hq1)])
    clear HR
    go_wp2
    go_ret
    exact Outs.zbr HP.out rfl (Jbx.box HOk.out HB.out).tail
  | false =>
    have hn1:Hid (¬ NoL a m now):=Lib.hid (fun q => by rw [hb1.out.2 q] at hq1; cases hq1)
    have HP0:Hid ((keep s (rll m)).2 = false → R = (a,(keep s (rll m)).1,none)):=Lib.hid (fun q => by rw [HR.out]; unfold zh4; rw [if_neg hld,if_neg hn1.out,if_neg (by rw [q]; decide)])
    have HP1:Hid ((keep s (rll m)).2 = true → R = ({ a.replay (rll m) noPt with ld:=m.f,lt:=now },(keep s (rll m)).1,some (zdi (a.replay (rll m) noPt) m 2,Lo.zero))):=Lib.hid (fun q => by rw [HR.out]; unfold zh4; rw [if_neg hld,if_neg hn1.out,if_pos q])
    clear HR hn1 hq1 hb1 hld
    generalize a.wrote s (rll m) noPt = a' at *
    generalize a.replay (rll m) noPt = a2 at *
    generalize keep s (rll m) = ks at *
    cases hk:ks.2 with
    | false =>
      rw [hk] at HRm
      have HP:=Lib.hid (HP0.out hk)
      rw [HW0.out hk] at HRm
      clear HP0 HP1 HW0 HW1 hk
      go_wp2_with (first | (go_at_call 65; fail) | ((with_reducible refine zet ?_); refine zdo 37 _ rfl #[(0,.int .i64 11),(1,.int .i64 m.f),(9,.int .i64 2)] (by first | rfl | (go_simp; try rfl)) (mvs (rll m) Lo.zero).toArray (HX.out) rfl ?_; refine Kx.framed ?_ (by simp only [Act.put,List.setIfInBounds_toArray,List.set_cons_succ,List.set_cons_zero] <;> rfl)) | (first | ((with_reducible refine zah HB ?_); clear HB; intro w_ HB) | ((with_reducible refine zad ?_); (first | refine boxa HB rfl ?_ | refine boxt HB rfl rfl ?_ | refine box1 HB rfl rfl ?_); clear HB; intro b_ w_ HB; refine Kx.fr ?_) | ((with_reducible refine zaa ?_); (first | refine ala HB ?_ | refine al1 HB ?_); clear HB; intro b_ w_ HB; refine Kx.fr ?_) | ((with_reducible refine zab ?_); first | refine Kx.l1 HB rfl rfl ?_ | refine Kx.la HB rfl ?_) | ((with_reducible refine zac ?_); first | refine l1g HB rfl rfl rfl ?_ | refine Kx.lag HB rfl rfl ?_) | ((with_reducible refine zae ?_); (first | refine stwa HB rfl rfl ?_ | refine sta HB rfl rfl ?_ | refine Kx.stc HB rfl rfl ?_ | refine Kx.stt HB rfl rfl rfl ?_ | refine Kx.st1 HB rfl rfl rfl ?_); clear HB; intro w_ HB)))
      refine (HRm.out (Jbx.box HOk.out HB.out).swap).mono ?_
      rintro e w2 ⟨rfl,HJ⟩
      replace HJ:=Lib.hid HJ
      clear HB
      go_wp2
      go_ret
      exact Outs.zbr HP.out rfl HJ.out.zcn
    | true =>
      rw [hk] at HRm
      have HP:=Lib.hid (HP1.out hk)
      rw [HW1.out hk] at HRm
      clear HP0 HP1 HW0 HW1 hk
      go_wp2_with (first | (go_at_call 65; fail) | ((with_reducible refine zet ?_); refine zdo 37 _ rfl #[(0,.int .i64 11),(1,.int .i64 m.f),(9,.int .i64 2)] (by first | rfl | (go_simp; try rfl)) (mvs (rll m) Lo.zero).toArray (HX.out) rfl ?_; refine Kx.framed ?_ (by simp only [Act.put,List.setIfInBounds_toArray,List.set_cons_succ,List.set_cons_zero] <;> rfl)) | (first | ((with_reducible refine zah HB ?_); clear HB; intro w_ HB) | ((with_reducible refine zad ?_); (first | refine boxa HB rfl ?_ | refine boxt HB rfl rfl ?_ | refine box1 HB rfl rfl ?_); clear HB; intro b_ w_ HB; refine Kx.fr ?_) | ((with_reducible refine zaa ?_); (first | refine ala HB ?_ | refine al1 HB ?_); clear HB; intro b_ w_ HB; refine Kx.fr ?_) | ((with_reducible refine zab ?_); first | refine Kx.l1 HB rfl rfl ?_ | refine Kx.la HB rfl ?_) | ((with_reducible refine zac ?_); first | refine l1g HB rfl rfl rfl ?_ | refine Kx.lag HB rfl rfl ?_) | ((with_reducible refine zae ?_); (first | refine stwa HB rfl rfl ?_ | refine sta HB rfl rfl ?_ | refine Kx.stc HB rfl rfl ?_ | refine Kx.stt HB rfl rfl rfl ?_ | refine Kx.st1 HB rfl rfl rfl ?_); clear HB; intro w_ HB)))
      refine (HRm.out (Jbx.box HOk.out HB.out).swap).mono ?_
      rintro e w2 ⟨rfl,HJ⟩
      clear HB HRm HOk
      obtain ⟨ok,KA,KC,RA,RC,HB2⟩:=HJ
      have HB:=Lib.hid HB2
      have HOk:=Lib.hid ok
      clear HB2 ok HX
      go_wp2_with (first | (go_at_call 66; fail) | ((with_reducible refine zaz ?_); refine Km.wpList_build rfl 37 _ rfl #[(0,.int .i64 11),(3,.int .i64 m.e),(9,.int .i64 2),(6,.int .i64 m.n)] (by first | rfl | (go_simp; try rfl)) (mvs (mk 11 m.e 0 0 m.n 2 false Pm.zero) Lo.zero).toArray (HX2.out) ?_; refine Kx.framed ?_ (by simp only [Act.put,List.setIfInBounds_toArray,List.set_cons_succ,List.set_cons_zero] <;> rfl)) | (first | ((with_reducible refine zah HB ?_); clear HB; intro w_ HB) | ((with_reducible refine zad ?_); (first | refine boxa HB rfl ?_ | refine boxt HB rfl rfl ?_ | refine box1 HB rfl rfl ?_); clear HB; intro b_ w_ HB; refine Kx.fr ?_) | ((with_reducible refine zaa ?_); (first | refine ala HB ?_ | refine al1 HB ?_); clear HB; intro b_ w_ HB; refine Kx.fr ?_) | ((with_reducible refine zab ?_); first | refine Kx.l1 HB rfl rfl ?_ | refine Kx.la HB rfl ?_) | ((with_reducible refine zac ?_); first | refine l1g HB rfl rfl rfl ?_ | refine Kx.lag HB rfl rfl ?_) | ((with_reducible refine zae ?_); (first | refine stwa HB rfl rfl ?_ | refine sta HB rfl rfl ?_ | refine Kx.stc HB rfl rfl ?_ | refine Kx.stt HB rfl rfl rfl ?_ | refine Kx.st1 HB rfl rfl rfl ?_); clear HB; intro w_ HB)))
      refine (HAn.out { a2 with ld:=m.f,lt:=now } (mk 11 m.e 0 0 m.n 2 false Pm.zero) Lo.zero HB.out).mono ?_
      rintro e w3 ⟨b,rfl,hB⟩
      have HJ:Hid (Jbx w0 w3 g ks.1 ((b,mvs (zdi a2 m 2) Lo.zero) :: (ga,({ a2 with ld:=m.f,lt:=now }:Ac).cells g) :: l) r F):=Lib.hid (Jbx.front hB HOk.out).third.tail
      clear HB hB
      go_wp2
      go_ret
      exact Outs.zcf HP.out rfl HJ.out
end
end Go.Proofs.YtponpgcpmlcdpaaGreatDoor
