import Derived.Test.YtponpgcpmlcdpaaGreatDoorAp
import Derived.Deep.CutBlock
import Derived.Deep.DeepCutAuto
namespace Go.Proofs.YtponpgcpmlcdpaaGreatDoor
open Go.RowKit Go.Shelf Km Kx Kc Kt
set_option linter.unusedVariables false
set_option linter.unusedSimpArgs false
section
variable {w0 w:World} {ga g:Nat} {a:Ac} {s:Jm.St} {l L:List (Nat × List Value)} {r:List Rw} {F:Fz}
def rl (f e co:Int):Mm.Ms:={ mk 11 e 0 0 0 co false Pm.zero with f:=f }
def rlw (m:Mm.Ms):Mm.Ms:=rl m.f m.e 1
def rll (m:Mm.Ms):Mm.Ms:=rl m.f 0 2
def zdi (a:Ac) (m:Mm.Ms) (co:Int):Mm.Ms:=reply a m (mk 11 m.e 0 0 m.n co false Pm.zero)
theorem rl_ok {m:Mm.Ms} (hm:m.Ok) {e co:Int} (he:Pm.I e) (hc:Pm.I co):MsOk (rl m.f e co) Lo.zero :=
 ⟨⟨(show Pm.I 11 from ⟨by decide,by decide⟩),hm.f,I0,he,I0,I0,I0,I0,U0,hc,Pm.zep,(fun _ q => by cases q),Fm.By.nil,Fm.By.nil⟩,rfl,Nat.le_refl _,Nat.zero_le _,rfl,Nat.le_refl _,Nat.zero_le _,rfl,Nat.le_refl _,Nat.zero_le _,rfl,Nat.le_refl _,Nat.zero_le _,rfl,Nat.le_refl _,Nat.zero_le _⟩
theorem rl_in {f e co:Int} {F:Fz}:Within (mfz (rl f e co) Lo.zero) F:=fun q hq => by
 refine .inl ?_
 rcases List.mem_cons.1 hq with rfl | hq
 ·rfl
 ·rcases List.mem_cons.1 hq with rfl | hq
  ·rfl
  ·rcases List.mem_cons.1 hq with rfl | hq
   ·rfl
   ·rcases List.mem_cons.1 hq with rfl | hq
    ·rfl
    ·rcases List.mem_cons.1 hq with rfl | hq
     ·rfl
     ·cases hq
theorem zpp (f e:Int):Tryz.prog.built 37 [(0,.int .i64 11),(1,.int .i64 f),(9,.int .i64 1),(3,.int .i64 e)] = some (mvs (rl f e 1) Lo.zero).toArray:=by kernel_rfl
theorem zpq (f:Int):Tryz.prog.built 37 [(0,.int .i64 11),(1,.int .i64 f),(9,.int .i64 2)] = some (mvs (rl f 0 2) Lo.zero).toArray:=by kernel_rfl
theorem lw_built (e n:Int):Tryz.prog.built 37 [(0,.int .i64 11),(3,.int .i64 e),(9,.int .i64 1),(6,.int .i64 n)] = some (mvs (mk 11 e 0 0 n 1 false Pm.zero) Lo.zero).toArray:=by kernel_rfl
theorem ll_built (e n:Int):Tryz.prog.built 37 [(0,.int .i64 11),(3,.int .i64 e),(9,.int .i64 2),(6,.int .i64 n)] = some (mvs (mk 11 e 0 0 n 2 false Pm.zero) Lo.zero).toArray:=by kernel_rfl
def NoW (a:Ac) (m:Mm.Ms) (now:Int):Prop:=m.e < 1 ∨ m.e < a.e ∨ (m.e < a.wi ∧ now - 2 * a.wait < a.wt)
def Grd (a:Ac) (m:Mm.Ms):Prop:=a.lo ≠ 0 ∧ a.lo ≤ m.e ∧ m.e ≤ a.hi
open Classical in
noncomputable def zh3 (a:Ac) (s:Jm.St) (m:Mm.Ms) (now:Int):Res :=
 if NoW a m now then (a,s,none)
 else if Grd a m then ({ a with wr:=now },s,some (zdi a m 1,Lo.zero))
 else if (keep s (rlw m)).2 = true then ({ a.replay (rlw m) noPt with wr:=now },(keep s (rlw m)).1,some (zdi (a.replay (rlw m) noPt) m 1,Lo.zero)) else (a,(keep s (rlw m)).1,none)
set_option maxRecDepth 100000 in
set_option maxHeartbeats 1000000 in
theorem zoq (h:Jbx w0 w g s ((ga,a.cells g) :: l) r F) (m:Mm.Ms) (lo:Lo) (now:Int) (hm:m.Ok) (ht:Tab w0) (hh:HTab w0) (hz:Jm.size s ≤ 16000000) (hnow:0 ≤ now ∧ now ≤ 1099511627776) (hl:0 ≤ a.c.l ∧ a.c.l ≤ 1048576) (hcm:0 ≤ a.c.m ∧ a.c.m ≤ 1048576) :
  Calls Tryz.prog 40 #[.pointer (some ⟨ga,0,none⟩),.agg (mvs m lo).toArray,.int .i64 now] w fun e w' => Outs w0 w' ga g l r F (zh3 a s m now) e:=by
 obtain ⟨ok,KA,KC,RA,RC,HB0⟩:=h
 have HB:=Lib.hid HB0
 have HOk:=Lib.hid ok
 have HWt:Hid (∀ {W:World} {L:List (Nat × List Value)} {r':List Rw} [InL ga (a.cells g) L],Bxs w0 W L r' F → Calls Tryz.prog 68 #[.pointer (some ⟨ga,0,none⟩)] W fun e w' => e = .returned (.int .i64 a.wait) ∧ Below W.heap.size W w'):=Lib.hid (fun q => zpa q hl hcm)
 have hwi:0 ≤ a.wait ∧ a.wait ≤ 2097152:=by unfold Ac.wait; omega
 have HAn:Hid (∀ (a2:Ac) {W:World} {L:List (Nat × List Value)} {r':List Rw} [InL ga (a2.cells g) L] (y:Mm.Ms) (yl:Lo),Bxs w0 W L r' F → Calls Tryz.prog 66 #[.pointer (some ⟨ga,0,none⟩),.agg (mvs m lo).toArray,.agg (mvs y yl).toArray] W fun e w' => Ans1 w0 w' L r' F (reply a2 m y) yl e):=Lib.hid (fun a2 _ _ _ _ y yl q => zdq q m lo y yl)
 have HRm:Hid (∀ {W:World} {l'},Jbx w0 W g s ((ga,a.cells g) :: l') r F → Calls Tryz.prog 65 #[.pointer (some ⟨ga,0,none⟩),.agg (mvs (rlw m) Lo.zero).toArray] W fun e w' =>
   e = .returned (.bool (keep s (rlw m)).2) ∧ Jbx w0 w' g (keep s (rlw m)).1 ((ga,(a.wrote s (rlw m) noPt).cells g) :: l') r F):=Lib.hid (fun q => zd1 q (rlw m) Lo.zero (rl_ok hm hm.e ⟨by decide,by decide⟩) rl_in ht hh hz)
 obtain ⟨d2,hd2⟩ : ∃ d,d = 2 * a.wait:=⟨_,rfl⟩
 have hw1:IntKind.i64.wrap (2 * a.wait) = d2:=(IntWalk.i64_in _ (by omega)).trans hd2.symm
 have hw2:wrap64 (2 * a.wait) = d2:=(IntWalk.wrap64_in _ (by omega)).trans hd2.symm
 have HBe:Hid (∀ W,Calls Tryz.prog 67 #[.int .i64 now,.int .i64 a.wt,.int .i64 d2] W fun e w' => e = .returned (.bool (decide (now - d2 < a.wt))) ∧ W = w'):=Lib.hid (fun W => zgm now a.wt d2 (by omega) W)
 obtain ⟨R,HR0⟩ : ∃ R,R = zh3 a s m now:=⟨_,rfl⟩
 have HR:=Lib.hid HR0
 rw [←HR0]
 obtain ⟨b1,hb1⟩ : ∃ b:Bool,b = true ↔ NoW a m now:=by
  classical
  exact ⟨decide (NoW a m now),decide_eq_true_iff⟩
 obtain ⟨b2,hb2⟩ : ∃ b:Bool,b = true ↔ Grd a m:=by
  classical
  exact ⟨decide (Grd a m),decide_eq_true_iff⟩
 replace hb1:=Lib.hid hb1
 replace hb2:=Lib.hid hb2
 replace hd2:=Lib.hid hd2
 have HX:Hid (Tryz.prog.built 37 [(0,.int .i64 11),(1,.int .i64 m.f),(9,.int .i64 1),(3,.int .i64 m.e)] = some (mvs (rlw m) Lo.zero).toArray):=Lib.hid (zpp m.f m.e)
 have HX2:=Lib.hid (lw_built m.e m.n)
 have HW0:=Lib.hid (fun q:(keep s (rlw m)).2 = false => Ac.zfb (a:=a) (p:=noPt) q)
 have HW1:=Lib.hid (fun q:(keep s (rlw m)).2 = true => Ac.zey (a:=a) (p:=noPt) q)
 clear HR0 HB0 hm hz ok hnow ht hh hl hcm hwi
 go_enter Tryz.func40,Tryz.ntmps40
 go_upto_region 1 with (first | ((with_reducible refine zah HB ?_); clear HB; intro w_ HB) | ((with_reducible refine zad (d:=some 4) ?_); (first | refine boxa HB rfl ?_ | refine boxt HB rfl rfl ?_ | refine box1 HB rfl rfl ?_); clear HB; intro b4 w_ HB; refine Kx.fr ?_) | ((with_reducible refine zaa (d:=some 4) ?_); (first | refine ala HB ?_ | refine al1 HB ?_); clear HB; intro b4 w_ HB; refine Kx.fr ?_) | ((with_reducible refine zad ?_); (first | refine boxa HB rfl ?_ | refine boxt HB rfl rfl ?_ | refine box1 HB rfl rfl ?_); clear HB; intro b_ w_ HB; refine Kx.fr ?_) | ((with_reducible refine zaa ?_); (first | refine ala HB ?_ | refine al1 HB ?_); clear HB; intro b_ w_ HB; refine Kx.fr ?_) | ((with_reducible refine zab ?_); first | refine Kx.l1 HB rfl rfl ?_ | refine Kx.la HB rfl ?_) | ((with_reducible refine zac ?_); first | refine l1g HB rfl rfl rfl ?_ | refine Kx.lag HB rfl rfl ?_) | ((with_reducible refine zae ?_); (first | refine stwa HB rfl rfl ?_ | refine sta HB rfl rfl ?_ | refine Kx.stc HB rfl rfl ?_ | refine Kx.stt HB rfl rfl rfl ?_ | refine Kx.st1 HB rfl rfl rfl ?_); clear HB; intro w_ HB))
 go_cut [40] from 8 to 39 (fun t wx => t = .bool b1 ∧ Hid (Bxs w0 wx ((b4,mvs m lo) :: (g,jcs s KA KC RA RC) :: (ga,a.cells g) :: l) (jrow KA KC s.kept :: jrow RA RC s.rest :: r) F))
 case first =>
  by_cases h1:m.e < 1
  ·have e1:decide (m.e < 1) = true:=decide_eq_true h1
   have Hb:Hid (b1 = true):=Lib.hid (hb1.out.2 (.inl h1))
   clear h1
   refine zam HB (fun i => false) (by kernel_rfl) ?_
   refine Kx.tk 0 rfl ?_
   first | refine xl1 1 rfl rfl rfl ?_ | refine xla 1 rfl rfl ?_
   refine Kx.tk 2 rfl ?_
   refine Kx.tk 3 rfl ?_
   refine Kx.sk 4 rfl ?_
   refine Kx.sk 5 rfl ?_
   refine Kx.sk 6 rfl ?_
   refine Kx.sk 7 rfl ?_
   refine Kx.sk 8 rfl ?_
   refine Kx.sk 9 rfl ?_
   refine Kx.sk 10 rfl ?_
   refine Kx.sk 11 rfl ?_
   refine Kx.tk 12 rfl ?_
   refine Kx.tk 13 rfl ?_
   refine Kx.sk 14 rfl ?_
   refine Kx.sk 15 rfl ?_
   refine Kx.sk 16 rfl ?_
   refine Kx.sk 17 rfl ?_
   refine Kx.sk 18 rfl ?_
   refine Kx.sk 19 rfl ?_
   refine Kx.sk 20 rfl ?_
   refine Kx.sk 21 rfl ?_
   refine Kx.sk 22 rfl ?_
   refine Kx.sk 23 rfl ?_
   refine Kx.sk 24 rfl ?_
   refine Kx.sk 25 rfl ?_
   refine Kx.sk 26 rfl ?_
   refine Kx.sk 27 rfl ?_
   refine Kx.sk 28 rfl ?_
   refine Kx.sk 29 rfl ?_
   refine Kx.sk 30 rfl ?_
   refine Kx.sk 31 rfl ?_
   refine Kx.tk 32 rfl ?_
   refine zaj (by kernel_rfl) ?_
   clear HB
   intro w_ HB_
   have HB:=Lib.hid HB_
   clear HB_
   go_wp2_with fail
   go_meet
   case rel => exact ⟨by rw [Hb.out],HB⟩
  have e1:decide (m.e < 1) = false:=decide_eq_false h1
  by_cases h2:m.e < a.e
  ·have e2:decide (m.e < a.e) = true:=decide_eq_true h2
   have Hb:Hid (b1 = true):=Lib.hid (hb1.out.2 (.inr (.inl h2)))
   clear h1 h2
   refine zam HB (fun i => false) (by kernel_rfl) ?_
   refine Kx.tk 0 rfl ?_
   first | refine xl1 1 rfl rfl rfl ?_ | refine xla 1 rfl rfl ?_
   refine Kx.tk 2 rfl ?_
   refine Kx.tk 3 rfl ?_
   refine Kx.tk 4 rfl ?_
   first | refine xl1 5 rfl rfl rfl ?_ | refine xla 5 rfl rfl ?_
   refine Kx.tk 6 rfl ?_
   refine Kx.tk 7 rfl ?_
   refine Kx.tk 8 rfl ?_
   refine Kx.tk 9 rfl ?_
   first | refine xl1 10 rfl rfl rfl ?_ | refine xla 10 rfl rfl ?_
   refine Kx.tk 11 rfl ?_
   refine Kx.tk 12 rfl ?_
   refine Kx.tk 13 rfl ?_
   refine Kx.sk 14 rfl ?_
   refine Kx.sk 15 rfl ?_
   refine Kx.sk 16 rfl ?_
   refine Kx.sk 17 rfl ?_
   refine Kx.sk 18 rfl ?_
   refine Kx.sk 19 rfl ?_
   refine Kx.sk 20 rfl ?_
   refine Kx.sk 21 rfl ?_
   refine Kx.sk 22 rfl ?_
   refine Kx.sk 23 rfl ?_
   refine Kx.sk 24 rfl ?_
   refine Kx.sk 25 rfl ?_
   refine Kx.sk 26 rfl ?_
   refine Kx.sk 27 rfl ?_
   refine Kx.sk 28 rfl ?_
   refine Kx.sk 29 rfl ?_
   refine Kx.sk 30 rfl ?_
   refine Kx.sk 31 rfl ?_
   refine Kx.tk 32 rfl ?_
   refine zaj (by kernel_rfl) ?_
   clear HB
   intro w_ HB_
   have HB:=Lib.hid HB_
   clear HB_
   go_wp2_with fail
   go_meet
   case rel => exact ⟨by rw [Hb.out],HB⟩
  have e2:decide (m.e < a.e) = false:=decide_eq_false h2
  by_cases h3:m.e < a.wi
  ·have e3:decide (m.e < a.wi) = true:=decide_eq_true h3
   have Hb:Hid (decide (now - d2 < a.wt) = b1):=Lib.hid (by
    have h5:=hb1.out
    have h6:=hd2.out
    cases hq:b1 with
    | true =>
      rcases h5.1 hq with q | q | q
      ·exact absurd q h1
      ·exact absurd q h2
      ·exact decide_eq_true (by omega)
    | false => exact decide_eq_false fun q => by rw [h5.2 (.inr (.inr ⟨h3,by omega⟩))] at hq; cases hq)
   clear h1 h2 h3
   refine zam HB (fun i => false) (by kernel_rfl) ?_
   refine Kx.tk 0 rfl ?_
   first | refine xl1 1 rfl rfl rfl ?_ | refine xla 1 rfl rfl ?_
   refine Kx.tk 2 rfl ?_
   refine Kx.tk 3 rfl ?_
   refine Kx.tk 4 rfl ?_
   first | refine xl1 5 rfl rfl rfl ?_ | refine xla 5 rfl rfl ?_
   refine Kx.tk 6 rfl ?_
   refine Kx.tk 7 rfl ?_
   refine Kx.tk 8 rfl ?_
   refine Kx.tk 9 rfl ?_
   first | refine xl1 10 rfl rfl rfl ?_ | refine xla 10 rfl rfl ?_
   refine Kx.tk 11 rfl ?_
   refine Kx.tk 12 rfl ?_
   refine Kx.tk 13 rfl ?_
   refine Kx.tk 14 rfl ?_
   first | refine xl1 15 rfl rfl rfl ?_ | refine xla 15 rfl rfl ?_
   refine Kx.tk 16 rfl ?_
   refine Kx.tk 17 rfl ?_
   refine Kx.tk 18 rfl ?_
   first | refine xl1 19 rfl rfl rfl ?_ | refine xla 19 rfl rfl ?_
   refine Kx.tk 20 rfl ?_
   refine Kx.tk 21 rfl ?_
   refine Kx.tk 22 rfl ?_
   refine Kx.tk 23 rfl ?_
   refine Kx.tk 24 rfl ?_
   refine Kx.tk 25 rfl ?_
   first | refine xl1 26 rfl rfl rfl ?_ | refine xla 26 rfl rfl ?_
   refine Kx.tk 27 rfl ?_
   refine zci (i:=28) (v:=?v28_7) (f:=?g28_7) (args:=?s28_7) (a':=?a28_7) (by first | exact Kx.za8 | exact zcr | assumption) rfl (by kernel_rfl) (by kernel_rfl) (by kernel_rfl) (fun _ _ _ h => h) (by kernel_rfl) ?c28_7 ?w28_7 ?y28_7 ?f28_7 ?r28_7
   case w28_7 => kernel_rfl
   case y28_7 => (intro W hW; go_simp; first | (refine ⟨?_,?_⟩ <;> with_reducible rfl) | with_reducible rfl)
   case c28_7 => (intro W hW; refine Calls.mono (HWt.out hW) ?_; rintro e w_ ⟨rfl,hb_⟩; refine ⟨?_,by first | exact hb_ | exact hb_ ▸ Below.refl _ _⟩; with_reducible rfl)
   case f28_7 => (go_simp; try with_reducible rfl)
   refine Kx.tk 29 rfl ?_
   refine zci (i:=30) (v:=?v30_8) (f:=?g30_8) (args:=?s30_8) (a':=?a30_8) (by first | exact Kx.za8 | exact zcr | assumption) rfl (by kernel_rfl) (by kernel_rfl) (by kernel_rfl) (fun _ _ _ h => h) (by kernel_rfl) ?c30_8 ?w30_8 ?y30_8 ?f30_8 ?r30_8
   case w30_8 => kernel_rfl
   case y30_8 => (intro W hW; go_simp; first | (refine ⟨?_,?_⟩ <;> with_reducible rfl) | with_reducible rfl)
   case c30_8 => (intro W hW; refine Calls.mono (HBe.out W) ?_; rintro e w_ ⟨rfl,hb_⟩; refine ⟨?_,by first | exact hb_ | exact hb_ ▸ Below.refl _ _⟩; with_reducible rfl)
   case f30_8 => (go_simp; try with_reducible rfl)
   refine Kx.tk 31 rfl ?_
   refine Kx.tk 32 rfl ?_
   refine zaj (by kernel_rfl) ?_
   clear HB
   intro w_ HB_
   have HB:=Lib.hid HB_
   clear HB_
   go_wp2_with fail
   go_meet
   case rel => exact ⟨by rw [Hb.out],HB⟩
  ·have e3:decide (m.e < a.wi) = false:=decide_eq_false h3
   have Hb:Hid (b1 = false):=Lib.hid (by
    cases hq:b1 with
    | false => rfl
    | true =>
      rcases hb1.out.1 hq with q | q | q
      ·exact absurd q h1
      ·exact absurd q h2
      ·exact absurd q.1 h3)
   clear h1 h2 h3
   refine zam HB (fun i => false) (by kernel_rfl) ?_
   refine Kx.tk 0 rfl ?_
   first | refine xl1 1 rfl rfl rfl ?_ | refine xla 1 rfl rfl ?_
   refine Kx.tk 2 rfl ?_
   refine Kx.tk 3 rfl ?_
   refine Kx.tk 4 rfl ?_
   first | refine xl1 5 rfl rfl rfl ?_ | refine xla 5 rfl rfl ?_
   refine Kx.tk 6 rfl ?_
   refine Kx.tk 7 rfl ?_
   refine Kx.tk 8 rfl ?_
   refine Kx.tk 9 rfl ?_
   first | refine xl1 10 rfl rfl rfl ?_ | refine xla 10 rfl rfl ?_
   refine Kx.tk 11 rfl ?_
   refine Kx.tk 12 rfl ?_
   refine Kx.tk 13 rfl ?_
   refine Kx.tk 14 rfl ?_
   first | refine xl1 15 rfl rfl rfl ?_ | refine xla 15 rfl rfl ?_
   refine Kx.tk 16 rfl ?_
   refine Kx.tk 17 rfl ?_
   refine Kx.tk 18 rfl ?_
   first | refine xl1 19 rfl rfl rfl ?_ | refine xla 19 rfl rfl ?_
   refine Kx.tk 20 rfl ?_
   refine Kx.tk 21 rfl ?_
   refine Kx.sk 22 rfl ?_
   refine Kx.sk 23 rfl ?_
   refine Kx.sk 24 rfl ?_
   refine Kx.sk 25 rfl ?_
   refine Kx.sk 26 rfl ?_
   refine Kx.sk 27 rfl ?_
   refine Kx.sk 28 rfl ?_
   refine Kx.sk 29 rfl ?_
   refine Kx.sk 30 rfl ?_
   refine Kx.tk 31 rfl ?_
   refine Kx.tk 32 rfl ?_
   refine zaj (by kernel_rfl) ?_
   clear HB
   intro w_ HB_
   have HB:=Lib.hid HB_
   clear HB_
   go_wp2_with fail
   go_meet
   case rel => exact ⟨by rw [Hb.out],HB⟩
 case rest =>
  obtain ⟨rfl,HB_⟩:=hcut
  have HB:=HB_
  clear HB_
  clear HWt HBe hw1 hw2
  cases hq1:b1 with
  | true =>
    have HP:Hid (R = (a,s,none)):=Lib.hid (by rw [HR.out]; exact if_pos (hb1.out.1 hq1))
    clear HR
    go_wp2
    go_ret
    exact Outs.zbr HP.out rfl (Jbx.box HOk.out HB.out).tail
  | false =>
    have hn1:Hid (¬ NoW a m now):=Lib.hid (fun q => by rw [hb1.out.2 q] at hq1; cases hq1)
    clear hq1 hb1
    go_upto_region 3 with (first | ((with_reducible refine zah HB ?_); clear HB; intro w_ HB) | ((with_reducible refine zad ?_); (first | refine boxa HB rfl ?_ | refine boxt HB rfl rfl ?_ | refine box1 HB rfl rfl ?_); clear HB; intro b_ w_ HB; refine Kx.fr ?_) | ((with_reducible refine zaa ?_); (first | refine ala HB ?_ | refine al1 HB ?_); clear HB; intro b_ w_ HB; refine Kx.fr ?_) | ((with_reducible refine zab ?_); first | refine Kx.l1 HB rfl rfl ?_ | refine Kx.la HB rfl ?_) | ((with_reducible refine zac ?_); first | refine l1g HB rfl rfl rfl ?_ | refine Kx.lag HB rfl rfl ?_) | ((with_reducible refine zae ?_); (first | refine stwa HB rfl rfl ?_ | refine sta HB rfl rfl ?_ | refine Kx.stc HB rfl rfl ?_ | refine Kx.stt HB rfl rfl rfl ?_ | refine Kx.st1 HB rfl rfl rfl ?_); clear HB; intro w_ HB))
    go_cut [7] from 41 to 66 (fun t wx => t = .bool b2 ∧ Hid (Bxs w0 wx ((b4,mvs m lo) :: (g,jcs s KA KC RA RC) :: (ga,a.cells g) :: l) (jrow KA KC s.kept :: jrow RA RC s.rest :: r) F))
    case first =>
     by_cases h1:a.lo = 0
     ·have e1:(a.lo != 0) = false:=by simpa using h1
      have Hb:Hid (b2 = false):=Lib.hid (by
       cases hq:b2 with
       | false => rfl
       | true => exact absurd h1 (hb2.out.1 hq).1)
      clear h1
      refine zam HB (fun i => false) (by kernel_rfl) ?_
      refine Kx.tk 0 rfl ?_
      refine Kx.tk 1 rfl ?_
      refine Kx.tk 2 rfl ?_
      refine Kx.tk 3 rfl ?_
      first | refine xl1 4 rfl rfl rfl ?_ | refine xla 4 rfl rfl ?_
      refine Kx.tk 5 rfl ?_
      refine Kx.tk 6 rfl ?_
      refine Kx.sk 7 rfl ?_
      refine Kx.sk 8 rfl ?_
      refine Kx.sk 9 rfl ?_
      refine Kx.sk 10 rfl ?_
      refine Kx.sk 11 rfl ?_
      refine Kx.sk 12 rfl ?_
      refine Kx.sk 13 rfl ?_
      refine Kx.sk 14 rfl ?_
      refine Kx.tk 15 rfl ?_
      refine Kx.tk 16 rfl ?_
      refine Kx.sk 17 rfl ?_
      refine Kx.sk 18 rfl ?_
      refine Kx.sk 19 rfl ?_
      refine Kx.sk 20 rfl ?_
      refine Kx.sk 21 rfl ?_
      refine Kx.sk 22 rfl ?_
      refine Kx.sk 23 rfl ?_
      refine Kx.sk 24 rfl ?_
      refine Kx.tk 25 rfl ?_
      refine Kx.tk 26 rfl ?_
      refine zaj (by kernel_rfl) ?_
      clear HB
      intro w_ HB_
      have HB:=Lib.hid HB_
      clear HB_
      go_wp2_with fail
      go_meet
      case rel => exact ⟨by rw [Hb.out],HB⟩
     have e1:(a.lo != 0) = true:=by simpa using h1
     by_cases h2:a.lo ≤ m.e
     ·have e2:decide (a.lo ≤ m.e) = true:=decide_eq_true h2
      have Hb:Hid (decide (m.e ≤ a.hi) = b2):=Lib.hid (by
       have h5:=hb2.out
       cases hq:b2 with
       | true => exact decide_eq_true (h5.1 hq).2.2
       | false => exact decide_eq_false fun q => by rw [h5.2 ⟨h1,h2,q⟩] at hq; cases hq)
      clear h1 h2
      refine zam HB (fun i => false) (by kernel_rfl) ?_
      refine Kx.tk 0 rfl ?_
      refine Kx.tk 1 rfl ?_
      refine Kx.tk 2 rfl ?_
      refine Kx.tk 3 rfl ?_
      first | refine xl1 4 rfl rfl rfl ?_ | refine xla 4 rfl rfl ?_
      refine Kx.tk 5 rfl ?_
      refine Kx.tk 6 rfl ?_
      refine Kx.tk 7 rfl ?_
      first | refine xl1 8 rfl rfl rfl ?_ | refine xla 8 rfl rfl ?_
      refine Kx.tk 9 rfl ?_
      refine Kx.tk 10 rfl ?_
      refine Kx.tk 11 rfl ?_
      refine Kx.tk 12 rfl ?_
      first | refine xl1 13 rfl rfl rfl ?_ | refine xla 13 rfl rfl ?_
      refine Kx.tk 14 rfl ?_
      refine Kx.tk 15 rfl ?_
      refine Kx.tk 16 rfl ?_
      refine Kx.tk 17 rfl ?_
      first | refine xl1 18 rfl rfl rfl ?_ | refine xla 18 rfl rfl ?_
      refine Kx.tk 19 rfl ?_
      refine Kx.tk 20 rfl ?_
      refine Kx.tk 21 rfl ?_
      refine Kx.tk 22 rfl ?_
      first | refine xl1 23 rfl rfl rfl ?_ | refine xla 23 rfl rfl ?_
      refine Kx.tk 24 rfl ?_
      refine Kx.tk 25 rfl ?_
      refine Kx.tk 26 rfl ?_
      refine zaj (by kernel_rfl) ?_
      clear HB
      intro w_ HB_
      have HB:=Lib.hid HB_
      clear HB_
      go_wp2_with fail
      go_meet
      case rel => exact ⟨by rw [Hb.out],HB⟩
     ·have e2:decide (a.lo ≤ m.e) = false:=decide_eq_false h2
      have Hb:Hid (b2 = false):=Lib.hid (by
       cases hq:b2 with
       | false => rfl
       | true => exact absurd (hb2.out.1 hq).2.1 h2)
      clear h1 h2
      refine zam HB (fun i => false) (by kernel_rfl) ?_
      refine Kx.tk 0 rfl ?_
      refine Kx.tk 1 rfl ?_
      refine Kx.tk 2 rfl ?_
      refine Kx.tk 3 rfl ?_
      first | refine xl1 4 rfl rfl rfl ?_ | refine xla 4 rfl rfl ?_
      refine Kx.tk 5 rfl ?_
      refine Kx.tk 6 rfl ?_
      refine Kx.tk 7 rfl ?_
      first | refine xl1 8 rfl rfl rfl ?_ | refine xla 8 rfl rfl ?_
      refine Kx.tk 9 rfl ?_
      refine Kx.tk 10 rfl ?_
      refine Kx.tk 11 rfl ?_
      refine Kx.tk 12 rfl ?_
      first | refine xl1 13 rfl rfl rfl ?_ | refine xla 13 rfl rfl ?_
      refine Kx.tk 14 rfl ?_
      refine Kx.tk 15 rfl ?_
      refine Kx.tk 16 rfl ?_
      refine Kx.sk 17 rfl ?_
      refine Kx.sk 18 rfl ?_
      refine Kx.sk 19 rfl ?_
      refine Kx.sk 20 rfl ?_
      refine Kx.sk 21 rfl ?_
      refine Kx.sk 22 rfl ?_
      refine Kx.sk 23 rfl ?_
      refine Kx.sk 24 rfl ?_
      refine Kx.tk 25 rfl ?_
      refine Kx.tk 26 rfl ?_
      refine zaj (by kernel_rfl) ?_
      clear HB
      intro w_ HB_
      have HB:=Lib.hid HB_
      clear HB_
      go_wp2_with fail
      go_meet
      case rel => exact ⟨by rw [Hb.out],HB⟩
    case rest =>
     obtain ⟨rfl,HB_⟩:=hcut
     have HB:=HB_
     clear HB_
     cases hq2:b2 with
     | true =>
       have HP:Hid (R = ({ a with wr:=now },s,some (zdi a m 1,Lo.zero))):=Lib.hid (by rw [HR.out]; unfold zh3; rw [if_neg hn1.out,if_pos (hb2.out.1 hq2)])
       clear HR hn1 hq2 hb2 HRm HX
       go_wp2_with (first | (go_at_call 66; fail) | ((with_reducible refine zaz ?_); refine Km.wpList_build rfl 37 _ rfl #[(0,.int .i64 11),(3,.int .i64 m.e),(9,.int .i64 1),(6,.int .i64 m.n)] (by first | rfl | (go_simp; try rfl)) (mvs (mk 11 m.e 0 0 m.n 1 false Pm.zero) Lo.zero).toArray (HX2.out) ?_; refine Kx.framed ?_ (by simp only [Act.put,List.setIfInBounds_toArray,List.set_cons_succ,List.set_cons_zero] <;> rfl)) | (first | ((with_reducible refine zah HB ?_); clear HB; intro w_ HB) | ((with_reducible refine zad ?_); (first | refine boxa HB rfl ?_ | refine boxt HB rfl rfl ?_ | refine box1 HB rfl rfl ?_); clear HB; intro b_ w_ HB; refine Kx.fr ?_) | ((with_reducible refine zaa ?_); (first | refine ala HB ?_ | refine al1 HB ?_); clear HB; intro b_ w_ HB; refine Kx.fr ?_) | ((with_reducible refine zab ?_); first | refine Kx.l1 HB rfl rfl ?_ | refine Kx.la HB rfl ?_) | ((with_reducible refine zac ?_); first | refine l1g HB rfl rfl rfl ?_ | refine Kx.lag HB rfl rfl ?_) | ((with_reducible refine zae ?_); (first | refine stwa HB rfl rfl ?_ | refine sta HB rfl rfl ?_ | refine Kx.stc HB rfl rfl ?_ | refine Kx.stt HB rfl rfl rfl ?_ | refine Kx.st1 HB rfl rfl rfl ?_); clear HB; intro w_ HB)))
       refine (HAn.out { a with wr:=now } (mk 11 m.e 0 0 m.n 1 false Pm.zero) Lo.zero HB.out).mono ?_
       rintro e w3 ⟨b,rfl,hB⟩
       have HJ:Hid (Jbx w0 w3 g s ((b,mvs (zdi a m 1) Lo.zero) :: (ga,({ a with wr:=now }:Ac).cells g) :: l) r F):=Lib.hid (Jbx.box3 HOk.out hB).zcn
       clear HB hB
       go_wp2
       go_ret
       exact Outs.zcf HP.out rfl HJ.out
     | false =>
       have hn2:Hid (¬ Grd a m):=Lib.hid (fun q => by rw [hb2.out.2 q] at hq2; cases hq2)
       have HP0:Hid ((keep s (rlw m)).2 = false → R = (a,(keep s (rlw m)).1,none)):=Lib.hid (fun q => by rw [HR.out]; unfold zh3; rw [if_neg hn1.out,if_neg hn2.out,if_neg (by rw [q]; decide)])
       have HP1:Hid ((keep s (rlw m)).2 = true → R = ({ a.replay (rlw m) noPt with wr:=now },(keep s (rlw m)).1,some (zdi (a.replay (rlw m) noPt) m 1,Lo.zero))):=Lib.hid (fun q => by rw [HR.out]; unfold zh3; rw [if_neg hn1.out,if_neg hn2.out,if_pos q])
       clear HR hn1 hn2 hq2 hb2
       generalize a.wrote s (rlw m) noPt = a' at *
       generalize a.replay (rlw m) noPt = a2 at *
       generalize keep s (rlw m) = ks at *
       cases hk:ks.2 with
       | false =>
         rw [hk] at HRm
         have HP:=Lib.hid (HP0.out hk)
         rw [HW0.out hk] at HRm
         clear HP0 HP1 HW0 HW1 hk
         go_wp2_with (first | (go_at_call 65; fail) | ((with_reducible refine zet ?_); refine zdo 37 _ rfl #[(0,.int .i64 11),(1,.int .i64 m.f),(9,.int .i64 1),(3,.int .i64 m.e)] (by first | rfl | (go_simp; try rfl)) (mvs (rlw m) Lo.zero).toArray (HX.out) rfl ?_; refine Kx.framed ?_ (by simp only [Act.put,List.setIfInBounds_toArray,List.set_cons_succ,List.set_cons_zero] <;> rfl)) | (first | ((with_reducible refine zah HB ?_); clear HB; intro w_ HB) | ((with_reducible refine zad ?_); (first | refine boxa HB rfl ?_ | refine boxt HB rfl rfl ?_ | refine box1 HB rfl rfl ?_); clear HB; intro b_ w_ HB; refine Kx.fr ?_) | ((with_reducible refine zaa ?_); (first | refine ala HB ?_ | refine al1 HB ?_); clear HB; intro b_ w_ HB; refine Kx.fr ?_) | ((with_reducible refine zab ?_); first | refine Kx.l1 HB rfl rfl ?_ | refine Kx.la HB rfl ?_) | ((with_reducible refine zac ?_); first | refine l1g HB rfl rfl rfl ?_ | refine Kx.lag HB rfl rfl ?_) | ((with_reducible refine zae ?_); (first | refine stwa HB rfl rfl ?_ | refine sta HB rfl rfl ?_ | refine Kx.stc HB rfl rfl ?_ | refine Kx.stt HB rfl rfl rfl ?_ | refine Kx.st1 HB rfl rfl rfl ?_); clear HB; intro w_ HB)))
         refine (HRm.out (Jbx.box HOk.out HB.out).swap).mono ?_
         rintro e w2 ⟨rfl,HJ⟩
         replace HJ:=Lib.hid HJ
         clear HB
         go_wp2
         go_ret
         exact Outs.zbr HP.out rfl HJ.out.zcn
       | true =>
         rw [hk] at HRm
         have HP:=Lib.hid (HP1.out hk)
         rw [HW1.out hk] at HRm
         clear HP0 HP1 HW0 HW1 hk
         go_wp2_with (first | (go_at_call 65; fail) | ((with_reducible refine zet ?_); refine zdo 37 _ rfl #[(0,.int .i64 11),(1,.int .i64 m.f),(9,.int .i64 1),(3,.int .i64 m.e)] (by first | rfl | (go_simp; try rfl)) (mvs (rlw m) Lo.zero).toArray (HX.out) rfl ?_; refine Kx.framed ?_ (by simp only [Act.put,List.setIfInBounds_toArray,List.set_cons_succ,List.set_cons_zero] <;> rfl)) | (first | ((with_reducible refine zah HB ?_); clear HB; intro w_ HB) | ((with_reducible refine zad ?_); (first | refine boxa HB rfl ?_ | refine boxt HB rfl rfl ?_ | refine box1 HB rfl rfl ?_); clear HB; intro b_ w_ HB; refine Kx.fr ?_) | ((with_reducible refine zaa ?_); (first | refine ala HB ?_ | refine al1 HB ?_); clear HB; intro b_ w_ HB; refine Kx.fr ?_) | ((with_reducible refine zab ?_); first | refine Kx.l1 HB rfl rfl ?_ | refine Kx.la HB rfl ?_) | ((with_reducible refine zac ?_); first | refine l1g HB rfl rfl rfl ?_ | refine Kx.lag HB rfl rfl ?_) | ((with_reducible refine zae ?_); (first | refine stwa HB rfl rfl ?_ | refine sta HB rfl rfl ?_ | refine Kx.stc HB rfl rfl ?_ | refine Kx.stt HB rfl rfl rfl ?_ | refine Kx.st1 HB rfl rfl rfl ?_); clear HB; intro w_ HB)))
         refine (HRm.out (Jbx.box HOk.out HB.out).swap).mono ?_
         rintro e w2 ⟨rfl,HJ⟩
         clear HB HRm HOk
         obtain ⟨ok,KA,KC,RA,RC,HB2⟩:=HJ
         have HB:=Lib.hid HB2
         have HOk:=Lib.hid ok
         clear HB2 ok HX
         go_wp2_with (first | (go_at_call 66; fail) | ((with_reducible refine zaz ?_); refine Km.wpList_build rfl 37 _ rfl #[(0,.int .i64 11),(3,.int .i64 m.e),(9,.int .i64 1),(6,.int .i64 m.n)] (by first | rfl | (go_simp; try rfl)) (mvs (mk 11 m.e 0 0 m.n 1 false Pm.zero) Lo.zero).toArray (HX2.out) ?_; refine Kx.framed ?_ (by simp only [Act.put,List.setIfInBounds_toArray,List.set_cons_succ,List.set_cons_zero] <;> rfl)) | (first | ((with_reducible refine zah HB ?_); clear HB; intro w_ HB) | ((with_reducible refine zad ?_); (first | refine boxa HB rfl ?_ | refine boxt HB rfl rfl ?_ | refine box1 HB rfl rfl ?_); clear HB; intro b_ w_ HB; refine Kx.fr ?_) | ((with_reducible refine zaa ?_); (first | refine ala HB ?_ | refine al1 HB ?_); clear HB; intro b_ w_ HB; refine Kx.fr ?_) | ((with_reducible refine zab ?_); first | refine Kx.l1 HB rfl rfl ?_ | refine Kx.la HB rfl ?_) | ((with_reducible refine zac ?_); first | refine l1g HB rfl rfl rfl ?_ | refine Kx.lag HB rfl rfl ?_) | ((with_reducible refine zae ?_); (first | refine stwa HB rfl rfl ?_ | refine sta HB rfl rfl ?_ | refine Kx.stc HB rfl rfl ?_ | refine Kx.stt HB rfl rfl rfl ?_ | refine Kx.st1 HB rfl rfl rfl ?_); clear HB; intro w_ HB)))
         refine (HAn.out { a2 with wr:=now } (mk 11 m.e 0 0 m.n 1 false Pm.zero) Lo.zero HB.out).mono ?_
         rintro e w3 ⟨b,rfl,hB⟩
         have HJ:Hid (Jbx w0 w3 g ks.1 ((b,mvs (zdi a2 m 1) Lo.zero) :: (ga,({ a2 with wr:=now }:Ac).cells g) :: l) r F):=Lib.hid (Jbx.front hB HOk.out).third.tail
         clear HB hB
         go_wp2
         go_ret
         exact Outs.zcf HP.out rfl HJ.out
end
end Go.Proofs.YtponpgcpmlcdpaaGreatDoor
