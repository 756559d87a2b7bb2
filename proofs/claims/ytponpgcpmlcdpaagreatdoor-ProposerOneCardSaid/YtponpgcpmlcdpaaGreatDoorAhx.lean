import Derived.Test.YtponpgcpmlcdpaaGreatDoorAp
import Derived.Deep.CutBlock
import Derived.Deep.DeepCutAuto
import Derived.Test.YtponpgcpmlcdpaaGreatDoorAq
import Derived.Test.YtponpgcpmlcdpaaGreatDoorAr
namespace Go.Proofs.YtponpgcpmlcdpaaGreatDoor
open Go.RowKit Go.Shelf Km Kx Kc Kt
set_option linter.unusedVariables false
set_option linter.unusedSimpArgs false
section
variable {w0 w:World} {ga g:Nat} {a:Ac} {s:Jm.St} {l L:List (Nat×List Value)} {r:List Rw} {F:Fz}
def rl (f e co:Int):Mm.Ms:={ mk 11 e 0 0 0 co false Pm.zero with f:=f }
def rlw (m:Mm.Ms):Mm.Ms:=rl m.f m.e 1
def rll (m:Mm.Ms):Mm.Ms:=rl m.f 0 2
def zgg (a:Ac) (m:Mm.Ms) (co:Int):Mm.Ms:=reply a m (mk 11 m.e 0 0 m.n co false Pm.zero)
theorem rl_ok {m:Mm.Ms} (hm:m.Ok) {e co:Int} (he:Pm.I e) (hc:Pm.I co):MsOk (rl m.f e co) Lo.zero :=
 ⟨⟨(show Pm.I 11 from ⟨by decide,by decide⟩),hm.f,I0,he,I0,I0,I0,I0,U0,hc,Pm.zfh,(fun _ q=>by cases q),Fm.By.nil,Fm.By.nil⟩,rfl,Nat.le_refl _,Nat.zero_le _,rfl,Nat.le_refl _,Nat.zero_le _,rfl,Nat.le_refl _,Nat.zero_le _,rfl,Nat.le_refl _,Nat.zero_le _,rfl,Nat.le_refl _,Nat.zero_le _⟩
def NoW (a:Ac) (m:Mm.Ms) (now:Int):Prop:=m.e < 1∨m.e < a.e∨(m.e < a.wi∧now - 2 * a.wait < a.wt)
def Grd (a:Ac) (m:Mm.Ms):Prop:=a.lo≠0∧a.lo≤m.e∧m.e≤a.hi
open Classical in
noncomputable def zq8 (a:Ac) (s:Jm.St) (m:Mm.Ms) (now:Int):Res :=
 if NoW a m now then (a,s,none)
 else if Grd a m then ({ a with wr:=now },s,some (zgg a m 1,Lo.zero))
 else if (keep s (rlw m)).2=true then ({ a.replay (rlw m) noPt with wr:=now },(keep s (rlw m)).1,some (zgg (a.replay (rlw m) noPt) m 1,Lo.zero)) else (a,(keep s (rlw m)).1,none)
end
end Go.Proofs.YtponpgcpmlcdpaaGreatDoor

namespace Go.Proofs.YtponpgcpmlcdpaaGreatDoor
open Go.RowKit Go.Shelf Km Kx Kc Kt
set_option linter.unusedVariables false
set_option linter.unusedSimpArgs false
section
variable {w0 w:World} {ga g:Nat} {a:Ac} {s:Jm.St} {l L:List (Nat×List Value)} {r:List Rw} {F:Fz}
def NoL (a:Ac) (m:Mm.Ms) (now:Int):Prop:=a.led=true∧now - a.wait < a.lt
open Classical in
noncomputable def zq9 (a:Ac) (s:Jm.St) (m:Mm.Ms) (now:Int):Res :=
 if a.ld=m.f then ({ a with ld:=m.f,lt:=now },s,some (zgg a m 2,Lo.zero))
 else if NoL a m now then (a,s,none)
 else if (keep s (rll m)).2=true then ({ a.replay (rll m) noPt with ld:=m.f,lt:=now },(keep s (rll m)).1,some (zgg (a.replay (rll m) noPt) m 2,Lo.zero)) else (a,(keep s (rll m)).1,none)
end
end Go.Proofs.YtponpgcpmlcdpaaGreatDoor

namespace Go.Proofs.YtponpgcpmlcdpaaGreatDoor
open Go.RowKit Go.Shelf Km Kx Kc Kt
set_option linter.unusedVariables false
set_option linter.unusedSimpArgs false
section
variable {w0 w:World} {ga g:Nat} {a:Ac} {s:Jm.St} {l L:List (Nat×List Value)} {r:List Rw} {F:Fz}
theorem st_of {p:Pm.Pl} (h:p.right=true):0≤p.st∧p.st≤1099511627776:=by
 obtain ⟨-,-,h⟩:=Pm.zeo h
 have h5:=h.1 5 (by decide)
 exact h5
def Fit (s:Jm.St) (m:Mm.Ms) (now:Int):Prop:=m.right=true∧0≤now∧now≤1099511627776∧s.off=false
open Classical in
noncomputable def handle (a:Ac) (s:Jm.St) (m:Mm.Ms) (lo:Lo) (now:Int):Res :=
 if Fit s m now then
  (if m.k=4 then (if Prp m (m.e - 1) then prepare a s m lo now else (a,s,none))
   else if m.k=7 then (if Prp m m.e then accept a s m lo now else (a,s,none))
   else if m.k=10 then (if m.co=1 then zq8 a s m now else if m.co=2 then zq9 a s m now else (a,s,none))
   else (a,s,none))
 else (a,s,none)
theorem zgx {a:Ac} {s:Jm.St} {m:Mm.Ms} {lo:Lo} {now:Int} (h:¬ Fit s m now):handle a s m lo now=(a,s,none):=if_neg h
structure AcOk (a:Ac) (F:Fz):Prop where
 kn:a.kn.Fine
 kf:Within a.kn.fz F
 l:0≤a.c.l∧a.c.l≤1048576
 m:0≤a.c.m∧a.c.m≤1048576
end
end Go.Proofs.YtponpgcpmlcdpaaGreatDoor

namespace Go.Proofs.YtponpgcpmlcdpaaGreatDoor
open Go.RowKit Go.Shelf Km Kx Kc Kt
set_option linter.unusedVariables false
set_option linter.unusedSimpArgs false
section
variable {w0 w:World} {ga g:Nat} {a:Ac} {s:Jm.St} {l L:List (Nat×List Value)} {r:List Rw} {F:Fz}
set_option maxRecDepth 100000 in
set_option maxHeartbeats 1000000 in
theorem zgj (h : Jbx w0 w g s ((ga, a.cells g) :: l) r F) (ha : AcOk a F) (m : Mm.Ms) (lo : Lo) (now : Int) (hm : MsOk m lo) (hs : Within (mfz m lo) F) (ht : Tab w0) (hh : HTab w0) (hz : Jm.size s ≤ 16000000) (hkk : m.k = 4 ∨ m.k = 7) (hnn : 0 ≤ now ∧ now ≤ 1099511627776) (hoo : s.off = false) :
  Calls Tryz.prog 14 #[.pointer (some ⟨ga,0,none⟩),.agg (mvs m lo).toArray,.int .i64 now] w fun e w'=>Outs w0 w' ga g l r F (handle a s m lo now) e:=by
 have hs2:Within (mpt m lo).fz F:=fun q hq=>by
  rcases List.mem_cons.1 hq with rfl|hq
  ·exact hs _ (List.mem_cons_self ..)
  ·rcases List.mem_cons.1 hq with rfl|hq
   ·exact hs _ (List.mem_cons_of_mem _ (List.mem_cons_self ..))
   ·cases hq
 obtain ⟨ok,KA,KC,RA,RC,HB0⟩:=h
 have HB:=Lib.hid HB0
 have HOk:=Lib.hid ok
 have HRi:Hid (∀ {W:World} {L:List (Nat×List Value)} {r':List Rw},Bxs w0 W L r' F→Calls Tryz.prog 35 #[.agg (mvs m lo).toArray] W fun e w'=>e = .returned (.bool m.right)∧Below W.heap.size W w'):=Lib.hid (fun q=>zg3 m lo _ _ (hm.at hs q) (Nat.le_refl _) (ht.below q.below (Nat.le_refl _)))
 obtain ⟨R,HR0⟩ : ∃R,R=handle a s m lo now:=⟨_,rfl⟩
 have HR:=Lib.hid HR0
 rw [←HR0]
 clear HR0 HB0
 have hR0:∀b,m.right=b→Hid (m.right=b):=fun _ q=>q
 cases hri:m.right with
 | false =>
   have HP:Hid (R=(a,s,none)):=Lib.hid (by rw [HR.out];exact zgx fun q=>by rw [q.1] at hri;cases hri)
   rw [hri] at HRi
   clear hkk hnn hoo hm hs hs2 ht hh hz ok HR hR0 hri ha
   go_enter Tryz.func14,Tryz.ntmps14
   go_wp2_with (first|(go_at_call 35;refine (HRi.out HB.out).mono ?_;rintro e w_ ⟨rfl,hb_⟩;replace HB:=Lib.hid (HB.out.call hb_);clear hb_)|(first|((with_reducible refine zah HB ?_);clear HB;intro w_ HB)|((with_reducible refine zae ?_);(first|refine boxa HB rfl ?_|refine boxt HB rfl rfl ?_|refine box1 HB rfl rfl ?_);clear HB;intro b_ w_ HB;refine Kx.fr ?_)|((with_reducible refine zaa ?_);(first|refine ala HB ?_|refine al1 HB ?_);clear HB;intro b_ w_ HB;refine Kx.fr ?_)|((with_reducible refine zab ?_);first|refine Kx.l1 HB rfl rfl ?_|refine Kx.la HB rfl ?_|refine Kx.lo HB rfl HC.out ?_)|((with_reducible refine zac ?_);first|refine l1g HB rfl rfl rfl ?_|refine Kx.lag HB rfl rfl ?_|refine Kx.log HB rfl HC.out rfl ?_)|((with_reducible refine zad ?_);(first|refine stwa HB rfl rfl ?_|refine sta HB rfl rfl ?_|refine Kx.stc HB rfl rfl ?_|refine Kx.stt HB rfl rfl rfl ?_|refine Kx.st1 HB rfl rfl rfl ?_);clear HB;intro w_ HB)))
   go_ret
   exact Outs.zdh HP.out rfl (Jbx.box HOk.out HB.out).tail
 |true =>
 rw [hri] at HRi
 by_cases n1:now < 0
 ·exact absurd n1 (by omega)
 have e1:decide (now < 0)=false:=decide_eq_false n1
 by_cases n2:1099511627776 < now
 ·exact absurd n2 (by omega)
 have e2:decide (1099511627776 < now)=false:=decide_eq_false n2
 cases hof:s.off with
 | true =>
    rw [hof] at hoo;cases hoo
 |false =>
 have HD:Hid (∀ {W:World} {l':List (Nat×List Value)},Jbx w0 W g s l' r F→Calls Tryz.prog 36 #[.pointer (some ⟨g,0,none⟩)] W fun e w'=>e = .returned (.bool false)∧w'=W):=Lib.hid (fun q=>by have:=down_x q;rwa [hof] at this)
 have hfit:Fit s m now:=⟨hri,by omega,by omega,hof⟩
 have hnow:0≤now∧now≤1099511627776:=by omega
 replace HR:Hid (R=_):=Lib.hid (HR.out.trans (if_pos hfit))
 obtain ⟨d,hd⟩ : ∃d,d=m.e - 1:=⟨_,rfl⟩
 by_cases k4:m.k=4
 ·have f4:(m.k == 4)=true:=by simpa using k4
  obtain ⟨d,hd⟩ : ∃d,d=wrap64 (m.e - 1):=⟨_,rfl⟩
  have hw2:wrap64 (m.e - 1)=d:=hd.symm
  have hw1:IntKind.i64.wrap (m.e - 1)=d:=by rw [hd,IntKind.wrap_i64,wrap64]
  have hde:1≤m.e→d=m.e - 1:=fun q=>by rw [hd];exact IntWalk.wrap64_in _ (by have:=hm.ok.e.2;unfold Pm.I at *;omega)
  by_cases hp:Prp m (m.e - 1)
  ·have HPr:Hid (∀W,Calls Tryz.prog 37 #[.agg (mvs m lo).toArray,.int .i64 d] W fun e w'=>e = .returned (.bool true)∧Below W.heap.size W w'):=Lib.hid (fun W=>(zeb m lo d W).mono fun e w' k=>zem k true ⟨fun _=>by rw [hde hp.1];exact hp,fun _=>rfl⟩)
   have HC:Hid (∀ {W:World} {l'},Jbx w0 W g s ((ga,a.cells g)::l') r F→Calls Tryz.prog 38 #[.pointer (some ⟨ga,0,none⟩),.agg (mvs m lo).toArray,.int .i64 now] W fun e w'=>Outs w0 w' ga g l' r F R e):=Lib.hid (fun q=>by
    rw [HR.out,if_pos k4,if_pos hp]
    exact zmm q m lo now hm hs2 ha.kn ha.kf ht hh hz hnow ha.l ha.m)
   clear hkk hnn hoo hm hs hs2 ht hh hz ok HR hR0 hri n1 n2 ha hof hfit hnow k4 hp hde hd
   go_enter Tryz.func14,Tryz.ntmps14
   go_wp2_with (first|(go_at_call 38;fail)|(go_at_call 35;refine (HRi.out HB.out).mono ?_;rintro e w_ ⟨rfl,hb_⟩;replace HB:=Lib.hid (HB.out.call hb_);clear hb_)|(go_at_call 36;refine (HD.out (Jbx.box HOk.out HB.out)).mono ?_;rintro e w_ ⟨rfl,rfl⟩)|(go_at_call 37;refine (HPr.out _).mono ?_;rintro e w_ ⟨rfl,hb_⟩;replace HB:=Lib.hid (HB.out.call hb_);clear hb_)|(first|((with_reducible refine zah HB ?_);clear HB;intro w_ HB)|((with_reducible refine zae ?_);(first|refine boxa HB rfl ?_|refine boxt HB rfl rfl ?_|refine box1 HB rfl rfl ?_);clear HB;intro b_ w_ HB;refine Kx.fr ?_)|((with_reducible refine zaa ?_);(first|refine ala HB ?_|refine al1 HB ?_);clear HB;intro b_ w_ HB;refine Kx.fr ?_)|((with_reducible refine zab ?_);first|refine Kx.l1 HB rfl rfl ?_|refine Kx.la HB rfl ?_|refine Kx.lo HB rfl HC.out ?_)|((with_reducible refine zac ?_);first|refine l1g HB rfl rfl rfl ?_|refine Kx.lag HB rfl rfl ?_|refine Kx.log HB rfl HC.out rfl ?_)|((with_reducible refine zad ?_);(first|refine stwa HB rfl rfl ?_|refine sta HB rfl rfl ?_|refine Kx.stc HB rfl rfl ?_|refine Kx.stt HB rfl rfl rfl ?_|refine Kx.st1 HB rfl rfl rfl ?_);clear HB;intro w_ HB)))
   refine (HC.out (Jbx.box HOk.out HB.out).swap).mono ?_
   rintro e w2 HO
   clear HB HC HD HRi
   obtain ⟨a1,s1,o1⟩:=R
   cases o1 with
   | none =>
     obtain ⟨rfl,HJ⟩:=HO
     have HJ:=Lib.hid HJ
     go_wp2
     go_ret
     exact Outs.zdh rfl rfl HJ.out.zde
   | some q =>
     obtain ⟨b,rfl,HJ⟩:=HO
     have HJ:=Lib.hid HJ
     go_wp2
     go_ret
     exact Outs.zej rfl rfl HJ.out.third.tail
  ·have HPr:Hid (∀W,Calls Tryz.prog 37 #[.agg (mvs m lo).toArray,.int .i64 d] W fun e w'=>e = .returned (.bool false)∧Below W.heap.size W w'):=Lib.hid (fun W=>(zeb m lo d W).mono fun e w' k=>zem k false ⟨fun q=>(by cases q),fun q=>absurd (by have q1:=q.1;rw [hde q1] at q;exact q) hp⟩)
   have HP:Hid (R=(a,s,none)):=Lib.hid (by rw [HR.out,if_pos k4,if_neg hp])
   have f7:(m.k == 7)=false:=by rw [k4];rfl
   have f10:(m.k == 10)=false:=by rw [k4];rfl
   clear hkk hnn hoo hm hs hs2 ht hh hz ok HR hR0 hri n1 n2 ha hof hfit hnow k4 hp hde hd
   go_enter Tryz.func14,Tryz.ntmps14
   go_wp2_with (first|(go_at_call 35;refine (HRi.out HB.out).mono ?_;rintro e w_ ⟨rfl,hb_⟩;replace HB:=Lib.hid (HB.out.call hb_);clear hb_)|(go_at_call 36;refine (HD.out (Jbx.box HOk.out HB.out)).mono ?_;rintro e w_ ⟨rfl,rfl⟩)|(go_at_call 37;refine (HPr.out _).mono ?_;rintro e w_ ⟨rfl,hb_⟩;replace HB:=Lib.hid (HB.out.call hb_);clear hb_)|(first|((with_reducible refine zah HB ?_);clear HB;intro w_ HB)|((with_reducible refine zae ?_);(first|refine boxa HB rfl ?_|refine boxt HB rfl rfl ?_|refine box1 HB rfl rfl ?_);clear HB;intro b_ w_ HB;refine Kx.fr ?_)|((with_reducible refine zaa ?_);(first|refine ala HB ?_|refine al1 HB ?_);clear HB;intro b_ w_ HB;refine Kx.fr ?_)|((with_reducible refine zab ?_);first|refine Kx.l1 HB rfl rfl ?_|refine Kx.la HB rfl ?_|refine Kx.lo HB rfl HC.out ?_)|((with_reducible refine zac ?_);first|refine l1g HB rfl rfl rfl ?_|refine Kx.lag HB rfl rfl ?_|refine Kx.log HB rfl HC.out rfl ?_)|((with_reducible refine zad ?_);(first|refine stwa HB rfl rfl ?_|refine sta HB rfl rfl ?_|refine Kx.stc HB rfl rfl ?_|refine Kx.stt HB rfl rfl rfl ?_|refine Kx.st1 HB rfl rfl rfl ?_);clear HB;intro w_ HB)))
   go_ret
   exact Outs.zdh HP.out rfl (Jbx.box HOk.out HB.out).tail
 have f4:(m.k == 4)=false:=by simpa using k4
 by_cases k7:m.k=7
 ·have f7:(m.k == 7)=true:=by simpa using k7
  by_cases hp:Prp m m.e
  ·have HPr:Hid (∀W,Calls Tryz.prog 37 #[.agg (mvs m lo).toArray,.int .i64 m.e] W fun e w'=>e = .returned (.bool true)∧Below W.heap.size W w'):=Lib.hid (fun W=>(zeb m lo m.e W).mono fun e w' k=>zem k true ⟨fun _=>hp,fun _=>rfl⟩)
   have HC:Hid (∀ {W:World} {l'},Jbx w0 W g s ((ga,a.cells g)::l') r F→Calls Tryz.prog 39 #[.pointer (some ⟨ga,0,none⟩),.agg (mvs m lo).toArray,.int .i64 now] W fun e w'=>Outs w0 w' ga g l' r F R e):=Lib.hid (fun q=>by
    rw [HR.out,if_neg k4,if_pos k7,if_pos hp]
    refine zpj q m lo now hm hs2 ht hh hz hnow (st_of ?_)
    have h8:=(Mm.zbr.1 hri).2.2.2.2.2.2.2.1
    unfold Mm.Ms.zec at h8
    rwa [hp.2.2.1] at h8)
   clear hkk hnn hoo hm hs hs2 ht hh hz ok HR hR0 hri n1 n2 ha hof hfit hnow k4 k7 hp hd
   go_enter Tryz.func14,Tryz.ntmps14
   go_wp2_with (first|(go_at_call 39;fail)|(go_at_call 35;refine (HRi.out HB.out).mono ?_;rintro e w_ ⟨rfl,hb_⟩;replace HB:=Lib.hid (HB.out.call hb_);clear hb_)|(go_at_call 36;refine (HD.out (Jbx.box HOk.out HB.out)).mono ?_;rintro e w_ ⟨rfl,rfl⟩)|(go_at_call 37;refine (HPr.out _).mono ?_;rintro e w_ ⟨rfl,hb_⟩;replace HB:=Lib.hid (HB.out.call hb_);clear hb_)|(first|((with_reducible refine zah HB ?_);clear HB;intro w_ HB)|((with_reducible refine zae ?_);(first|refine boxa HB rfl ?_|refine boxt HB rfl rfl ?_|refine box1 HB rfl rfl ?_);clear HB;intro b_ w_ HB;refine Kx.fr ?_)|((with_reducible refine zaa ?_);(first|refine ala HB ?_|refine al1 HB ?_);clear HB;intro b_ w_ HB;refine Kx.fr ?_)|((with_reducible refine zab ?_);first|refine Kx.l1 HB rfl rfl ?_|refine Kx.la HB rfl ?_|refine Kx.lo HB rfl HC.out ?_)|((with_reducible refine zac ?_);first|refine l1g HB rfl rfl rfl ?_|refine Kx.lag HB rfl rfl ?_|refine Kx.log HB rfl HC.out rfl ?_)|((with_reducible refine zad ?_);(first|refine stwa HB rfl rfl ?_|refine sta HB rfl rfl ?_|refine Kx.stc HB rfl rfl ?_|refine Kx.stt HB rfl rfl rfl ?_|refine Kx.st1 HB rfl rfl rfl ?_);clear HB;intro w_ HB)))
   refine (HC.out (Jbx.box HOk.out HB.out).swap).mono ?_
   rintro e w2 HO
   clear HB HC HD HRi
   obtain ⟨a1,s1,o1⟩:=R
   cases o1 with
   | none =>
     obtain ⟨rfl,HJ⟩:=HO
     have HJ:=Lib.hid HJ
     go_wp2
     go_ret
     exact Outs.zdh rfl rfl HJ.out.zde
   | some q =>
     obtain ⟨b,rfl,HJ⟩:=HO
     have HJ:=Lib.hid HJ
     go_wp2
     go_ret
     exact Outs.zej rfl rfl HJ.out.third.tail
  ·have HPr:Hid (∀W,Calls Tryz.prog 37 #[.agg (mvs m lo).toArray,.int .i64 m.e] W fun e w'=>e = .returned (.bool false)∧Below W.heap.size W w'):=Lib.hid (fun W=>(zeb m lo m.e W).mono fun e w' k=>zem k false ⟨fun q=>(by cases q),fun q=>absurd q hp⟩)
   have HP:Hid (R=(a,s,none)):=Lib.hid (by rw [HR.out,if_neg k4,if_pos k7,if_neg hp])
   have f10:(m.k == 10)=false:=by rw [k7];rfl
   clear hkk hnn hoo hm hs hs2 ht hh hz ok HR hR0 hri n1 n2 ha hof hfit hnow k4 k7 hp hd
   go_enter Tryz.func14,Tryz.ntmps14
   go_wp2_with (first|(go_at_call 35;refine (HRi.out HB.out).mono ?_;rintro e w_ ⟨rfl,hb_⟩;replace HB:=Lib.hid (HB.out.call hb_);clear hb_)|(go_at_call 36;refine (HD.out (Jbx.box HOk.out HB.out)).mono ?_;rintro e w_ ⟨rfl,rfl⟩)|(go_at_call 37;refine (HPr.out _).mono ?_;rintro e w_ ⟨rfl,hb_⟩;replace HB:=Lib.hid (HB.out.call hb_);clear hb_)|(first|((with_reducible refine zah HB ?_);clear HB;intro w_ HB)|((with_reducible refine zae ?_);(first|refine boxa HB rfl ?_|refine boxt HB rfl rfl ?_|refine box1 HB rfl rfl ?_);clear HB;intro b_ w_ HB;refine Kx.fr ?_)|((with_reducible refine zaa ?_);(first|refine ala HB ?_|refine al1 HB ?_);clear HB;intro b_ w_ HB;refine Kx.fr ?_)|((with_reducible refine zab ?_);first|refine Kx.l1 HB rfl rfl ?_|refine Kx.la HB rfl ?_|refine Kx.lo HB rfl HC.out ?_)|((with_reducible refine zac ?_);first|refine l1g HB rfl rfl rfl ?_|refine Kx.lag HB rfl rfl ?_|refine Kx.log HB rfl HC.out rfl ?_)|((with_reducible refine zad ?_);(first|refine stwa HB rfl rfl ?_|refine sta HB rfl rfl ?_|refine Kx.stc HB rfl rfl ?_|refine Kx.stt HB rfl rfl rfl ?_|refine Kx.st1 HB rfl rfl rfl ?_);clear HB;intro w_ HB)))
   go_ret
   exact Outs.zdh HP.out rfl (Jbx.box HOk.out HB.out).tail
 exact absurd hkk (fun q=>q.elim k4 k7)
end
end Go.Proofs.YtponpgcpmlcdpaaGreatDoor
