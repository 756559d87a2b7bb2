import Derived.Test.YtponpgcpmlcdpaaGreatDoorAx
set_option maxRecDepth 100000
namespace Go.Proofs.YtponpgcpmlcdpaaGreatDoor
open Go.RowKit Go.Shelf Km Kx Kc Kt
set_option linter.unusedVariables false
set_option linter.unusedSimpArgs false
structure Pt.Fine (p:Pt):Prop where
 ok:p.x.Ok
 l1:p.x.pen.length=p.n
 c1:p.n≤p.c
 m1:p.c≤maxLen
 l2:p.x.ch.length=p.n'
 c2:p.n'≤p.c'
 m2:p.c'≤maxLen
theorem zfi:noPt.Fine:=⟨Pm.zfh,rfl,Nat.le_refl _,Nat.zero_le _,rfl,Nat.le_refl _,Nat.zero_le _⟩
theorem MsOk.pt {x:Mm.Ms} {lo:Lo} (h:MsOk x lo):(mpt x lo).Fine:=⟨h.ok.plan,h.l1,h.c1,h.m1,h.l2,h.c2,h.m2⟩
theorem I0:Pm.I 0:=⟨by decide,by decide⟩
theorem U0:Pm.U 0:=⟨by decide,by decide⟩
theorem zqx {p:Pt} (h:p.Fine) {k e b ac n co:Int} {has:Bool} (hk:Pm.I k) (he:Pm.I e) (hb:Pm.I b) (ha:Pm.I ac) (hn:Pm.I n) (hc:Pm.I co):MsOk (mk k e b ac n co has p.x) (loOf p) :=
 ⟨⟨hk,I0,I0,he,hb,ha,hn,I0,U0,hc,h.ok,(fun _ q=>by cases q),Fm.By.nil,Fm.By.nil⟩,h.l1,h.c1,h.m1,h.l2,h.c2,h.m2,rfl,Nat.le_refl _,Nat.zero_le _,rfl,Nat.le_refl _,Nat.zero_le _,rfl,Nat.le_refl _,Nat.zero_le _⟩
theorem mk_in {p:Pt} {F:Fz} (h:Within p.fz F) {k e b ac n co:Int} {has:Bool}:Within (mfz (mk k e b ac n co has p.x) (loOf p)) F:=fun q hq=>by
 rcases List.mem_cons.1 hq with rfl|hq
 ·exact h _ (List.mem_cons_self ..)
 ·rcases List.mem_cons.1 hq with rfl|hq
  ·exact h _ (List.mem_cons_of_mem _ (List.mem_cons_self ..))
  ·refine .inl ?_
   rcases List.mem_cons.1 hq with rfl|hq
   ·rfl
   ·rcases List.mem_cons.1 hq with rfl|hq
    ·rfl
    ·rcases List.mem_cons.1 hq with rfl|hq
     ·rfl
     ·cases hq
theorem Jbx.perm {w0 w:World} {g:Nat} {s:Jm.St} {l l':List (Nat×List Value)} {r:List Rw} {F:Fz} (h:Jbx w0 w g s l r F) (hp:l.Perm l'):Jbx w0 w g s l' r F:=by
 obtain ⟨ok,KA,KC,RA,RC,h⟩:=h
 exact ⟨ok,KA,KC,RA,RC,h.perm (List.Perm.cons _ hp)⟩
theorem Jbx.swap {w0 w:World} {g:Nat} {s:Jm.St} {p q:Nat×List Value} {l:List (Nat×List Value)} {r:List Rw} {F:Fz} (h:Jbx w0 w g s (p::q::l) r F):Jbx w0 w g s (q::p::l) r F:=h.perm (List.Perm.swap _ _ _)
theorem Jbx.tail {w0 w:World} {g:Nat} {s:Jm.St} {p:Nat×List Value} {l:List (Nat×List Value)} {r:List Rw} {F:Fz} (h:Jbx w0 w g s (p::l) r F):Jbx w0 w g s l r F:=by
 obtain ⟨ok,KA,KC,RA,RC,h⟩:=h
 exact ⟨ok,KA,KC,RA,RC,h.zde⟩
theorem Jbx.zde {w0 w:World} {g:Nat} {s:Jm.St} {p q:Nat×List Value} {l:List (Nat×List Value)} {r:List Rw} {F:Fz} (h:Jbx w0 w g s (p::q::l) r F):Jbx w0 w g s (p::l) r F:=h.swap.tail
theorem Jbx.third {w0 w:World} {g:Nat} {s:Jm.St} {p q z:Nat×List Value} {l:List (Nat×List Value)} {r:List Rw} {F:Fz} (h:Jbx w0 w g s (p::q::z::l) r F):Jbx w0 w g s (z::p::q::l) r F:=h.perm ((List.Perm.cons p (List.Perm.swap z q l)).trans (List.Perm.swap z p (q::l)))
theorem Jbx.box3 {w0 w:World} {g:Nat} {s:Jm.St} {l:List (Nat×List Value)} {r:List Rw} {F:Fz} {p q:Nat×List Value} (ok:Jm.Ok s) {KA RA:Option Addr} {KC RC:Nat} (h:Bxs w0 w (p::q::(g,jcs s KA KC RA RC)::l) (jrow KA KC s.kept::jrow RA RC s.rest::r) F):Jbx w0 w g s (p::q::l) r F:=⟨ok,KA,KC,RA,RC,h.third⟩
theorem Jbx.box {w0 w:World} {g:Nat} {s:Jm.St} {l:List (Nat×List Value)} {r:List Rw} {F:Fz} {p:Nat×List Value} (ok:Jm.Ok s) {KA RA:Option Addr} {KC RC:Nat} (h:Bxs w0 w (p::(g,jcs s KA KC RA RC)::l) (jrow KA KC s.kept::jrow RA RC s.rest::r) F):Jbx w0 w g s (p::l) r F:=⟨ok,KA,KC,RA,RC,h.swap⟩
section
variable {w0 w:World} {ga g:Nat} {a:Ac} {s:Jm.St} {l L:List (Nat×List Value)} {r:List Rw} {F:Fz}
set_option maxHeartbeats 2000000 in
theorem wait_b (h : Bxs w0 w L r F) [hin : InL ga (a.cells g) L] (hl : 0 ≤ a.c.l ∧ a.c.l ≤ 1048576) (hm : 0 ≤ a.c.m ∧ a.c.m ≤ 1048576) :
  Calls Tryz.prog 68 #[.pointer (some ⟨ga,0,none⟩)] w fun e w'=>e = .returned (.int .i64 a.wait)∧Below w.heap.size w w':=by
 have HB:=Lib.hid (Bxs.start w)
 have H1:Hid (w.cell? ⟨ga,11,none⟩=some (.int .i64 a.c.l)):=h.cell hin.mem rfl
 have H2:Hid (w.cell? ⟨ga,12,none⟩=some (.int .i64 a.c.m)):=h.cell hin.mem rfl
 have hw:IntKind.i64.wrap (a.c.l+a.c.m)=a.wait:=IntWalk.i64_in _ (by omega)
 clear h hl hm
 go_enter Tryz.func68,Tryz.ntmps68
 go_upto_region 1 with (first|((with_reducible refine zah HB ?_);clear HB;intro w_ HB)|((with_reducible refine zae ?_);(first|refine boxa HB rfl ?_|refine boxt HB rfl rfl ?_|refine box1 HB rfl rfl ?_);clear HB;intro b_ w_ HB;refine Kx.fr ?_)|((with_reducible refine zaa ?_);(first|refine ala HB ?_|refine al1 HB ?_);clear HB;intro b_ w_ HB;refine Kx.fr ?_)|((with_reducible refine zab ?_);first|refine Kx.l1 HB rfl rfl ?_|refine Kx.la HB rfl ?_|refine Kx.lo HB rfl HC.out ?_)|((with_reducible refine zac ?_);first|refine l1g HB rfl rfl rfl ?_|refine Kx.lag HB rfl rfl ?_|refine Kx.log HB rfl HC.out rfl ?_)|((with_reducible refine zad ?_);(first|refine stwa HB rfl rfl ?_|refine sta HB rfl rfl ?_|refine Kx.stc HB rfl rfl ?_|refine Kx.stt HB rfl rfl rfl ?_|refine Kx.st1 HB rfl rfl rfl ?_);clear HB;intro w_ HB))
 refine zau HB (fun i=>false) (by kernel_rfl) ?_
 refine Kx.tk 0 rfl ?_
 refine Kx.tk 1 rfl ?_
 refine Kx.tk 2 rfl ?_
 refine Kx.tk 3 rfl ?_
 refine Kx.xlo 4 rfl rfl H1.out ?_
 refine Kx.tk 5 rfl ?_
 refine Kx.tk 6 rfl ?_
 refine Kx.tk 7 rfl ?_
 refine Kx.tk 8 rfl ?_
 refine Kx.xlo 9 rfl rfl H2.out ?_
 refine Kx.tk 10 rfl ?_
 refine Kx.tk 11 rfl ?_
 refine zan (by kernel_rfl) ?_
 clear HB
 intro w_ HB_
 have HB:=Lib.hid HB_
 clear HB_
 go_wp2
 go_ret
 exact ⟨rfl,HB.out.below⟩
def MW (a:Ac) (m:Mm.Ms) (now:Int):Prop:=a.lo≠0∧a.lo < m.e∧m.co≠1∧now - a.wait < a.wr
set_option maxHeartbeats 2000000 in
theorem zle (h : Bxs w0 w L r F) [hin : InL ga (a.cells g) L] (hl : 0 ≤ a.c.l ∧ a.c.l ≤ 1048576) (hm : 0 ≤ a.c.m ∧ a.c.m ≤ 1048576) (m : Mm.Ms) (lo : Lo) (now : Int) (hnow : 0 ≤ now ∧ now ≤ 1099511627776) :
  Calls Tryz.prog 62 #[.pointer (some ⟨ga,0,none⟩),.agg (mvs m lo).toArray,.int .i64 now] w fun e w'=>Says w (MW a m now) e w':=by
 have HB:=Lib.hid (Bxs.start w)
 have HC:Hid (w.cell? ⟨ga,59,none⟩=some (.int .i64 a.lo)):=h.cell hin.mem rfl
 have H2:Hid (w.cell? ⟨ga,65,none⟩=some (.int .i64 a.wr)):=h.cell hin.mem rfl
 have HWt:Hid (∀W,Below w.heap.size w W→Calls Tryz.prog 68 #[.pointer (some ⟨ga,0,none⟩)] W fun e w'=>e = .returned (.int .i64 a.wait)∧Below W.heap.size W w'):=Lib.hid (fun W hb=>wait_b (ga:=ga) (g:=g) (a:=a) (h.call hb) hl hm)
 have hwi:0≤a.wait∧a.wait≤2097152:=by unfold Ac.wait;omega
 have HBe:Hid (∀W,Calls Tryz.prog 67 #[.int .i64 now,.int .i64 a.wr,.int .i64 a.wait] W fun e w'=>e = .returned (.bool (decide (now - a.wait < a.wr)))∧W=w'):=Lib.hid (fun W=>zpg now a.wr a.wait (by omega) W)
 obtain ⟨R,HR0⟩ : ∃R,R=MW a m now:=⟨_,rfl⟩
 have HR:=Lib.hid HR0
 rw [←HR0]
 clear HR0 h hl hm hnow hwi
 by_cases h1:a.lo=0
 ·have e1:(a.lo != 0)=false:=by simpa using h1
  have HN:Hid (¬ R):=Lib.hid (by rw [HR.out];exact fun q=>q.1 h1)
  clear h1
  go_enter Tryz.func62,Tryz.ntmps62
  go_upto_region 1 with (first|((with_reducible refine zah HB ?_);clear HB;intro w_ HB)|((with_reducible refine zae ?_);(first|refine boxa HB rfl ?_|refine boxt HB rfl rfl ?_|refine box1 HB rfl rfl ?_);clear HB;intro b_ w_ HB;refine Kx.fr ?_)|((with_reducible refine zaa ?_);(first|refine ala HB ?_|refine al1 HB ?_);clear HB;intro b_ w_ HB;refine Kx.fr ?_)|((with_reducible refine zab ?_);first|refine Kx.l1 HB rfl rfl ?_|refine Kx.la HB rfl ?_|refine Kx.lo HB rfl HC.out ?_)|((with_reducible refine zac ?_);first|refine l1g HB rfl rfl rfl ?_|refine Kx.lag HB rfl rfl ?_|refine Kx.log HB rfl HC.out rfl ?_)|((with_reducible refine zad ?_);(first|refine stwa HB rfl rfl ?_|refine sta HB rfl rfl ?_|refine Kx.stc HB rfl rfl ?_|refine Kx.stt HB rfl rfl rfl ?_|refine Kx.st1 HB rfl rfl rfl ?_);clear HB;intro w_ HB))
  refine zau HB (fun i=>false) (by kernel_rfl) ?_
  refine Kx.tk 0 rfl ?_
  refine Kx.tk 1 rfl ?_
  refine Kx.tk 2 rfl ?_
  refine Kx.tk 3 rfl ?_
  first|refine xl1 4 rfl rfl rfl ?_|refine xla 4 rfl rfl ?_|refine Kx.xlo 4 rfl rfl HC.out ?_
  refine Kx.tk 5 rfl ?_
  refine Kx.tk 6 rfl ?_
  refine Kx.sk 7 rfl ?_
  refine Kx.sk 8 rfl ?_
  refine Kx.sk 9 rfl ?_
  refine Kx.sk 10 rfl ?_
  refine Kx.sk 11 rfl ?_
  refine Kx.sk 12 rfl ?_
  refine Kx.sk 13 rfl ?_
  refine Kx.sk 14 rfl ?_
  refine Kx.tk 15 rfl ?_
  refine Kx.tk 16 rfl ?_
  refine Kx.sk 17 rfl ?_
  refine Kx.sk 18 rfl ?_
  refine Kx.sk 19 rfl ?_
  refine Kx.tk 20 rfl ?_
  refine Kx.tk 21 rfl ?_
  refine Kx.sk 22 rfl ?_
  refine Kx.sk 23 rfl ?_
  refine Kx.sk 24 rfl ?_
  refine Kx.sk 25 rfl ?_
  refine Kx.sk 26 rfl ?_
  refine Kx.sk 27 rfl ?_
  refine Kx.sk 28 rfl ?_
  refine Kx.sk 29 rfl ?_
  refine Kx.tk 30 rfl ?_
  refine Kx.tk 31 rfl ?_
  refine zan (by kernel_rfl) ?_
  clear HB
  intro w_ HB_
  have HB:=Lib.hid HB_
  clear HB_
  go_wp2
  go_ret
  exact zf3 rfl HN.out HB.out.below
 have e1:(a.lo != 0)=true:=by simpa using h1
 by_cases h2:a.lo < m.e
 ·have e2:decide (a.lo < m.e)=true:=decide_eq_true h2
  by_cases h3:m.co=1
  ·have e3:(m.co != 1)=false:=by simpa using h3
   have HN:Hid (¬ R):=Lib.hid (by rw [HR.out];exact fun q=>q.2.2.1 h3)
   clear h1 h2 h3
   go_enter Tryz.func62,Tryz.ntmps62
   go_upto_region 1 with (first|((with_reducible refine zah HB ?_);clear HB;intro w_ HB)|((with_reducible refine zae ?_);(first|refine boxa HB rfl ?_|refine boxt HB rfl rfl ?_|refine box1 HB rfl rfl ?_);clear HB;intro b_ w_ HB;refine Kx.fr ?_)|((with_reducible refine zaa ?_);(first|refine ala HB ?_|refine al1 HB ?_);clear HB;intro b_ w_ HB;refine Kx.fr ?_)|((with_reducible refine zab ?_);first|refine Kx.l1 HB rfl rfl ?_|refine Kx.la HB rfl ?_|refine Kx.lo HB rfl HC.out ?_)|((with_reducible refine zac ?_);first|refine l1g HB rfl rfl rfl ?_|refine Kx.lag HB rfl rfl ?_|refine Kx.log HB rfl HC.out rfl ?_)|((with_reducible refine zad ?_);(first|refine stwa HB rfl rfl ?_|refine sta HB rfl rfl ?_|refine Kx.stc HB rfl rfl ?_|refine Kx.stt HB rfl rfl rfl ?_|refine Kx.st1 HB rfl rfl rfl ?_);clear HB;intro w_ HB))
   refine zau HB (fun i=>false) (by kernel_rfl) ?_
   refine Kx.tk 0 rfl ?_
   refine Kx.tk 1 rfl ?_
   refine Kx.tk 2 rfl ?_
   refine Kx.tk 3 rfl ?_
   first|refine xl1 4 rfl rfl rfl ?_|refine xla 4 rfl rfl ?_|refine Kx.xlo 4 rfl rfl HC.out ?_
   refine Kx.tk 5 rfl ?_
   refine Kx.tk 6 rfl ?_
   refine Kx.tk 7 rfl ?_
   refine Kx.tk 8 rfl ?_
   refine Kx.tk 9 rfl ?_
   refine Kx.tk 10 rfl ?_
   first|refine xl1 11 rfl rfl rfl ?_|refine xla 11 rfl rfl ?_|refine Kx.xlo 11 rfl rfl HC.out ?_
   refine Kx.tk 12 rfl ?_
   first|refine xl1 13 rfl rfl rfl ?_|refine xla 13 rfl rfl ?_|refine Kx.xlo 13 rfl rfl HC.out ?_
   refine Kx.tk 14 rfl ?_
   refine Kx.tk 15 rfl ?_
   refine Kx.tk 16 rfl ?_
   refine Kx.tk 17 rfl ?_
   first|refine xl1 18 rfl rfl rfl ?_|refine xla 18 rfl rfl ?_|refine Kx.xlo 18 rfl rfl HC.out ?_
   refine Kx.tk 19 rfl ?_
   refine Kx.tk 20 rfl ?_
   refine Kx.tk 21 rfl ?_
   refine Kx.sk 22 rfl ?_
   refine Kx.sk 23 rfl ?_
   refine Kx.sk 24 rfl ?_
   refine Kx.sk 25 rfl ?_
   refine Kx.sk 26 rfl ?_
   refine Kx.sk 27 rfl ?_
   refine Kx.sk 28 rfl ?_
   refine Kx.sk 29 rfl ?_
   refine Kx.tk 30 rfl ?_
   refine Kx.tk 31 rfl ?_
   refine zan (by kernel_rfl) ?_
   clear HB
   intro w_ HB_
   have HB:=Lib.hid HB_
   clear HB_
   go_wp2
   go_ret
   exact zf3 rfl HN.out HB.out.below
  ·have e3:(m.co != 1)=true:=by simpa using h3
   have HI:Hid (decide (now - a.wait < a.wr)=true↔R):=Lib.hid (by rw [HR.out,decide_eq_true_iff];exact ⟨fun q=>⟨h1,h2,h3,q⟩,fun q=>q.2.2.2⟩)
   clear h1 h2 h3
   go_enter Tryz.func62,Tryz.ntmps62
   go_upto_region 1 with (first|((with_reducible refine zah HB ?_);clear HB;intro w_ HB)|((with_reducible refine zae ?_);(first|refine boxa HB rfl ?_|refine boxt HB rfl rfl ?_|refine box1 HB rfl rfl ?_);clear HB;intro b_ w_ HB;refine Kx.fr ?_)|((with_reducible refine zaa ?_);(first|refine ala HB ?_|refine al1 HB ?_);clear HB;intro b_ w_ HB;refine Kx.fr ?_)|((with_reducible refine zab ?_);first|refine Kx.l1 HB rfl rfl ?_|refine Kx.la HB rfl ?_|refine Kx.lo HB rfl HC.out ?_)|((with_reducible refine zac ?_);first|refine l1g HB rfl rfl rfl ?_|refine Kx.lag HB rfl rfl ?_|refine Kx.log HB rfl HC.out rfl ?_)|((with_reducible refine zad ?_);(first|refine stwa HB rfl rfl ?_|refine sta HB rfl rfl ?_|refine Kx.stc HB rfl rfl ?_|refine Kx.stt HB rfl rfl rfl ?_|refine Kx.st1 HB rfl rfl rfl ?_);clear HB;intro w_ HB))
   refine zau HB (fun i=>false) (by kernel_rfl) ?_
   refine Kx.tk 0 rfl ?_
   refine Kx.tk 1 rfl ?_
   refine Kx.tk 2 rfl ?_
   refine Kx.tk 3 rfl ?_
   first|refine xl1 4 rfl rfl rfl ?_|refine xla 4 rfl rfl ?_|refine Kx.xlo 4 rfl rfl HC.out ?_
   refine Kx.tk 5 rfl ?_
   refine Kx.tk 6 rfl ?_
   refine Kx.tk 7 rfl ?_
   refine Kx.tk 8 rfl ?_
   refine Kx.tk 9 rfl ?_
   refine Kx.tk 10 rfl ?_
   first|refine xl1 11 rfl rfl rfl ?_|refine xla 11 rfl rfl ?_|refine Kx.xlo 11 rfl rfl HC.out ?_
   refine Kx.tk 12 rfl ?_
   first|refine xl1 13 rfl rfl rfl ?_|refine xla 13 rfl rfl ?_|refine Kx.xlo 13 rfl rfl HC.out ?_
   refine Kx.tk 14 rfl ?_
   refine Kx.tk 15 rfl ?_
   refine Kx.tk 16 rfl ?_
   refine Kx.tk 17 rfl ?_
   first|refine xl1 18 rfl rfl rfl ?_|refine xla 18 rfl rfl ?_|refine Kx.xlo 18 rfl rfl HC.out ?_
   refine Kx.tk 19 rfl ?_
   refine Kx.tk 20 rfl ?_
   refine Kx.tk 21 rfl ?_
   refine Kx.tk 22 rfl ?_
   refine Kx.tk 23 rfl ?_
   refine Kx.tk 24 rfl ?_
   refine Kx.tk 25 rfl ?_
   refine Kx.xlo 26 rfl rfl H2.out ?_
   refine Kx.tk 27 rfl ?_
   refine zdb (i:=28) (v := ?v28_3) (f := ?g28_3) (args := ?s28_3) (a' := ?a28_3) (by first|exact za7|exact zb7|assumption) rfl (by kernel_rfl) (by kernel_rfl) (by kernel_rfl) (fun _ _ _ h=>h) (by kernel_rfl) ?c28_3 ?w28_3 ?y28_3 ?f28_3 ?r28_3
   case w28_3=>kernel_rfl
   case y28_3=>(intro W hW;go_simp;first|(refine ⟨?_,?_⟩<;>with_reducible rfl)|with_reducible rfl)
   case c28_3=>(intro W hW;refine Calls.mono (HWt.out W hW.below) ?_;rintro e w_ ⟨rfl,hb_⟩;refine ⟨?_,by first|exact hb_|exact hb_▸Below.refl _ _⟩;with_reducible rfl)
   case f28_3=>(go_simp;try with_reducible rfl)
   refine zdb (i:=29) (v := ?v29_4) (f := ?g29_4) (args := ?s29_4) (a' := ?a29_4) (by first|exact za7|exact zb7|assumption) rfl (by kernel_rfl) (by kernel_rfl) (by kernel_rfl) (fun _ _ _ h=>h) (by kernel_rfl) ?c29_4 ?w29_4 ?y29_4 ?f29_4 ?r29_4
   case w29_4=>kernel_rfl
   case y29_4=>(intro W hW;go_simp;first|(refine ⟨?_,?_⟩<;>with_reducible rfl)|with_reducible rfl)
   case c29_4=>(intro W hW;refine Calls.mono (HBe.out W) ?_;rintro e w_ ⟨rfl,hb_⟩;refine ⟨?_,by first|exact hb_|exact hb_▸Below.refl _ _⟩;with_reducible rfl)
   case f29_4=>(go_simp;try with_reducible rfl)
   refine Kx.tk 30 rfl ?_
   refine Kx.tk 31 rfl ?_
   refine zan (by kernel_rfl) ?_
   clear HB
   intro w_ HB_
   have HB:=Lib.hid HB_
   clear HB_
   go_wp2
   go_ret
   exact ⟨_,rfl,HI.out,HB.out.below⟩
 ·have e2:decide (a.lo < m.e)=false:=decide_eq_false h2
  have HN:Hid (¬ R):=Lib.hid (by rw [HR.out];exact fun q=>h2 q.2.1)
  clear h1 h2
  go_enter Tryz.func62,Tryz.ntmps62
  go_upto_region 1 with (first|((with_reducible refine zah HB ?_);clear HB;intro w_ HB)|((with_reducible refine zae ?_);(first|refine boxa HB rfl ?_|refine boxt HB rfl rfl ?_|refine box1 HB rfl rfl ?_);clear HB;intro b_ w_ HB;refine Kx.fr ?_)|((with_reducible refine zaa ?_);(first|refine ala HB ?_|refine al1 HB ?_);clear HB;intro b_ w_ HB;refine Kx.fr ?_)|((with_reducible refine zab ?_);first|refine Kx.l1 HB rfl rfl ?_|refine Kx.la HB rfl ?_|refine Kx.lo HB rfl HC.out ?_)|((with_reducible refine zac ?_);first|refine l1g HB rfl rfl rfl ?_|refine Kx.lag HB rfl rfl ?_|refine Kx.log HB rfl HC.out rfl ?_)|((with_reducible refine zad ?_);(first|refine stwa HB rfl rfl ?_|refine sta HB rfl rfl ?_|refine Kx.stc HB rfl rfl ?_|refine Kx.stt HB rfl rfl rfl ?_|refine Kx.st1 HB rfl rfl rfl ?_);clear HB;intro w_ HB))
  refine zau HB (fun i=>false) (by kernel_rfl) ?_
  refine Kx.tk 0 rfl ?_
  refine Kx.tk 1 rfl ?_
  refine Kx.tk 2 rfl ?_
  refine Kx.tk 3 rfl ?_
  first|refine xl1 4 rfl rfl rfl ?_|refine xla 4 rfl rfl ?_|refine Kx.xlo 4 rfl rfl HC.out ?_
  refine Kx.tk 5 rfl ?_
  refine Kx.tk 6 rfl ?_
  refine Kx.tk 7 rfl ?_
  refine Kx.tk 8 rfl ?_
  refine Kx.tk 9 rfl ?_
  refine Kx.tk 10 rfl ?_
  first|refine xl1 11 rfl rfl rfl ?_|refine xla 11 rfl rfl ?_|refine Kx.xlo 11 rfl rfl HC.out ?_
  refine Kx.tk 12 rfl ?_
  first|refine xl1 13 rfl rfl rfl ?_|refine xla 13 rfl rfl ?_|refine Kx.xlo 13 rfl rfl HC.out ?_
  refine Kx.tk 14 rfl ?_
  refine Kx.tk 15 rfl ?_
  refine Kx.tk 16 rfl ?_
  refine Kx.sk 17 rfl ?_
  refine Kx.sk 18 rfl ?_
  refine Kx.sk 19 rfl ?_
  refine Kx.tk 20 rfl ?_
  refine Kx.tk 21 rfl ?_
  refine Kx.sk 22 rfl ?_
  refine Kx.sk 23 rfl ?_
  refine Kx.sk 24 rfl ?_
  refine Kx.sk 25 rfl ?_
  refine Kx.sk 26 rfl ?_
  refine Kx.sk 27 rfl ?_
  refine Kx.sk 28 rfl ?_
  refine Kx.sk 29 rfl ?_
  refine Kx.tk 30 rfl ?_
  refine Kx.tk 31 rfl ?_
  refine zan (by kernel_rfl) ?_
  clear HB
  intro w_ HB_
  have HB:=Lib.hid HB_
  clear HB_
  go_wp2
  go_ret
  exact zf3 rfl HN.out HB.out.below
set_option maxHeartbeats 2000000 in
theorem zg7 (h : Jbx w0 w g s ((ga, a.cells g) :: l) r F) (x : Mm.Ms) (lo : Lo) (hm : MsOk x lo) (hs : Within (mfz x lo) F) (ht : Tab w0) (hh : HTab w0) (hz : Jm.size s ≤ 16000000) :
  Calls Tryz.prog 65 #[.pointer (some ⟨ga,0,none⟩),.agg (mvs x lo).toArray] w fun e w' =>
   e = .returned (.bool (keep s x).2)∧Jbx w0 w' g (keep s x).1 ((ga,(a.wrote s x (mpt x lo)).cells g)::l) r F:=by
 obtain ⟨ok,KA,KC,RA,RC,HB0⟩:=h
 have HB:=Lib.hid HB0
 have HOk:=Lib.hid ok
 have HWr : Hid (∀ {W : World} {l'}, Jbx w0 W g s ((ga, a.cells g) :: l') r F → Calls Tryz.prog 91 #[.pointer (some ⟨g, 0, none⟩), .agg (mvs x lo).toArray, .func (.func 34) #[.pointer (some ⟨ga, 32, none⟩)] #[]] W fun e w' =>
   e = .returned (.bool (keep s x).2)∧Jbx w0 w' g (keep s x).1 ((ga,(a.wrote s x (mpt x lo)).cells g)::l') r F):=Lib.hid (fun q=>zpp q x lo hm hs ht hh hz)
 clear HB0 hm hs hz ok
 generalize a.wrote s x (mpt x lo)=a' at *
 generalize keep s x=ks at *
 go_enter Tryz.func65,Tryz.ntmps65
 go_upto_region 1 with (first|((with_reducible refine zah HB ?_);clear HB;intro w_ HB)|((with_reducible refine zae (d:=some 3) ?_);(first|refine boxa HB rfl ?_|refine boxt HB rfl rfl ?_|refine box1 HB rfl rfl ?_);clear HB;intro b3 w_ HB;refine Kx.fr ?_)|((with_reducible refine zaa (d:=some 3) ?_);(first|refine ala HB ?_|refine al1 HB ?_);clear HB;intro b3 w_ HB;refine Kx.fr ?_)|((with_reducible refine zae ?_);(first|refine boxa HB rfl ?_|refine boxt HB rfl rfl ?_|refine box1 HB rfl rfl ?_);clear HB;intro b_ w_ HB;refine Kx.fr ?_)|((with_reducible refine zaa ?_);(first|refine ala HB ?_|refine al1 HB ?_);clear HB;intro b_ w_ HB;refine Kx.fr ?_)|((with_reducible refine zab ?_);first|refine Kx.l1 HB rfl rfl ?_|refine Kx.la HB rfl ?_|refine Kx.lo HB rfl HC.out ?_)|((with_reducible refine zac ?_);first|refine l1g HB rfl rfl rfl ?_|refine Kx.lag HB rfl rfl ?_|refine Kx.log HB rfl HC.out rfl ?_)|((with_reducible refine zad ?_);(first|refine stwa HB rfl rfl ?_|refine sta HB rfl rfl ?_|refine Kx.stc HB rfl rfl ?_|refine Kx.stt HB rfl rfl rfl ?_|refine Kx.st1 HB rfl rfl rfl ?_);clear HB;intro w_ HB))
 have hbe:zdc (fun w'=>Jbx w0 w' g s ((b3,mvs x lo)::(ga,a.cells g)::l) r F):=Jbx.bears
 have hbe2:zdc (fun w'=>Jbx w0 w' g ks.1 ((ga,a'.cells g)::(b3,mvs x lo)::l) r F):=Jbx.bears
 have hsub:∀w',Jbx w0 w' g s ((b3,mvs x lo)::(ga,a.cells g)::l) r F→∃(s':Jm.St) (a':Ac),Jbx w0 w' g s' ((b3,mvs x lo)::(ga,a'.cells g)::l) r F:=fun w' q=>⟨s,a,q⟩
 refine Kx.zc5 (fun w'=>∃(s':Jm.St) (a':Ac),Jbx w0 w' g s' ((b3,mvs x lo)::(ga,a'.cells g)::l) r F) (fun w'=>Jbx w0 w' g s ((b3,mvs x lo)::(ga,a.cells g)::l) r F) (fun i=>false) (by kernel_rfl) (Jbx.box HOk.out HB.out.drew) ?_
 refine tkS 0 rfl hsub ?_
 refine tkS 1 rfl hsub ?_
 refine tkS 2 rfl hsub ?_
 refine tkS 3 rfl hsub ?_ (v:=.pointer (some ⟨g,0,none⟩)) (hy:=fun w ⟨s',a',ok,KA,KC,RA,RC,hB⟩=>Kx.zbg hB ga 31 rfl (a'.cells g) inferInstance (Tryz.isAgg40 _) rfl)
 refine tkS 4 rfl hsub ?_ (v:=.agg (mvs x lo).toArray) (hy:=fun w ⟨s',a',ok,KA,KC,RA,RC,hB⟩=>Kx.zch hB b3 0 rfl (mvs x lo) inferInstance 26 (Tryz.isAgg37 _) (Tryz.sizeOf37 _) (mvs x lo) (Kx.whole rfl) rfl rfl)
 refine tkS 5 rfl hsub ?_
 refine tkS 6 rfl hsub ?_
 refine tkS 7 rfl hsub ?_
 refine tkS 8 rfl hsub ?_
 refine Kx.zfn (ι:=Unit) 9 (fun _ => .bool ks.2) (fun _ w'=>Jbx w0 w' g ks.1 ((ga,a'.cells g)::(b3,mvs x lo)::l) r F) () rfl (fun _=>hbe2) (fun _ w' q=>⟨_,_,q.swap⟩) ?e (fun w hw=>(HWr.out hw.swap).mono fun e w' q=>⟨(),q⟩) ?h
 case e=>(intro w hw;go_simp;try (first|(refine ⟨?_,?_⟩<;>with_reducible rfl)|with_reducible rfl))
 intro y_
 refine lsS 10 rfl (fun w q=>⟨_,_,q.swap⟩) ?_
 refine zan (by kernel_rfl) ?_
 clear HB
 intro w_ HJ_
 have HJ:=Lib.hid HJ_
 clear HJ_
 go_wp2
 go_ret
 exact ⟨rfl,HJ.out.zde⟩
end
end Go.Proofs.YtponpgcpmlcdpaaGreatDoor
