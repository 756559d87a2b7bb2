import Derived.Test.YtponpgcpmlcdpaaGreatDoorHa
import Derived.Test.YtponpgcpmlcdpaaGreatDoorKI
import Derived.Deep.CutBlock
import Derived.Deep.DeepCutAuto
set_option maxRecDepth 100000
namespace Go.Proofs.YtponpgcpmlcdpaaGreatDoor
open Go.RowKit Go.Shelf Km Kx Kc Kt
set_option linter.unusedVariables false
set_option maxHeartbeats 1000000 in
theorem zni (A1 A2 : Option Addr) (n c1 c2 : Nat) (xs : List Int) (w : World) (h1 : Rd w w.heap.size A1 (i64s xs)) (h2 : Rd w w.heap.size A2 (i64s xs)) (hn : xs.length = n) (hm : n ≤ 9000000) :
  Calls Tryz.prog 45 #[.slice A1 n c1,.slice A2 n c2] w fun e w'=>e = .returned (.bool true)∧Below w.heap.size w w':=by
 have HB:=Lib.hid (Bxs.start w)
 have H1:=Lib.hid h1
 have H2:=Lib.hid h2
 have HN:=Lib.hid hn
 clear h1 h2 hn
 go_enter Tryz.func45,Tryz.ntmps45
 go_wp2_with fail
 go_loopg [5] n (fun gh ix wr=>∃k:Nat,gh+k=n∧ix = .int .i64 (k:Int)∧Hid (Bxs w wr []))
 case atStart=>exact ⟨0,by omega,rfl,HB⟩
 case round =>
  clear HB
  obtain ⟨k,hk,rfl,HB⟩:=hrel
  by_cases hlt:k < n
  ·have d1:(k:Int) < (n:Int):=by omega
   obtain ⟨ad1,rfl,-,hc1⟩:=H1.out.num (k:=k) (by rw [HN.out];exact hlt)
   obtain ⟨ad2,rfl,-,hc2⟩:=H2.out.num (k:=k) (by rw [HN.out];exact hlt)
   have HC1:=Lib.hid hc1
   have HC2:=Lib.hid hc2
   clear hc1 hc2
   generalize xs.getD k 0=v at *
   go_wp2_with fail
   refine zau HB (fun i=>false) (by kernel_rfl) ?_
   refine Kx.tk 0 rfl ?_
   refine Kx.tk 1 rfl ?_
   refine Kx.tk 2 rfl ?_
   refine zcw (i:=3) (v := ?v3_1) (a' := ?a3_1) (by first|exact za7|exact zb7|assumption) rfl (by kernel_rfl) (by kernel_rfl) (by kernel_rfl) (fun _ _ _ h=>h) (by kernel_rfl) ?w3_1 ?y3_1 ?f3_1 ?r3_1
   case w3_1=>kernel_rfl
   case y3_1=>(intro W hW;first|(refine Eq.trans (zbx (v:=.int .i64 v) (ad1.add k) rfl (Tryz.isAgg2 _) (hW.old HC1.out)) ?_;with_reducible rfl))
   case f3_1=>(go_simp;try with_reducible rfl)
   refine Kx.tk 4 rfl ?_
   refine Kx.tk 5 rfl ?_
   refine Kx.tk 6 rfl ?_
   refine zcw (i:=7) (v := ?v7_2) (a' := ?a7_2) (by first|exact za7|exact zb7|assumption) rfl (by kernel_rfl) (by kernel_rfl) (by kernel_rfl) (fun _ _ _ h=>h) (by kernel_rfl) ?w7_2 ?y7_2 ?f7_2 ?r7_2
   case w7_2=>kernel_rfl
   case y7_2=>(intro W hW;first|(refine Eq.trans (zbx (v:=.int .i64 v) (ad2.add k) rfl (Tryz.isAgg2 _) (hW.old HC2.out)) ?_;with_reducible rfl))
   case f7_2=>(go_simp;try with_reducible rfl)
   refine Kx.tk 8 rfl ?_
   refine zan (by kernel_rfl) ?_
   clear HB
   intro w_ HB_
   have HB:=Lib.hid HB_
   clear HB_
   go_wp2_with fail
   go_roundg (gk - 1)
   case measure=>omega
   case rel=>exact ⟨k+1,by omega,by go_num,HB⟩
  ·obtain rfl:k=n:=by omega
   have d1:decide ((k:Int) < (k:Int))=false:=by simp
   go_wp2_with fail
   go_ret
   exact ⟨rfl,HB.out.below⟩
set_option maxHeartbeats 4000000 in
theorem PSame_at (x : Gm.Pl) (A : Option Addr) (n c : Nat) (A' : Option Addr) (n' c' : Nat) (D : Option Addr) (d : Nat) (D' : Option Addr) (d' : Nat) (w : World) (hp : PAt w w.heap.size x A n c A' n' c') (hq : PAt w w.heap.size x D n d D' n' d') (hn : n ≤ 9000000 ∧ n' ≤ 9000000) :
  Calls Tryz.prog 21 #[.agg (pc x A n c A' n' c').toArray,.agg (pc x D n d D' n' d').toArray] w fun e w'=>e = .returned (.bool true)∧Below w.heap.size w w':=by
 have HB:=Lib.hid (Bxs.start w)
 have HP:=Lib.hid hp
 have HQ:=Lib.hid hq
 obtain ⟨hn1,hn2⟩:=hn
 have HS:Hid (∀W,Below w.heap.size w W→Calls Tryz.prog 45 #[.slice A' n' c',.slice D' n' d'] W fun e w'=>e = .returned (.bool true)∧Below W.heap.size W w'):=Lib.hid (fun W hb=>zni A' D' n' c' d' x.ch W ((hp.ch.below hb).more hb.size) ((hq.ch.below hb).more hb.size) hp.n' hn2)
 clear hp hq
 go_enter Tryz.func21,Tryz.ntmps21
 go_upto_region 1 with (first|((with_reducible refine zah HB ?_);clear HB;intro w_ HB)|((with_reducible refine zae (d:=some 2) ?_);(first|refine boxa HB rfl ?_|refine boxt HB rfl rfl ?_|refine box1 HB rfl rfl ?_);clear HB;intro b2 w_ HB;refine Kx.fr ?_)|((with_reducible refine zaa (d:=some 2) ?_);(first|refine ala HB ?_|refine al1 HB ?_);clear HB;intro b2 w_ HB;refine Kx.fr ?_)|((with_reducible refine zae (d:=some 3) ?_);(first|refine boxa HB rfl ?_|refine boxt HB rfl rfl ?_|refine box1 HB rfl rfl ?_);clear HB;intro b3 w_ HB;refine Kx.fr ?_)|((with_reducible refine zaa (d:=some 3) ?_);(first|refine ala HB ?_|refine al1 HB ?_);clear HB;intro b3 w_ HB;refine Kx.fr ?_)|((with_reducible refine zae ?_);(first|refine boxa HB rfl ?_|refine boxt HB rfl rfl ?_|refine box1 HB rfl rfl ?_);clear HB;intro b_ w_ HB;refine Kx.fr ?_)|((with_reducible refine zaa ?_);(first|refine ala HB ?_|refine al1 HB ?_);clear HB;intro b_ w_ HB;refine Kx.fr ?_)|((with_reducible refine zab ?_);first|refine Kx.l1 HB rfl rfl ?_|refine Kx.la HB rfl ?_)|((with_reducible refine zac ?_);first|refine l1g HB rfl rfl rfl ?_|refine Kx.lag HB rfl rfl ?_)|((with_reducible refine zad ?_);(first|refine stwa HB rfl rfl ?_|refine sta HB rfl rfl ?_|refine Kx.stc HB rfl rfl ?_|refine Kx.stt HB rfl rfl rfl ?_|refine Kx.st1 HB rfl rfl rfl ?_);clear HB;intro w_ HB))
 simp only [List.append_eq,List.cons_append,List.nil_append]
 go_wp2_with (first|((with_reducible refine zah HB ?_);clear HB;intro w_ HB)|((with_reducible refine zae ?_);(first|refine boxa HB rfl ?_|refine boxt HB rfl rfl ?_|refine box1 HB rfl rfl ?_);clear HB;intro b_ w_ HB;refine Kx.fr ?_)|((with_reducible refine zaa ?_);(first|refine ala HB ?_|refine al1 HB ?_);clear HB;intro b_ w_ HB;refine Kx.fr ?_)|((with_reducible refine zab ?_);first|refine Kx.l1 HB rfl rfl ?_|refine Kx.la HB rfl ?_)|((with_reducible refine zac ?_);first|refine l1g HB rfl rfl rfl ?_|refine Kx.lag HB rfl rfl ?_)|((with_reducible refine zad ?_);(first|refine stwa HB rfl rfl ?_|refine sta HB rfl rfl ?_|refine Kx.stc HB rfl rfl ?_|refine Kx.stt HB rfl rfl rfl ?_|refine Kx.st1 HB rfl rfl rfl ?_);clear HB;intro w_ HB))
 go_loopg [5] n (fun gh ix wr=>∃k:Nat,gh+k=n∧ix = .int .i64 (k:Int)∧Hid (Bxs w wr [(b3,pc x D n d D' n' d'),(b2,pc x A n c A' n' c')]))
 case atStart=>exact ⟨0,by omega,rfl,HB⟩
 case round =>
  clear HB
  obtain ⟨k,hk,rfl,HB⟩:=hrel
  by_cases hlt:k < n
  ·have d1:(k:Int) < (n:Int):=by omega
   obtain ⟨ad1,e1,-,hc1⟩:=HP.out.pen.num (k:=k) (by rw [HP.out.n];exact hlt)
   obtain ⟨ad2,e2,-,hc2⟩:=HQ.out.pen.num (k:=k) (by rw [HQ.out.n];exact hlt)
   have HC1:=Lib.hid hc1
   have HC2:=Lib.hid hc2
   have HX1:Hid ((pc x A n c A' n' c')[10]? = some (.slice (some ad1) n c)):=Lib.hid (by rw [←e1];rfl)
   have HX2:Hid ((pc x D n d D' n' d')[10]? = some (.slice (some ad2) n d)):=Lib.hid (by rw [←e2];rfl)
   clear hc1 hc2 e1 e2
   generalize x.pen.getD k 0=v at *
   go_wp2_with (first|((with_reducible refine zah HB ?_);clear HB;intro w_ HB)|((with_reducible refine zae ?_);(first|refine boxa HB rfl ?_|refine boxt HB rfl rfl ?_|refine box1 HB rfl rfl ?_);clear HB;intro b_ w_ HB;refine Kx.fr ?_)|((with_reducible refine zaa ?_);(first|refine ala HB ?_|refine al1 HB ?_);clear HB;intro b_ w_ HB;refine Kx.fr ?_)|((with_reducible refine zab ?_);first|refine Kx.l1 HB rfl rfl ?_|refine Kx.la HB rfl ?_)|((with_reducible refine zac ?_);first|refine l1g HB rfl rfl rfl ?_|refine Kx.lag HB rfl rfl ?_)|((with_reducible refine zad ?_);(first|refine stwa HB rfl rfl ?_|refine sta HB rfl rfl ?_|refine Kx.stc HB rfl rfl ?_|refine Kx.stt HB rfl rfl rfl ?_|refine Kx.st1 HB rfl rfl rfl ?_);clear HB;intro w_ HB))
   refine zau HB (fun i=>false) (by kernel_rfl) ?_
   refine Kx.tk 0 rfl ?_
   refine zcw (i:=1) (v := ?v1_3) (a' := ?a1_3) (by first|exact za7|exact zb7|assumption) rfl (by kernel_rfl) (by kernel_rfl) (by kernel_rfl) (fun _ _ _ h=>h) (by kernel_rfl) ?w1_3 ?y1_3 ?f1_3 ?r1_3
   case w1_3=>kernel_rfl
   case y1_3=>(intro W hW;first|(refine Eq.trans (Kx.zbg (v:=.slice (some ad1) n c) hW b2 10 rfl (pc x A n c A' n' c') inferInstance (Tryz.isAgg22 _) HX1.out) ?_;with_reducible rfl))
   case f1_3=>(go_simp;try with_reducible rfl)
   refine Kx.tk 2 rfl ?_
   refine Kx.tk 3 rfl ?_
   refine zcw (i:=4) (v := ?v4_4) (a' := ?a4_4) (by first|exact za7|exact zb7|assumption) rfl (by kernel_rfl) (by kernel_rfl) (by kernel_rfl) (fun _ _ _ h=>h) (by kernel_rfl) ?w4_4 ?y4_4 ?f4_4 ?r4_4
   case w4_4=>kernel_rfl
   case y4_4=>(intro W hW;first|(refine Eq.trans (zbx (v:=.int .i64 v) (ad1.add k) rfl (Tryz.isAgg3 _) (hW.old HC1.out)) ?_;with_reducible rfl))
   case f4_4=>(go_simp;try with_reducible rfl)
   refine Kx.tk 5 rfl ?_
   refine zcw (i:=6) (v := ?v6_5) (a' := ?a6_5) (by first|exact za7|exact zb7|assumption) rfl (by kernel_rfl) (by kernel_rfl) (by kernel_rfl) (fun _ _ _ h=>h) (by kernel_rfl) ?w6_5 ?y6_5 ?f6_5 ?r6_5
   case w6_5=>kernel_rfl
   case y6_5=>(intro W hW;first|(refine Eq.trans (Kx.zbg (v:=.slice (some ad2) n d) hW b3 10 rfl (pc x D n d D' n' d') inferInstance (Tryz.isAgg22 _) HX2.out) ?_;with_reducible rfl))
   case f6_5=>(go_simp;try with_reducible rfl)
   refine Kx.tk 7 rfl ?_
   refine Kx.tk 8 rfl ?_
   refine zcw (i:=9) (v := ?v9_6) (a' := ?a9_6) (by first|exact za7|exact zb7|assumption) rfl (by kernel_rfl) (by kernel_rfl) (by kernel_rfl) (fun _ _ _ h=>h) (by kernel_rfl) ?w9_6 ?y9_6 ?f9_6 ?r9_6
   case w9_6=>kernel_rfl
   case y9_6=>(intro W hW;first|(refine Eq.trans (zbx (v:=.int .i64 v) (ad2.add k) rfl (Tryz.isAgg3 _) (hW.old HC2.out)) ?_;with_reducible rfl))
   case f9_6=>(go_simp;try with_reducible rfl)
   refine Kx.tk 10 rfl ?_
   refine zan (by kernel_rfl) ?_
   clear HB
   intro w_ HB_
   have HB:=Lib.hid HB_
   clear HB_
   go_wp2_with fail
   go_roundg (gk - 1)
   case measure=>omega
   case rel=>exact ⟨k+1,by omega,by go_num,HB⟩
  ·obtain rfl:k=n:=by omega
   have d1:decide ((k:Int) < (k:Int))=false:=by simp
   go_wp2_with (first|(go_at_call 45;refine Calls.mono (HS.out _ HB.out.below) ?_;rintro e w_ ⟨rfl,hb_⟩;replace HB:=Lib.hid (HB.out.call hb_);clear hb_)|(first|((with_reducible refine zah HB ?_);clear HB;intro w_ HB)|((with_reducible refine zae ?_);(first|refine boxa HB rfl ?_|refine boxt HB rfl rfl ?_|refine box1 HB rfl rfl ?_);clear HB;intro b_ w_ HB;refine Kx.fr ?_)|((with_reducible refine zaa ?_);(first|refine ala HB ?_|refine al1 HB ?_);clear HB;intro b_ w_ HB;refine Kx.fr ?_)|((with_reducible refine zab ?_);first|refine Kx.l1 HB rfl rfl ?_|refine Kx.la HB rfl ?_)|((with_reducible refine zac ?_);first|refine l1g HB rfl rfl rfl ?_|refine Kx.lag HB rfl rfl ?_)|((with_reducible refine zad ?_);(first|refine stwa HB rfl rfl ?_|refine sta HB rfl rfl ?_|refine Kx.stc HB rfl rfl ?_|refine Kx.stt HB rfl rfl rfl ?_|refine Kx.st1 HB rfl rfl rfl ?_);clear HB;intro w_ HB)))
   go_ret
   exact ⟨rfl,HB.out.below⟩
theorem PSame_eq (p q : Pt) (hx : p.x = q.x) (w : World) (hp : PAt w w.heap.size p.x p.A p.n p.c p.A' p.n' p.c') (hq : PAt w w.heap.size q.x q.A q.n q.c q.A' q.n' q.c') (hn : p.n ≤ 9000000 ∧ p.n' ≤ 9000000) :
  Calls Tryz.prog 21 #[.agg p.cells.toArray,.agg q.cells.toArray] w fun e w'=>e = .returned (.bool true)∧Below w.heap.size w w':=by
 obtain ⟨x,A,n,c,A',n',c'⟩:=p
 obtain ⟨x2,D,m,d,D',m',d'⟩:=q
 dsimp only at hx hp hq hn
 subst hx
 obtain rfl:n=m:=by rw [←hp.n,←hq.n]
 obtain rfl:n'=m':=by rw [←hp.n',←hq.n']
 exact PSame_at x A n c A' n' c' D d D' d' w hp hq hn
end Go.Proofs.YtponpgcpmlcdpaaGreatDoor
