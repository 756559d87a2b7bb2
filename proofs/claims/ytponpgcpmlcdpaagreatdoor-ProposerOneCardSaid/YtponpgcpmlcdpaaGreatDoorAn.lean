import Derived.Test.YtponpgcpmlcdpaaGreatDoorAhx
import Derived.Test.YtponpgcpmlcdpaaGreatDoorId
import Derived.Test.YtponpgcpmlcdpaaGreatDoorKI
set_option maxRecDepth 100000
namespace Go.Proofs.YtponpgcpmlcdpaaGreatDoor
open Go.RowKit Go.Shelf Km Kx Kc Kt
set_option linter.unusedVariables false
set_option linter.unusedSimpArgs false
section
variable {P:Program} {ops:Array Oper} {md:Region.Mode} {Q:Exit→Act→World→Prop} {C:World→Prop} {D:Nat→Bool} {n:Nat} {listed:Array Bool} {a:Act} {a2:Nat→Act}
variable {w0:World} {l:List (Nat×List Value)} {r:List Rw} {F:Fz} {ty t2:TypeId} {x:Operand} {pos:String} {af:Array Edge} {d:Option Tmp} {cs:List Value}
theorem Kx.bxS (i : Nat) (hi : ops[i]? = some (Oper.mk d (.box ty x) t2 pos af none)) (hx : a.eval x = .agg cs.toArray) (hsub : ∀ b w, Bxs w0 w ((b, cs) :: l) r F → C w)
  (h:∀b,anyW P md ops Q C D n (listed.setIfInBounds i true) (At (a2 b) (fun w'=>Bxs w0 w' ((b,cs)::l) r F)))
  (ha:∀b,a.put d (.pointer (some ⟨b,0,none⟩))=a2 b:=by (intro b;go_simp;try with_reducible rfl))
  (hr:Region.ready md ops listed=[i]:=by kernel_rfl) (hn:Region.wanted (Oper.mk d (.box ty x) t2 pos af none) (yielded ops a.tmps)=true:=by kernel_rfl):anyW P md ops Q C D (n+1) listed (At a (fun w'=>Bxs w0 w' l r F)) :=
 zda (fun a' w'=>∃b,At (a2 b) (fun w'=>Bxs w0 w' ((b,cs)::l) r F) a' w') (fun _ _ _ ⟨b,q,q2⟩ hw=>⟨b,q,q2.call hw⟩) hi hr hn (.inr fun _ _ ⟨b,_,q⟩=>hsub b _ q)
  (fun w hw => by
    have hb:=zk3 (P:=P) w ty (.agg cs.toArray) cs rfl
    unfold Oper.wp execOp
    simp only [hx,Sem.run_bind,hb,Result.andThen_ok,Sem.run_pure]
    exact ⟨w.heap.size,ha _,hw.alloc cs ty⟩)
  (zet 0 h)
end
section
variable {w0 w:World} {L:List (Nat×List Value)} {r:List Rw} {F:Fz}
theorem jnew_x (h:Bxs w0 w L r F):Calls Tryz.prog 28 #[] w fun e w'=>∃g,e = .returned (.pointer (some ⟨g,0,none⟩))∧Bxs w0 w' ((g,jcs Jm.new none 0 none 0)::L) (jrow none 0 []::jrow none 0 []::r) F:=by
 have HB:=Lib.hid h
 clear h
 go_enter Tryz.func28,Tryz.ntmps28
 go_wp2_with (first|((with_reducible refine zah HB ?_);clear HB;intro w_ HB)|((with_reducible refine zae ?_);(first|refine boxa HB rfl ?_|refine boxt HB rfl rfl ?_|refine box1 HB rfl rfl ?_);clear HB;intro b_ w_ HB;refine Kx.fr ?_)|((with_reducible refine zaa ?_);(first|refine ala HB ?_|refine al1 HB ?_);clear HB;intro b_ w_ HB;refine Kx.fr ?_)|((with_reducible refine zab ?_);first|refine Kx.l1 HB rfl rfl ?_|refine Kx.la HB rfl ?_)|((with_reducible refine zac ?_);first|refine l1g HB rfl rfl rfl ?_|refine Kx.lag HB rfl rfl ?_)|((with_reducible refine zad ?_);(first|refine stwa HB rfl rfl ?_|refine sta HB rfl rfl ?_|refine Kx.stc HB rfl rfl ?_|refine Kx.stt HB rfl rfl rfl ?_|refine Kx.st1 HB rfl rfl rfl ?_);clear HB;intro w_ HB))
 go_ret
 exact ⟨_,rfl,(HB.out.zn0 5 1).zn0 5 1⟩
set_option maxHeartbeats 1000000 in
theorem clone_x (ad : Addr) (n c : Nat) (xs : List Int) (hr : Rd w w.heap.size (some ad) (i64s xs)) (hn : xs.length = n) (hle : n ≤ 1000) :
  Calls Tryz.prog 27 #[.slice (some ad) n c] w fun e w'=>∃A c',e = .returned (.slice A n c')∧Below w.heap.size w w'∧New w w' [] A (i64s xs)∧n≤c'∧c'≤maxLen:=by
 have HB:=Lib.hid (Bxs.start w)
 have hnl:=fun W=>Lib.run_eql_slice_nil (P:=Tryz.prog) W 22 3 (some ad) n c 0 0 Tryz.underlying22
 have HR:=Lib.hid hr
 have HN:=Lib.hid hn
 clear hr hn
 go_enter Tryz.func27,Tryz.ntmps27
 go_wp2_with (first|((with_reducible refine Kx.zeg ?_);refine Kx.zfu 0 1 rfl (by decide) HB ?_;clear HB;intro w_ HB)|(at_builtin;first|(refine Kx.zd7 HB rfl _ _ 22 rfl _ _ _ rfl 8 3 1 _ rfl Tryz.underlying22 (by kernel_rfl) (by decide) _ _ _ rfl _ (Kc.i64s xs) (HR.out.below HB.out.below) (by (first|(simp [Kc.i64s,HN.out];done)|(intro u hu;simp only [Kc.i64s,List.mem_map] at hu;obtain ⟨y,_,rfl⟩:=hu;rfl)|(unfold maxLen;omega)|omega)) (by (first|(simp [Kc.i64s,HN.out];done)|(intro u hu;simp only [Kc.i64s,List.mem_map] at hu;obtain ⟨y,_,rfl⟩:=hu;rfl)|(unfold maxLen;omega)|omega)) (by (first|(simp [Kc.i64s,HN.out];done)|(intro u hu;simp only [Kc.i64s,List.mem_map] at hu;obtain ⟨y,_,rfl⟩:=hu;rfl)|(unfold maxLen;omega)|omega)) (by (first|(simp [Kc.i64s,HN.out];done)|(intro u hu;simp only [Kc.i64s,List.mem_map] at hu;obtain ⟨y,_,rfl⟩:=hu;rfl)|(unfold maxLen;omega)|omega)) ?_;clear HB;intro A_ c_ w_ hl_ hm_ HB;refine Kx.framed ?_ (by simp only [Act.put,List.setIfInBounds_toArray,List.set_cons_succ,List.set_cons_zero]<;>rfl))|(refine Kx.zdw HB rfl _ _ 22 rfl rfl 8 3 1 Tryz.underlying22 (by kernel_rfl) (by decide) _ _ _ rfl _ (Kc.i64s xs) (HR.out.below HB.out.below) (by (first|(simp [Kc.i64s,HN.out];done)|(intro u hu;simp only [Kc.i64s,List.mem_map] at hu;obtain ⟨y,_,rfl⟩:=hu;rfl)|(unfold maxLen;omega)|omega)) (by (first|(simp [Kc.i64s,HN.out];done)|(intro u hu;simp only [Kc.i64s,List.mem_map] at hu;obtain ⟨y,_,rfl⟩:=hu;rfl)|(unfold maxLen;omega)|omega)) (by (first|(simp [Kc.i64s,HN.out];done)|(intro u hu;simp only [Kc.i64s,List.mem_map] at hu;obtain ⟨y,_,rfl⟩:=hu;rfl)|(unfold maxLen;omega)|omega)) (by (first|(simp [Kc.i64s,HN.out];done)|(intro u hu;simp only [Kc.i64s,List.mem_map] at hu;obtain ⟨y,_,rfl⟩:=hu;rfl)|(unfold maxLen;omega)|omega)) ?_;clear HB;intro A_ c_ w_ hl_ hm_ HB;refine Kx.framed ?_ (by simp only [Act.put,List.setIfInBounds_toArray,List.set_cons_succ,List.set_cons_zero]<;>rfl))))
 go_ret
 simp only [Nat.zero_add,List.nil_append] at HB hl_
 exact ⟨_,_,by simp,HB.out.below,HB.out.zmw,hl_,hm_⟩
theorem Kx.Bxs.newOf {w0 w:World} {l:List (Nat×List Value)} {r:List Rw} {F G:Fz} {A:Option Addr} {xs:List Value} (h:Bxs w0 w l r ((A,xs)::F)) (hlow:∀(j:Nat) (u:Value),xs[j]? = some u→∃ad,A=some ad∧w0.heap.size≤ad.block):New w0 w G A xs:=fun j u hj=>by
 obtain ⟨ad,e,h1,h2,-⟩:=h.stay _ (List.mem_cons_self ..) j u hj
 obtain ⟨ad',e',h3⟩:=hlow j u hj
 dsimp only at e
 rw [e] at e'
 cases e'
 exact ⟨ad,e,h1,h2,.inl h3⟩
theorem New.low {w w2 w':World} {A:Option Addr} {xs:List Value} (h:New w2 w' [] A xs) (hb:w.heap.size≤w2.heap.size):∀(j:Nat) (u:Value),xs[j]? = some u→∃ad,A=some ad∧w.heap.size≤ad.block:=fun j u hj=>by
 obtain ⟨ad,e,_,_,h4⟩:=h j u hj
 rcases h4 with h4|⟨q,hq,_⟩
 ·exact ⟨ad,e,Nat.le_trans hb h4⟩
 ·cases hq
theorem Im1:Pm.I (-1):=⟨by decide,by decide⟩
theorem zjz {N:Nat} (h:N≤16) (A:Option Addr):Pt.Fine ⟨zp N,A,N,N,none,0,0⟩ :=
 ⟨⟨I0,Im1,Im1,Im1,I0,I0,I0,I0,U0,U0,(fun v hv=>by rw [(List.mem_replicate.1 hv).2];exact ⟨by decide,by decide⟩),(fun v hv=>by cases hv)⟩,List.length_replicate ..,Nat.le_refl _,by show N≤maxLen;unfold maxLen;omega,rfl,Nat.le_refl _,Nat.zero_le _⟩
set_option maxHeartbeats 1000000 in
theorem Zero_x (c : Cf) (xs : List Int) (N : Nat) (hr : Rd w w.heap.size c.ta (i64s xs)) (hl : xs.length = c.tn) (hc : zfa c xs) (hN : c.targets = (N : Int)) :
  Calls Tryz.prog 52 #[.agg (cf c).toArray] w fun e w'=>∃p:Pt,e = .returned (.agg p.cells.toArray)∧Below w.heap.size w w'∧New w w' [] p.A (i64s p.x.pen)∧p.x=zp N∧p.Fine:=by
 have HB:=Lib.hid (Bxs.start w)
 have HR:Hid (∀W,Below w.heap.size w W→Calls Tryz.prog 26 #[.agg (cf c).toArray] W fun e w'=>e = .returned (.bool true)∧Below W.heap.size W w'):=Lib.hid (fun W hb=>by
  have:=zok c xs W ((hr.below hb).more hb.size) hl ((zbr c xs).2 hc)
  exact this)
 have h16:N≤16:=by have:=hc.targets.2;omega
 have H16:=Lib.hid h16
 clear hr hl hc
 obtain ⟨i0,hi,hz0,hz1,hz2⟩:=info_parts (P:=Tryz.prog) (e:=3) (z:=.int .i64 0) (size:=1) (bytes:=8) (by kernel_rfl)
 have HCT:Hid ((cf c)[2]? = some (.int .i64 (N:Int))):=Lib.hid (by rw [←hN];rfl)
 clear hN
 go_enter Tryz.func52,Tryz.ntmps52
 go_wp2_with (first|(at_make;go_must (refine zj0 HB rfl _ _ 22 rfl 3 i0 (.int .i64 0) 1 Tryz.underlying22 hi hz0 hz1 .i64 .i64 (N:Int) (N:Int) N rfl rfl rfl rfl (by rw [hz2];omega) (by unfold maxLen;omega) ?_);clear HB;intro g w_ HB;rw [zli] at HB;refine Kx.framed ?_ (by simp only [Act.put,List.setIfInBounds_toArray,List.set_cons_succ,List.set_cons_zero]<;>rfl))|((with_reducible refine Kx.zbk ?_);refine Km.wpList_build rfl 34 _ rfl #[(1,.int .i64 (-1)),(2,.int .i64 (-1)),(3,.int .i64 (-1)),(10,.slice (some ⟨g,0,none⟩) N N)] (by first|rfl|(go_simp;try rfl)) (pc (zp N) (some ⟨g,0,none⟩) N N none 0 0).toArray (znn _ N N) ?_;refine Kx.framed ?_ (by simp only [Act.put,List.setIfInBounds_toArray,List.set_cons_succ,List.set_cons_zero]<;>rfl))|(go_at_call 26;refine Calls.mono (HR.out _ HB.out.below) ?_;rintro e w_ ⟨rfl,hb_⟩;replace HB:=Lib.hid (HB.out.call hb_);clear hb_)|((with_reducible refine zab ?_);refine zai HB rfl _ _ rfl _ rfl (cf c) (Tryz.isAgg3 _) _ HCT.out (Kx.framed ?_ (by simp only [Act.put,List.setIfInBounds_toArray,List.set_cons_succ,List.set_cons_zero]<;>rfl)))|(first|((with_reducible refine zah HB ?_);clear HB;intro w_ HB)|((with_reducible refine zae ?_);(first|refine boxa HB rfl ?_|refine boxt HB rfl rfl ?_|refine box1 HB rfl rfl ?_);clear HB;intro b_ w_ HB;refine Kx.fr ?_)|((with_reducible refine zaa ?_);(first|refine ala HB ?_|refine al1 HB ?_);clear HB;intro b_ w_ HB;refine Kx.fr ?_)|((with_reducible refine zab ?_);first|refine Kx.l1 HB rfl rfl ?_|refine Kx.la HB rfl ?_)|((with_reducible refine zac ?_);first|refine l1g HB rfl rfl rfl ?_|refine Kx.lag HB rfl rfl ?_)|((with_reducible refine zad ?_);(first|refine stwa HB rfl rfl ?_|refine sta HB rfl rfl ?_|refine Kx.stc HB rfl rfl ?_|refine Kx.stt HB rfl rfl rfl ?_|refine Kx.st1 HB rfl rfl rfl ?_);clear HB;intro w_ HB)))
 refine bodyPost_ret (Kx.zbh HB rfl _ _ _ rfl (by first|(simp<;>rfl)|rfl) (by first|(simp<;>rfl)|rfl)) rfl ?_;exact ⟨⟨zp N,some ⟨g,0,none⟩,N,N,none,0,0⟩,rfl,HB.out.below,HB.out.zmw,rfl,zjz H16.out _⟩
def stc (p:Pt):List Value:=[.int .i64 0]++(p.cells++([.int .i64 0,.int .i64 0]++(noPt.cells++[.int .i64 0,.int .i64 0,.bool false,.int .i64 (-1)])))
instance:Kx.AggC Tryz.prog 77 31:=⟨Tryz.isAgg77,Tryz.sizeOf77⟩
instance:Kx.ZAgg Tryz.prog 77 (let z:=[.int .i64 0,.int .i64 0,.int .i64 0,.int .i64 0,.int .i64 0,.int .i64 0,.int .i64 0,.int .i64 0,.int .u64 0,.int .u64 0,.slice none 0 0,.slice none 0 0];[.int .i64 0]++z++[.int .i64 0,.int .i64 0]++z++[.int .i64 0,.int .i64 0,.bool false,.int .i64 0]):=⟨Tryz.zeroValue77⟩
theorem zpz (p:Pt):Tryz.prog.built 77 [(1,.agg p.cells.toArray),(8,.int .i64 (-1))]=some (stc p).toArray:=by kernel_rfl
def newA (c:Cf) (node:Int) (p:Pt):Ac:=⟨c,node,0,p,0,0,noPt,0,0,false,-1,0,0,0,0⟩
theorem zoi (c:Cf) (node:Int) (g:Nat) (p:Pt):Tryz.prog.built 80 [(0,.agg (cf c).toArray),(1,.int .i64 node),(2,.pointer (some ⟨g,0,none⟩)),(3,.agg (stc p).toArray)]=some ((newA c node p).cells g).toArray:=by kernel_rfl
set_option maxHeartbeats 1000000 in
theorem zlk (c : Cf) (xs : List Int) (N : Nat) (hr : Rd w w.heap.size c.ta (i64s xs)) (hl : xs.length = c.tn) (hc : zfa c xs) (hN : c.targets = (N : Int)) :
  Calls Tryz.prog 29 #[.agg (cf c).toArray] w fun e w'=>∃p:Pt,e = .returned (.agg (stc p).toArray)∧Below w.heap.size w w'∧New w w' [] p.A (i64s p.x.pen)∧p.x=zp N∧p.Fine:=by
 have HB:=Lib.hid (Bxs.start w)
 have HZ:Hid (∀W,Below w.heap.size w W→Calls Tryz.prog 52 #[.agg (cf c).toArray] W fun e w'=>∃p:Pt,e = .returned (.agg p.cells.toArray)∧Below W.heap.size W w'∧New W w' [] p.A (i64s p.x.pen)∧p.x=zp N∧p.Fine):=Lib.hid (fun W hb=>Zero_x c xs N ((hr.below hb).more hb.size) hl hc hN)
 clear hr hl hc hN
 go_enter Tryz.func29,Tryz.ntmps29
 go_wp2_with (first|(go_at_call 52;fail)|(first|((with_reducible refine zah HB ?_);clear HB;intro w_ HB)|((with_reducible refine zae ?_);(first|refine boxa HB rfl ?_|refine boxt HB rfl rfl ?_|refine box1 HB rfl rfl ?_);clear HB;intro b_ w_ HB;refine Kx.fr ?_)|((with_reducible refine zaa ?_);(first|refine ala HB ?_|refine al1 HB ?_);clear HB;intro b_ w_ HB;refine Kx.fr ?_)|((with_reducible refine zab ?_);first|refine Kx.l1 HB rfl rfl ?_|refine Kx.la HB rfl ?_)|((with_reducible refine zac ?_);first|refine l1g HB rfl rfl rfl ?_|refine Kx.lag HB rfl rfl ?_)|((with_reducible refine zad ?_);(first|refine stwa HB rfl rfl ?_|refine sta HB rfl rfl ?_|refine Kx.stc HB rfl rfl ?_|refine Kx.stt HB rfl rfl rfl ?_|refine Kx.st1 HB rfl rfl rfl ?_);clear HB;intro w_ HB)))
 refine (HZ.out _ HB.out.below).mono ?_
 rintro e w2 ⟨p,rfl,hb,hn,hx,hf⟩
 have HLow:=Lib.hid (New.low hn HB.out.size)
 have HP:=Lib.hid (And.intro hx hf)
 have HS:=Lib.hid (zpz p)
 replace HB:=Lib.hid (HB.out.zh1 hb hn (fun _ q=>by cases q))
 clear hb hn hx hf HZ
 go_wp2_with (first|((with_reducible refine Kx.zbk ?_);refine Km.wpList_build rfl 77 _ rfl #[(1,.agg p.cells.toArray),(8,.int .i64 (-1))] (by first|rfl|(go_simp;try rfl)) (stc p).toArray (HS.out) ?_;refine Kx.framed ?_ (by simp only [Act.put,List.setIfInBounds_toArray,List.set_cons_succ,List.set_cons_zero]<;>rfl))|(first|((with_reducible refine zah HB ?_);clear HB;intro w_ HB)|((with_reducible refine zae ?_);(first|refine boxa HB rfl ?_|refine boxt HB rfl rfl ?_|refine box1 HB rfl rfl ?_);clear HB;intro b_ w_ HB;refine Kx.fr ?_)|((with_reducible refine zaa ?_);(first|refine ala HB ?_|refine al1 HB ?_);clear HB;intro b_ w_ HB;refine Kx.fr ?_)|((with_reducible refine zab ?_);first|refine Kx.l1 HB rfl rfl ?_|refine Kx.la HB rfl ?_)|((with_reducible refine zac ?_);first|refine l1g HB rfl rfl rfl ?_|refine Kx.lag HB rfl rfl ?_)|((with_reducible refine zad ?_);(first|refine stwa HB rfl rfl ?_|refine sta HB rfl rfl ?_|refine Kx.stc HB rfl rfl ?_|refine Kx.stt HB rfl rfl rfl ?_|refine Kx.st1 HB rfl rfl rfl ?_);clear HB;intro w_ HB)))
 refine bodyPost_ret (Kx.zbh HB rfl _ _ _ rfl (by first|(simp<;>rfl)|rfl) (by first|(simp<;>rfl)|rfl)) rfl ?_;exact ⟨p,rfl,HB.out.below,HB.out.newOf HLow.out,HP.out.1,HP.out.2⟩
@[simp] theorem cf_set (c:Cf) (A:Option Addr) (n k:Nat):(cf c).set 5 (.slice A n k)=cf { c with ta:=A,tn:=n,tc:=k }:=rfl
@[simp] theorem cf_len' (c:Cf):(cf c).length=30:=rfl
def NewOk (c:Cf) (xs:List Int) (node:Int):Prop:=zfa c xs∧0≤node∧node≤255
set_option maxHeartbeats 2000000 in
theorem New_y (h : Bxs w0 w L r F) (c : Cf) (xs : List Int) (node : Int) (N : Nat) (hF : Within [(c.ta, i64s xs)] F) (hl : xs.length = c.tn) (hn : NewOk c xs node) (hN : c.targets = (N : Int)) :
  Calls Tryz.prog 7 #[.agg (cf c).toArray,.int .i64 node] w fun e w'=>∃(y:Nat×Nat×Option Addr×Nat×Pt),e = .returned (.pointer (some ⟨y.1,0,none⟩)) ∧
   Jbx w0 w' y.2.1 Jm.new ((y.1,(newA { c with ta:=y.2.2.1,tn:=c.tn,tc:=y.2.2.2.1 } node y.2.2.2.2).cells y.2.1)::L) r ((y.2.2.2.2.A,i64s y.2.2.2.2.x.pen)::(y.2.2.1,i64s xs)::F)∧y.2.2.2.2.x=zp N∧y.2.2.2.2.Fine:=by
 have HB:=Lib.hid h
 have hc:=hn.1
 have HRi:Hid (∀ {W:World} {L:List (Nat×List Value)} {r':List Rw},Bxs w0 W L r' F→Calls Tryz.prog 26 #[.agg (cf c).toArray] W fun e w'=>e = .returned (.bool true)∧Below W.heap.size W w'):=Lib.hid (fun q=>by
  have:=zok c xs _ (hF.rd q (List.mem_cons_self ..)) hl ((zbr c xs).2 hc)
  exact this)
 have h16:1≤c.tn∧c.tn≤16:=by have h1:=hc.targets;have h2:=hc.n;omega
 have e1:decide (node < 0)=false:=decide_eq_false (by have:=hn.2.1;omega)
 have e2:decide (255 < node)=false:=decide_eq_false (by have:=hn.2.2;omega)
 obtain ⟨ad,hA⟩ : ∃ad,c.ta=some ad:=by
  obtain ⟨v,vs,hv⟩ : ∃v vs,xs=v::vs:=List.exists_cons_of_ne_nil (by intro q;rw [q] at hl;simp at hl;omega)
  have:=(hF.rd h (List.mem_cons_self ..)) 0 (.int .i64 v) (by rw [hv];rfl)
  obtain ⟨ad,e,-⟩:=this
  exact ⟨ad,e⟩
 have HCl:Hid (∀ {W:World} {L:List (Nat×List Value)} {r':List Rw},Bxs w0 W L r' F→Calls Tryz.prog 27 #[.slice c.ta c.tn c.tc] W fun e w'=>∃A c',e = .returned (.slice A c.tn c')∧Below W.heap.size W w'∧New W w' [] A (i64s xs)∧c.tn≤c'∧c'≤maxLen):=Lib.hid (fun q=>by
  have hr:=hF.rd q (List.mem_cons_self ..)
  rw [hA] at hr ⊢
  exact clone_x ad c.tn c.tc xs hr hl (by omega))
 have HIn:Hid (∀(A:Option Addr) (c':Nat) {W:World} {L:List (Nat×List Value)} {r':List Rw},Bxs w0 W L r' ((A,i64s xs)::F)→Calls Tryz.prog 29 #[.agg (cf { c with ta:=A,tn:=c.tn,tc:=c' }).toArray] W fun e w'=>∃p:Pt,e = .returned (.agg (stc p).toArray)∧Below W.heap.size W w'∧New W w' [] p.A (i64s p.x.pen)∧p.x=zp N∧p.Fine):=Lib.hid (fun A c' _ _ _ q=>zlk { c with ta:=A,tn:=c.tn,tc:=c' } xs N (q.zfc (List.mem_cons_self ..)) hl (by cases hc;constructor<;>assumption) hN)
 have H16:Hid (N≤16):=Lib.hid (by have:=hc.targets.2;omega)
 clear h hF hl hn hN hc h16 hA
 go_enter Tryz.func7,Tryz.ntmps7
 go_upto_region 4 with (first|(go_at_call 26;refine Calls.mono (HRi.out HB.out) ?_;rintro e w_ ⟨rfl,hb_⟩;replace HB:=Lib.hid (HB.out.call hb_);clear hb_)|(go_at_call 27;refine (HCl.out HB.out).mono ?_;rintro e w_ ⟨A,c',rfl,hb_,hn_,h1_,h2_⟩;replace HB:=Lib.hid (HB.out.zh1 hb_ hn_ (fun _ q=>by cases q));clear hb_ hn_ h1_ h2_)|(first|((with_reducible refine zah HB ?_);clear HB;intro w_ HB)|((with_reducible refine zae (d:=some 2) ?_);(first|refine boxa HB rfl ?_|refine boxt HB rfl rfl ?_|refine box1 HB rfl rfl ?_);clear HB;intro b2 w_ HB;refine Kx.fr ?_)|((with_reducible refine zaa (d:=some 2) ?_);(first|refine ala HB ?_|refine al1 HB ?_);clear HB;intro b2 w_ HB;refine Kx.fr ?_)|((with_reducible refine zae ?_);(first|refine boxa HB rfl ?_|refine boxt HB rfl rfl ?_|refine box1 HB rfl rfl ?_);clear HB;intro b_ w_ HB;refine Kx.fr ?_)|((with_reducible refine zaa ?_);(first|refine ala HB ?_|refine al1 HB ?_);clear HB;intro b_ w_ HB;refine Kx.fr ?_)|((with_reducible refine zab ?_);first|refine Kx.l1 HB rfl rfl ?_|refine Kx.la HB rfl ?_)|((with_reducible refine zac ?_);first|refine l1g HB rfl rfl rfl ?_|refine Kx.lag HB rfl rfl ?_)|((with_reducible refine zad ?_);(first|refine stwa HB rfl rfl ?_|refine sta HB rfl rfl ?_|refine Kx.stc HB rfl rfl ?_|refine Kx.stt HB rfl rfl rfl ?_|refine Kx.st1 HB rfl rfl rfl ?_);clear HB;intro w_ HB)))
 refine zau HB (fun i=>false) (by kernel_rfl) ?_
 first|refine xl1 0 rfl rfl rfl ?_|refine xla 0 rfl rfl ?_
 refine Kx.tk 1 rfl ?_
 first|refine xl1 3 rfl rfl rfl ?_|refine xla 3 rfl rfl ?_
 refine Kx.zfn (ι:=Nat) 2 (fun g => .pointer (some ⟨g,0,none⟩)) (fun g w'=>Bxs w0 w' ((g,jcs Jm.new none 0 none 0)::(b2,cf { c with ta:=A,tn:=c.tn,tc:=c' })::L) (jrow none 0 []::jrow none 0 []::r) ((A,i64s xs)::F)) 0 rfl (fun _=>za7) (fun _ _ q=>q.tail.zev.zev) ?e1 (fun w hw=>jnew_x hw) ?h1
 case e1=>(intro w hw;go_simp;try (first|(refine ⟨?_,?_⟩<;>with_reducible rfl)|with_reducible rfl))
 intro g
 refine Kx.zfn (ι:={p:Pt // p.x=zp N∧p.Fine}) 4 (fun y => .agg (stc y.1).toArray) (fun y w'=>Bxs w0 w' ((g,jcs Jm.new none 0 none 0)::(b2,cf { c with ta:=A,tn:=c.tn,tc:=c' })::L) (jrow none 0 []::jrow none 0 []::r) ((y.1.A,i64s y.1.x.pen)::(A,i64s xs)::F)) ⟨_,rfl,zjz H16.out none⟩ rfl (fun _=>za7) (fun _ _ q=>(q.tail.zev.zev).zno fun z hz=>List.mem_cons_of_mem _ hz) ?e2 (fun w hw=>(HIn.out A c' hw).mono fun e w' k=>by
  obtain ⟨p,rfl,hb,hn,hx,hf⟩:=k
  exact ⟨⟨p,hx,hf⟩,rfl,hw.zh1 hb hn (fun _ q=>by cases q)⟩) ?h2
 case e2=>(intro w hw;go_simp;try (first|(refine ⟨?_,?_⟩<;>with_reducible rfl)|with_reducible rfl))
 rintro ⟨p,hx,hf⟩
 have HP:=Lib.hid (And.intro hx hf)
 dsimp only
 have hsub:∀w',Bxs w0 w' ((g,jcs Jm.new none 0 none 0)::(b2,cf { c with ta:=A,tn:=c.tn,tc:=c' })::L) (jrow none 0 []::jrow none 0 []::r) ((p.A,i64s p.x.pen)::(A,i64s xs)::F)→Bxs w0 w' ((b2,cf { c with ta:=A,tn:=c.tn,tc:=c' })::L) r ((A,i64s xs)::F):=fun w' q=>(q.tail.zev.zev).zno fun z hz=>List.mem_cons_of_mem _ hz
 refine lsS 5 rfl hsub ?_ (v:=.agg ((newA { c with ta:=A,tn:=c.tn,tc:=c' } node p).cells g).toArray) (hy:=fun w hw=>zcr 80 _ rfl #[(0,.agg (cf { c with ta:=A,tn:=c.tn,tc:=c' }).toArray),(1,.int .i64 node),(2,.pointer (some ⟨g,0,none⟩)),(3,.agg (stc p).toArray)] (by go_simp;try rfl) _ (zoi _ node g p))
 refine Kx.bxS 6 rfl rfl (fun b w q=>hsub w q.tail) ?_
 intro ga
 refine lsS 7 rfl (fun w q=>hsub w q.tail) ?_
 refine zan (by kernel_rfl) ?_
 clear HB
 intro w_ HB_
 have HB:=Lib.hid HB_
 clear HB_
 go_wp2
 go_ret
 refine ⟨(ga,g,A,c',p),rfl,?_,HP.out.1,HP.out.2⟩
 exact (Jbx.front HB.out Jm.ok_new).zde
end
end Go.Proofs.YtponpgcpmlcdpaaGreatDoor
